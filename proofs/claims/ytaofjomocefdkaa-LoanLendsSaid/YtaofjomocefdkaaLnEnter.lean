/-
  WALKS (layer 9, loan): loans that are entered into the calendar, one after the other.
-/
import Derived.Test.YtaofjomocefdkaaLnDays
import Derived.Lib.QuietBelow
import Derived.Deep.RegionHeld3
namespace Go.Proofs.Ytaofjomocefdkaa.Ln
open Go Go.RowKit Go.Sort

theorem LS.last {w : World} {g : Option Addr} {c m : Nat} {l : List Loan} (h : LS w (.slice g l.length c) l) (hm : l.length = m + 1) : ∃ y b o, l.getLast? = some y ∧ g = some ⟨b, o, none⟩ ∧ w.cell? ⟨b, o + m * 5 + 2, none⟩ = some (.int .i64 y.out) := by
  obtain ⟨g', c', e, -, hi⟩ := h
  simp only [Value.slice.injEq] at e
  obtain ⟨rfl, -, rfl⟩ := e
  have hl : m < l.length := by omega
  obtain ⟨b, o, hg, ha, -⟩ := hi m l[m] (List.getElem?_eq_getElem hl)
  refine ⟨l[m], b, o, ?_, hg, ha.c2⟩
  rw [List.getLast?_eq_getElem?, hm, Nat.add_sub_cancel, List.getElem?_eq_getElem hl]
theorem LS.take {w : World} {g : Option Addr} {c k : Nat} {l : List Loan} (h : LS w (.slice g l.length c) l) (hk : k ≤ l.length) : LS w (.slice g (l.take k).length c) (l.take k) := by
  obtain ⟨g', c', e, hc, hi⟩ := h
  simp only [Value.slice.injEq] at e
  obtain ⟨rfl, -, rfl⟩ := e
  refine ⟨g, c, rfl, by rw [List.length_take]; omega, fun i x hx => hi i x ?_⟩
  rw [List.getElem?_take] at hx
  split at hx
  · exact hx
  · cases hx
theorem bx_start {w W1 : World} {x : Loan} {t : TypeId} (h : w.alloc (.cells #[.string x.p, .string x.t, .int .i64 x.out, .int .i64 x.due, .int .i64 x.back] t) = W1) : Below w.heap.size w W1 ∧ LAt W1 w.heap.size 0 x := by
  subst h
  exact ⟨by repeat (first | exact Below.refl _ _ | refine Below.alloc ?_ (by simp <;> omega) _ | refine bDrewN ?_ _ | refine Below.drew ?_), ⟨by go_simp, by go_simp, by go_simp, by go_simp, by go_simp⟩⟩
set_option maxHeartbeats 1000000 in
theorem follows_any (g : Option Addr) (c : Nat) (pre : List Loan) (x : Loan) (w : World) (hv : LS w (.slice g pre.length c) pre) (hx : x.wf) (hl : pre.length ≤ 100000) :
    Calls Try.prog 54 #[.slice g pre.length c, .agg #[.string x.p, .string x.t, .int .i64 x.out, .int .i64 x.due, .int .i64 x.back]] w fun e w' => e = .returned (.bool (folB pre x)) ∧ Below w.heap.size w w' := by
  have HV : Kp (∀ W, Calls Try.prog 15 #[.agg #[.string x.p, .string x.t, .int .i64 x.out, .int .i64 x.due, .int .i64 x.back]] W fun e w' => e = .returned (.bool (okB x)) ∧ Below W.heap.size W w') := ⟨fun W => ValidLoan_any x W hx⟩
  have HF : Kp (folB pre x = ((prevOk pre x && decide (pre.length < 200)) && okB x)) := ⟨rfl⟩
  obtain ⟨V, hV⟩ : ∃ V, okB x = V := ⟨_, rfl⟩
  rw [hV] at HV HF
  cases hm : pre.length with
  | zero =>
    have hp : prevOk pre x = true := by
      rw [List.eq_nil_of_length_eq_zero hm]; rfl
    rw [hp, hm] at HF
    rw [HF.out]
    obtain ⟨p, t, o, d, b⟩ := x
    simp only at *
    clear hv hx hl hV hp hm HF
    go_enter Try.func54, Try.ntmps54
    go_wp2
    obtain ⟨W1, hW1⟩ : ∃ W1, w.alloc (.cells #[.string p, .string t, .int .i64 o, .int .i64 d, .int .i64 b] 26) = W1 := ⟨_, rfl⟩
    rw [hW1]
    obtain ⟨hb1, hat⟩ := bx_start (x := ⟨p, t, o, d, b⟩) hW1
    have HB1 := Kp.mk hb1
    have HAT := Kp.mk hat
    clear hW1 hb1 hat
    refine wp_region_quiet_below (by kernel_rfl) (by kernel_rfl) ?_
    repeat (any_goals (first | go_big_quiet_step (fail) | quiet_step (fail)))
    refine wpQuiet_nil ?_
    intro _ hqw
    obtain ⟨⟨dq, osq⟩, hqv⟩ := hqw
    subst hqv
    obtain ⟨wq, hqwq⟩ : ∃ wq, grow (redrawn (W1) dq) osq = wq := ⟨_, rfl⟩
    have hbwq : Below (W1).heap.size (W1) wq := by rw [← hqwq]; exact below_regrown _ dq osq
    rw [hqwq]
    clear hqwq
    obtain ⟨c0, c1, c2, c3, c4⟩ := HAT.out.on hbwq
    simp only [Nat.zero_add] at c0 c1 c2 c3 c4
    have HBQ := Kp.mk (HB1.out.trans (hbwq.mono HB1.out.size))
    clear hbwq
    go_wp2_with fail
    refine (HV.out _).mono ?_
    rintro en w2 ⟨rfl, hb2⟩
    have HB2 := Kp.mk (HBQ.out.trans (hb2.mono HBQ.out.size))
    clear hb2
    go_wp2
    go_ret
    exact ⟨rfl, HB2.out⟩
  | succ m =>
    obtain ⟨y, b', o', hy, rfl, hcy⟩ := hv.last hm
    have hp : prevOk pre x = decide (y.out ≤ x.out) := by unfold prevOk; rw [hy]
    rw [hp] at HF
    obtain ⟨N, hN⟩ : ∃ N, pre.length = N := ⟨_, rfl⟩
    rw [← hm, hN]
    rw [hN] at HF hm hl
    rw [HF.out]
    obtain ⟨yo, hyo⟩ : ∃ yo, y.out = yo := ⟨_, rfl⟩
    rw [hyo] at hcy ⊢
    obtain ⟨p, t, o, d, b⟩ := x
    simp only at *
    have i4 : ((N : Int) == 0) = false := by simp; omega
    have i5 : IntKind.i64.wrap ((N : Int) - 1) = (m : Int) := by rw [show (N : Int) - 1 = m by omega]; exact IntWalk.i64_in _ (by omega)
    have o5 : (m : Int) < (N : Int) := by omega
    obtain ⟨P, hP⟩ : ∃ P, decide (yo ≤ o) = P := ⟨_, rfl⟩
    obtain ⟨Q, hQ⟩ : ∃ Q, decide (N < 200) = Q := ⟨_, rfl⟩
    have i7 : decide (N < 200) = Q := hQ
    have i8 : decide ((N : Int) < 200) = Q := by rw [← hQ]; exact decide_eq_decide.2 (by omega)
    rw [hP, hQ]
    clear hv hx hl hV hp hy hm HF hN hyo hQ i7
    go_enter Try.func54, Try.ntmps54
    go_wp2
    obtain ⟨W1, hW1⟩ : ∃ W1, w.alloc (.cells #[.string p, .string t, .int .i64 o, .int .i64 d, .int .i64 b] 26) = W1 := ⟨_, rfl⟩
    rw [hW1]
    obtain ⟨hb1, hat⟩ := bx_start (x := ⟨p, t, o, d, b⟩) hW1
    have hcy1 : W1.cell? ⟨b', o' + m * 5 + 2, none⟩ = some (.int .i64 yo) := (hb1.cell (p := ⟨b', _, none⟩) (World.block_lt_of_cell? _ _ hcy)).trans hcy
    have hco : W1.cell? ⟨w.heap.size, 2, none⟩ = some (.int .i64 o) := hat.c2
    have HB1 := Kp.mk hb1
    have HAT := Kp.mk hat
    have rg_hcy1 := fun d os => cell_regrown hcy1 d os
    have rg_hco := fun d os => cell_regrown hco d os
    clear hW1 hb1 hat hcy hcy1 hco
    refine wp_region_quiet_below (by kernel_rfl) (by kernel_rfl) ?_
    repeat (any_goals (first | go_big_quiet_step (fail) | quiet_step (fail)))
    refine wpQuiet_nil ?_
    intro _ hqw
    obtain ⟨⟨dq, osq⟩, hqv⟩ := hqw
    subst hqv
    obtain ⟨wq, hqwq⟩ : ∃ wq, grow (redrawn (W1) dq) osq = wq := ⟨_, rfl⟩
    have hbwq : Below (W1).heap.size (W1) wq := by rw [← hqwq]; exact below_regrown _ dq osq
    rw [hqwq]
    clear hqwq
    obtain ⟨c0, c1, c2, c3, c4⟩ := HAT.out.on hbwq
    simp only [Nat.zero_add] at c0 c1 c2 c3 c4
    have HBQ := Kp.mk (HB1.out.trans (hbwq.mono HB1.out.size))
    clear hbwq rg_hcy1 rg_hco
    cases P with
    | false =>
      go_wp2
      go_ret
      exact ⟨rfl, HBQ.out⟩
    | true =>
      cases Q with
      | false =>
        go_wp2
        go_ret
        exact ⟨rfl, HBQ.out⟩
      | true =>
        go_wp2_with fail
        refine (HV.out _).mono ?_
        rintro en w2 ⟨rfl, hb2⟩
        have HB2 := Kp.mk (HBQ.out.trans (hb2.mono HBQ.out.size))
        clear hb2
        go_wp2
        go_ret
        exact ⟨rfl, HB2.out⟩
/-- What an entry makes: the row with one span more, and the calendar with it. -/
theorem enter_next {wq : World} {b n k : Nat} {C C' : ByteArray → List (Int × Int)} {s : ByteArray} {g : Option Addr} {cv : Nat} {q : Int × Int} {sp : List (Int × Int)} (hk : sp.length = k) (hC : Cal wq b (b + 1) n C) (hs : s.size ≤ maxLen) (hn : n < maxLen) (hsp : C s = sp) (hl : k ≤ 100000)
    (hlook : (Instr.lookup 66 (.map (some b)) (.string s) false).run Try.prog wq = .ok (.slice g k cv) wq) (hC1 : C' s = sp ++ [q]) (hC2 : ∀ t, t ≠ s → C' t = C t) : ∀ X, Below wq.heap.size wq X → ∃ g' c' W' W2,
      (Builtin.append_ #[90, 90] 90 #[.slice g k cv, .slice (some ⟨X.heap.size, 0, none⟩) 1 1]).run Try.prog (X.alloc (.cells #[.int .i64 q.1, .int .i64 q.2] 86)) = .ok (.slice g' (k + 1) c') W' ∧
      (Instr.mapUpdate 66 (.map (some b)) (.string s) (.slice g' (k + 1) c')).run Try.prog W' = .ok () W2 ∧ Cal W2 b (b + 1) (n + 1) C' ∧ Below b wq W2 ∧ (∀ (Y : Nat) (cs : Array Value) (T : TypeId), wq.heap[Y]? = some (Obj.cells cs T) → T ≠ 86 → W'.heap[Y]? = wq.heap[Y]? ∧ W2.heap[Y]? = wq.heap[Y]?) := by
  intro X hX
  have hbl := hC.lt
  obtain ⟨v, h1, h2, h3⟩ := hC.at hs hn
  have hv : v = .slice g k cv := by
    rw [hlook] at h1
    cases h1
    rfl
  subst hv
  have hbX : Below X.heap.size X (X.alloc (.cells #[.int .i64 q.1, .int .i64 q.2] 86)) := by repeat (first | exact Below.refl _ _ | refine Below.alloc ?_ (by simp <;> omega) _ | refine bDrewN ?_ _ | refine Below.drew ?_)
  have hbw : Below wq.heap.size wq (X.alloc (.cells #[.int .i64 q.1, .int .i64 q.2] 86)) := hX.trans (hbX.mono hX.size)
  rw [hsp] at h2
  obtain ⟨g', c', W', hrun, hown, hgr, hat⟩ := (h2.on hbw).next (x := q) (Y := X.heap.size) (by go_simp) (by go_simp) (by omega) (by have := hbw.size; omega)
  rw [hk] at hrun hown hat
  have hg1 : wq.grownBy W' (Value.slice g k cv).ownBlock := grown_trans (grown_below hbw _) hgr
  obtain ⟨W2, hup, hcal, hg2⟩ := h3 W' (.slice g' (k + 1) c') (sp ++ [q]) C' hg1 hown (hat.imp id fun h => ⟨_, h, hbw.size⟩) hC1 hC2
  refine ⟨g', c', W', W2, hrun, hup, hcal, ?_⟩
  have hlow : ∀ j, (Value.slice g k cv).ownBlock = some j → b ≤ j := fun j hj => by have := (World.ownsRow.lt h2 j hj).1; omega
  have a1 : Below b wq W' := (Below.refl b wq).grown hg1 (Nat.le_of_lt hbl) hlow
  refine ⟨a1.grown hg2 (Nat.le_trans (Nat.le_of_lt hbl) a1.size) (fun j hj => by cases hj; exact Nat.le_refl _), fun Y cs T hY hT => ?_⟩
  have hYl := (Array.getElem?_eq_some_iff.1 hY).1
  have e7 : W'.heap[Y]? = wq.heap[Y]? := hg1.block Y hYl (fun e => by
    rcases h2.2 with ⟨hv, -⟩ | ⟨G, cap, cur, hv, -, hh, -⟩
    · rw [hv] at e
      simp [Value.ownBlock] at e
    · rw [hv] at e
      simp only [Value.ownBlock, Option.some.injEq] at e
      rw [e, hh] at hY
      simp only [Option.some.injEq, Obj.cells.injEq] at hY
      exact hT hY.2.1.symm)
  refine ⟨e7, (hg2.block Y (Nat.lt_of_lt_of_le hYl hg1.size) (fun e => ?_)).trans e7⟩
  obtain ⟨es, clock, hbb, -⟩ := hC
  simp only [Option.some.injEq] at e
  rw [e, hbb] at hY
  cases hY
theorem lastOk_nil (day : Int) : lastOk [] day = true := rfl
theorem lastOk_at {sp : List (Int × Int)} {m : Nat} {q : Int × Int} (hm : sp.length = m + 1) (hq : sp[m]? = some q) (day : Int) : lastOk sp day = decide (q.2 ≤ day) := by
  unfold lastOk
  rw [List.getLast?_eq_getElem?, hm, Nat.add_sub_cancel, hq]
theorem enter_cells {X V : World} {Y : Nat} {a0 a1 a2 a3 a4 : Value} (_hl : Y < X.heap.size) (c0 : X.cell? ⟨Y, 0, none⟩ = some a0) (c1 : X.cell? ⟨Y, 1, none⟩ = some a1) (c2 : X.cell? ⟨Y, 2, none⟩ = some a2) (c3 : X.cell? ⟨Y, 3, none⟩ = some a3) (c4 : X.cell? ⟨Y, 4, none⟩ = some a4) (h : V.heap[Y]? = X.heap[Y]?) :
    V.cell? ⟨Y, 0, none⟩ = some a0 ∧ V.cell? ⟨Y, 1, none⟩ = some a1 ∧ V.cell? ⟨Y, 2, none⟩ = some a2 ∧ V.cell? ⟨Y, 3, none⟩ = some a3 ∧ V.cell? ⟨Y, 4, none⟩ = some a4 :=
  ⟨(World.cell?_of_block (a := ⟨Y, _, none⟩) h).trans c0, (World.cell?_of_block (a := ⟨Y, _, none⟩) h).trans c1, (World.cell?_of_block (a := ⟨Y, _, none⟩) h).trans c2, (World.cell?_of_block (a := ⟨Y, _, none⟩) h).trans c3, (World.cell?_of_block (a := ⟨Y, _, none⟩) h).trans c4⟩
theorem cell_drew_some {X : World} {a : Addr} {v : Value} (h : X.cell? a = some v) : X.drew.cell? a = some v := h
attribute [-go_sem] Builtin.append_
set_option maxRecDepth 100000 in
set_option maxHeartbeats 2000000 in
theorem enter_any (b n : Nat) (C C' : ByteArray → List (Int × Int)) (x : Loan) (w : World) (hC : Cal w b (b + 1) n C) (hx : x.wf) (hn : n < maxLen) (hl : (C x.p).length ≤ 100000) (hC1 : C' x.p = C x.p ++ [(x.out, home x)]) (hC2 : ∀ t, t ≠ x.p → C' t = C t) :
    Calls Try.prog 71 #[.map (some b), .agg #[.string x.p, .string x.t, .int .i64 x.out, .int .i64 x.due, .int .i64 x.back]] w fun e w' => e = .returned (.bool (lastOk (C x.p) x.out)) ∧ Below b w w' ∧ (lastOk (C x.p) x.out = true → Cal w' b (b + 1) (n + 1) C') := by
  have HDO : Kp (∀ W, Calls Try.prog 96 #[.agg #[.string x.p, .string x.t, .int .i64 x.out, .int .i64 x.due, .int .i64 x.back]] W fun e w' => e = .returned (.agg #[.int .i64 x.out, .int .i64 (home x)]) ∧ Below W.heap.size W w') := ⟨fun W => daysOut_any x W⟩
  obtain ⟨W1, hW1⟩ : ∃ W1, w.alloc (.cells #[.string x.p, .string x.t, .int .i64 x.out, .int .i64 x.due, .int .i64 x.back] 62) = W1 := ⟨_, rfl⟩
  obtain ⟨hb1, hat⟩ := bx_start hW1
  have hC1W := hC.on hb1
  obtain ⟨v, hlook, hown, -⟩ := hC1W.at hx.1 hn
  obtain ⟨sp, hsp⟩ : ∃ sp, C x.p = sp := ⟨_, rfl⟩
  rw [hsp] at hown hl hC1 ⊢
  obtain ⟨g, cv, rfl, hcell⟩ := hown.at
  obtain ⟨k, hk⟩ : ∃ k, sp.length = k := ⟨_, rfl⟩
  rw [hk] at hlook hl
  have HYB : Kp (W1.heap[w.heap.size]? = some (Obj.cells #[.string x.p, .string x.t, .int .i64 x.out, .int .i64 x.due, .int .i64 x.back] 62)) := ⟨by rw [← hW1]; exact World.alloc_heap_new w _⟩
  have HB1 := Kp.mk hb1
  have HAT := Kp.mk hat
  have HNX : Kp (∀ X, Below W1.heap.size W1 X → _) := ⟨enter_next hk hC1W hx.1 hn hsp hl hlook hC1 hC2⟩
  have HBL : Kp (b < w.heap.size) := ⟨hC.lt⟩
  have HKL := Kp.mk hl
  have hbl : b < w.heap.size := hC.lt
  obtain ⟨H, hH⟩ : ∃ H, home x = H := ⟨_, rfl⟩
  rw [hH] at HDO HNX
  obtain ⟨E, hE⟩ : ∃ E, lastOk sp x.out = E := ⟨_, rfl⟩
  rw [hE]
  have hcs : (k = 0 ∧ E = true) ∨ (∃ m G y, k = m + 1 ∧ g = some ⟨G, 0, none⟩ ∧ W1.cell? ⟨G, m * 2 + 1, none⟩ = some (.int .i64 y) ∧ E = decide (y ≤ x.out)) := by
    cases hk2 : k with
    | zero => exact .inl ⟨rfl, by rw [← hE, List.eq_nil_of_length_eq_zero (hk.trans hk2)]; rfl⟩
    | succ m =>
      obtain ⟨q, hq⟩ : ∃ q, sp[m]? = some q := ⟨_, List.getElem?_eq_getElem (by omega)⟩
      obtain ⟨G, hG, -, hc⟩ := hcell m q hq
      exact .inr ⟨m, G, q.2, rfl, hG, hc, by rw [← hE, lastOk_at (hk.trans hk2) hq]⟩
  clear hC hx hn hl hC1 hC2 hC1W hown hcell hk hsp hH hE hb1
  obtain ⟨p, t, o, d, bk⟩ := x
  simp only at *
  obtain ⟨c0, c1, c2, c3, c4⟩ := HAT.out
  simp only [Nat.zero_add] at c0 c1 c2 c3 c4
  have hyl := World.block_lt_of_cell? _ _ c0
  rcases hcs with ⟨rfl, rfl⟩ | ⟨m, G, y, hkm, rfl, hcy, hE⟩
  · have i4 : ¬ (0 : Int) < 0 := by omega
    go_enter Try.func71, Try.ntmps71
    go_wp2
    clear hW1 hlook
    refine wp_region_quiet_below (by kernel_rfl) (by kernel_rfl) ?_
    repeat (any_goals (first | go_big_quiet_step (fail) | quiet_step (fail)))
    refine wpQuiet_nil ?_
    intro _ hqw
    obtain ⟨⟨dq, osq⟩, hqv⟩ := hqw
    subst hqv
    obtain ⟨wq, hqwq⟩ : ∃ wq, grow (redrawn (W1) dq) osq = wq := ⟨_, rfl⟩
    have hbwq : Below (W1).heap.size (W1) wq := by rw [← hqwq]; exact below_regrown _ dq osq
    rw [hqwq]
    clear hqwq
    have e0 := (hbwq.cell (p := ⟨w.heap.size, 0, none⟩) hyl).trans c0
    have e1 := (hbwq.cell (p := ⟨w.heap.size, 1, none⟩) hyl).trans c1
    have e2 := (hbwq.cell (p := ⟨w.heap.size, 2, none⟩) hyl).trans c2
    have e3 := (hbwq.cell (p := ⟨w.heap.size, 3, none⟩) hyl).trans c3
    have e4 := (hbwq.cell (p := ⟨w.heap.size, 4, none⟩) hyl).trans c4
    go_wp2
    go_region_held3 (fun w' => w'.cell? ⟨w.heap.size, 0, none⟩ = some (.string p) ∧ w'.cell? ⟨w.heap.size, 1, none⟩ = some (.string t) ∧ w'.cell? ⟨w.heap.size, 2, none⟩ = some (.int .i64 o) ∧ w'.cell? ⟨w.heap.size, 3, none⟩ = some (.int .i64 d) ∧ w'.cell? ⟨w.heap.size, 4, none⟩ = some (.int .i64 bk)) (repeat (first | assumption | refine ⟨?_, ?_⟩ | refine cell_drew_some ?_ | refine Lib.cell?_alloc_some _ ?_))
      (first | (go_at_call 96; refine (HDO.out _).mono ?_; rintro en w6 ⟨rfl, hb6⟩; have hbw : Below W1.heap.size W1 w6 := hbwq.trans (((by (repeat (with_reducible first | exact Below.refl _ _ | refine Below.drew ?_ | refine bDrewN ?_ _)) : Below wq.heap.size wq _).trans hb6).mono hbwq.size); obtain ⟨g', c', W7, W8, hrun, hup, hcal, hbel, hkp⟩ := HNX.out w6 hbw; obtain ⟨f0, f1, f2, f3, f4⟩ := enter_cells hyl c0 c1 c2 c3 c4 (hbw.block _ hyl); obtain ⟨k7, k8⟩ := hkp _ _ _ HYB.out (by decide); obtain ⟨s0, s1, s2, s3, s4⟩ := enter_cells hyl c0 c1 c2 c3 c4 k7; obtain ⟨u0, u1, u2, u3, u4⟩ := enter_cells hyl c0 c1 c2 c3 c4 k8; have HR := Kp.mk (And.intro hcal hbel); clear hb6 hbw hcal hbel hkp k7 k8))
    all_goals
      go_wp2
      go_ret
      first
        | exact ⟨rfl, (HB1.out.mono (Nat.le_of_lt HBL.out)).trans HR.out.2, fun _ => HR.out.1⟩
        | exact ⟨rfl, (HB1.out.mono (Nat.le_of_lt HBL.out)).trans HR.out.2, HR.out.1⟩
  · obtain ⟨kk, hkk⟩ : ∃ kk : Nat, k = kk := ⟨_, rfl⟩
    have i4 : decide (0 < k) = true := decide_eq_true (by omega)
    have i5 : IntKind.i64.wrap ((k : Int) - 1) = (m : Int) := by rw [show (k : Int) - 1 = m by omega]; exact IntWalk.i64_in _ (by have := HKL.out; omega)
    have o5 : (m : Int) < (k : Int) := by omega
    have i8 : decide (o < y) = !E := by rw [hE, Bool.eq_iff_iff]; simp
    clear hkk hkm hE
    have r1 := hcy
    have r2 := c2
    go_enter Try.func71, Try.ntmps71
    go_wp2
    clear hW1 hlook
    have rg_r1 := fun d os => cell_regrown r1 d os
    have rg_r2 := fun d os => cell_regrown r2 d os
    refine wp_region_quiet_below (by kernel_rfl) (by kernel_rfl) ?_
    repeat (any_goals (first | go_big_quiet_step (fail) | quiet_step (fail)))
    refine wpQuiet_nil ?_
    intro _ hqw
    obtain ⟨⟨dq, osq⟩, hqv⟩ := hqw
    subst hqv
    obtain ⟨wq, hqwq⟩ : ∃ wq, grow (redrawn W1 dq) osq = wq := ⟨_, rfl⟩
    have hbwq : Below W1.heap.size W1 wq := by rw [← hqwq]; exact below_regrown _ dq osq
    rw [hqwq]
    clear hqwq
    have e0 := (hbwq.cell (p := ⟨w.heap.size, 0, none⟩) hyl).trans c0
    have e1 := (hbwq.cell (p := ⟨w.heap.size, 1, none⟩) hyl).trans c1
    have e2 := (hbwq.cell (p := ⟨w.heap.size, 2, none⟩) hyl).trans c2
    have e3 := (hbwq.cell (p := ⟨w.heap.size, 3, none⟩) hyl).trans c3
    have e4 := (hbwq.cell (p := ⟨w.heap.size, 4, none⟩) hyl).trans c4
    clear rg_r1 rg_r2 r1 r2
    cases E
    · go_wp2
      go_ret
      exact ⟨rfl, (HB1.out.mono (Nat.le_of_lt HBL.out)).trans (hbwq.mono (by have := HB1.out.size; have := HBL.out; omega)), fun e => by cases e⟩
    go_wp2
    go_region_held3 (fun w' => w'.cell? ⟨w.heap.size, 0, none⟩ = some (.string p) ∧ w'.cell? ⟨w.heap.size, 1, none⟩ = some (.string t) ∧ w'.cell? ⟨w.heap.size, 2, none⟩ = some (.int .i64 o) ∧ w'.cell? ⟨w.heap.size, 3, none⟩ = some (.int .i64 d) ∧ w'.cell? ⟨w.heap.size, 4, none⟩ = some (.int .i64 bk)) (repeat (first | assumption | refine ⟨?_, ?_⟩ | refine cell_drew_some ?_ | refine Lib.cell?_alloc_some _ ?_))
      (first | (go_at_call 96; refine (HDO.out _).mono ?_; rintro en w6 ⟨rfl, hb6⟩; have hbw : Below W1.heap.size W1 w6 := hbwq.trans (((by (repeat (with_reducible first | exact Below.refl _ _ | refine Below.drew ?_ | refine bDrewN ?_ _)) : Below wq.heap.size wq _).trans hb6).mono hbwq.size); obtain ⟨g', c', W7, W8, hrun, hup, hcal, hbel, hkp⟩ := HNX.out w6 hbw; obtain ⟨f0, f1, f2, f3, f4⟩ := enter_cells hyl c0 c1 c2 c3 c4 (hbw.block _ hyl); obtain ⟨k7, k8⟩ := hkp _ _ _ HYB.out (by decide); obtain ⟨s0, s1, s2, s3, s4⟩ := enter_cells hyl c0 c1 c2 c3 c4 k7; obtain ⟨u0, u1, u2, u3, u4⟩ := enter_cells hyl c0 c1 c2 c3 c4 k8; have HR := Kp.mk (And.intro hcal hbel); clear hb6 hbw hcal hbel hkp k7 k8))
    all_goals
      go_wp2
      go_ret
      first
        | exact ⟨rfl, (HB1.out.mono (Nat.le_of_lt HBL.out)).trans HR.out.2, fun _ => HR.out.1⟩
        | exact ⟨rfl, (HB1.out.mono (Nat.le_of_lt HBL.out)).trans HR.out.2, HR.out.1⟩
theorem validL_len {l : List Loan} (h : validL l = true) : l.length ≤ 200 := by
  rcases Nat.eq_zero_or_pos l.length with h0 | h0
  · omega
  · have hk : l.length - 1 < l.length := by omega
    have e := validL_take (List.getElem?_eq_getElem hk)
    rw [show l.length - 1 + 1 = l.length by omega, List.take_length, h] at e
    have e2 := e.symm
    rw [Bool.and_eq_true] at e2
    have e3 := e2.2
    unfold entB folB at e3
    simp only [Bool.and_eq_true, decide_eq_true_eq] at e3
    have := e3.1.1.2
    rw [List.length_take] at this
    omega
theorem calL_take {l : List Loan} {k : Nat} {x : Loan} (hx : l[k]? = some x) : calL (l.take (k + 1)) x.p = calL (l.take k) x.p ++ [(x.out, home x)] ∧ ∀ t, t ≠ x.p → calL (l.take (k + 1)) t = calL (l.take k) t := by
  have hk := (List.getElem?_eq_some_iff.1 hx).1
  have e : l[k] = x := (List.getElem?_eq_some_iff.1 hx).2
  rw [List.take_succ_eq_append_getElem hk, e]
  refine ⟨by rw [calL_snoc, eqS_refl, if_pos rfl], fun t ht => ?_⟩
  rw [calL_snoc, if_neg (fun h => ht (eqS_iff.1 h).symm), List.append_nil]
/-- What entered answers. -/
def EntPost (l : List Loan) (w : World) (e : Ending) (w' : World) : Prop :=
  Below w.heap.size w w' ∧ ((validL l = true ∧ ∃ b, e = .returned (.tuple #[.map (some b), .bool true]) ∧ w.heap.size ≤ b ∧ b < w'.heap.size ∧ Cal w' b (b + 1) l.length (calL l)) ∨ (validL l = false ∧ e = .returned (.tuple #[.map none, .bool false])))
set_option maxRecDepth 100000 in
set_option maxHeartbeats 2000000 in
theorem entered_any (v : Value) (l : List Loan) (w : World) (hv : LS w v l) (hm : l.length ≤ 4611686018427387904) : Calls Try.prog 60 #[v] w (EntPost l w) := by
  have HLV := Kp.mk hv
  obtain ⟨g, c, rfl, hcap, hi⟩ := hv
  have HL := Kp.mk hm
  have HCAP := Kp.mk hcap
  have HS := Kp.mk hi
  have hmm := @run_makeMap Try.prog
  obtain ⟨N, hN⟩ : ∃ N, l.length = N := ⟨_, rfl⟩
  have HN := Kp.mk hN
  rw [hN]
  clear hi hm hN hcap
  unfold EntPost
  go_enter Try.func60, Try.ntmps60
  go_wp2
  obtain ⟨B, hB⟩ : ∃ B, w.heap.size = B := ⟨_, rfl⟩
  have HB := Kp.mk hB
  rw [hB]
  have HC0 : Kp (Cal (w.alloc (.map #[] 0)) B (B + 1) 0 (calL (l.take 0))) := ⟨by rw [← hB]; exact Cal.made w⟩
  have HB0 : Kp (Below B w (w.alloc (.map #[] 0))) := ⟨by rw [← hB]; exact by repeat (first | exact Below.refl _ _ | refine Below.alloc ?_ (by simp <;> omega) _ | refine bDrewN ?_ _ | refine Below.drew ?_)⟩
  clear hB
  go_loopw [10] (fun i wr => ∃ k : Nat, k ≤ N ∧ i = .int .i64 k ∧ Kp (Cal wr B (B + 1) k (calL (l.take k))) ∧ Kp (Below B w wr) ∧ Kp (validL (l.take k) = true)) (fun i _ => N - (intOf i).toNat)
  case atStart => exact ⟨0, Nat.zero_le _, rfl, HC0, HB0, ⟨rfl⟩⟩
  case round =>
    clear HC0 HB0
    obtain ⟨k, hk, rfl, HC, HBE, HVA⟩ := hrel
    by_cases hlt : k < N
    · obtain ⟨x, hx⟩ : ∃ x, l[k]? = some x := ⟨_, List.getElem?_eq_getElem (by rw [HN.out]; exact hlt)⟩
      obtain ⟨b, o, hg, hat, hwf⟩ := HS.out k x hx
      subst hg
      have hat2 := hat.on (HB.out ▸ HBE.out)
      obtain ⟨d0, d1, d2, d3, d4⟩ := hat2
      have o1 : (k : Int) < (N : Int) := by omega
      have o4 : k ≤ 200 := by have := validL_len HVA.out; rw [List.length_take] at this; have := HN.out; omega
      have o5 : (k : Int) ≤ (c : Int) := by have := HCAP.out; have := HN.out; omega
      have hlk : (l.take k).length = k := by rw [List.length_take]; have := HN.out; omega
      have HFO : Kp (∀ W, Below w.heap.size w W → Calls Try.prog 54 #[.slice (some ⟨b, o, none⟩) k c, .agg #[.string x.p, .string x.t, .int .i64 x.out, .int .i64 x.due, .int .i64 x.back]] W fun e w' => e = .returned (.bool (folB (l.take k) x)) ∧ Below W.heap.size W w') := ⟨fun W hW => by
        have hh := follows_any (some ⟨b, o, none⟩) c (l.take k) x W ((HLV.out.below hW).take (by have := HN.out; omega)) hwf (by omega)
        rwa [hlk] at hh⟩
      have HEN : Kp (∀ W, Cal W B (B + 1) k (calL (l.take k)) → Calls Try.prog 71 #[.map (some B), .agg #[.string x.p, .string x.t, .int .i64 x.out, .int .i64 x.due, .int .i64 x.back]] W fun e w' => e = .returned (.bool (lastOk (calL (l.take k) x.p) x.out)) ∧ Below B W w' ∧ (lastOk (calL (l.take k) x.p) x.out = true → Cal w' B (B + 1) (k + 1) (calL (l.take (k + 1))))) := ⟨fun W hC => enter_any B k (calL (l.take k)) (calL (l.take (k + 1))) x W hC hwf (by unfold maxLen; omega) (by have := calL_len (l.take k) x.p; omega) (calL_take hx).1 (calL_take hx).2⟩
      have hvt := validL_take hx
      rw [HVA.out, Bool.true_and] at hvt
      unfold entB at hvt
      obtain ⟨F, hF⟩ : ∃ F, folB (l.take k) x = F := ⟨_, rfl⟩
      obtain ⟨E, hE⟩ : ∃ E, lastOk (calL (l.take k) x.p) x.out = E := ⟨_, rfl⟩
      rw [hF] at HFO hvt
      rw [hE] at HEN hvt
      have HVT := Kp.mk hvt
      obtain ⟨Cn, hCn⟩ : ∃ Cn, calL (l.take (k + 1)) = Cn := ⟨_, rfl⟩
      have HCN := Kp.mk hCn
      rw [hCn] at HEN
      clear hvt hF hE hx hwf hat hlk hCn
      obtain ⟨xp, xt, xo, xd, xb⟩ := x
      simp only at d0 d1 d2 d3 d4
      have HBW : Kp (Below w.heap.size w (wr.alloc (.cells #[.string xp, .string xt, .int .i64 xo, .int .i64 xd, .int .i64 xb] 26))) := ⟨by rw [HB.out]; exact HBE.out.alloc (by have := HBE.out.size; have := HB.out; omega) _⟩
      have HCW : Kp (Cal (wr.alloc (.cells #[.string xp, .string xt, .int .i64 xo, .int .i64 xd, .int .i64 xb] 26)) B (B + 1) k (calL (l.take k))) := ⟨HC.out.on (by repeat (first | exact Below.refl _ _ | refine Below.alloc ?_ (by simp <;> omega) _ | refine bDrewN ?_ _ | refine Below.drew ?_))⟩
      simp only at HFO HEN
      go_wp2
      obtain ⟨W1, hW1⟩ : ∃ W1, wr.alloc (.cells #[.string xp, .string xt, .int .i64 xo, .int .i64 xd, .int .i64 xb] 26) = W1 := ⟨_, rfl⟩
      rw [hW1]
      rw [hW1] at HBW HCW
      obtain ⟨-, ⟨e0, e1, e2, e3, e4⟩⟩ := bx_start (x := ⟨xp, xt, xo, xd, xb⟩) hW1
      simp only [Nat.zero_add] at e0 e1 e2 e3 e4
      have hyl := World.block_lt_of_cell? _ _ e0
      obtain ⟨Y, hY⟩ : ∃ Y, wr.heap.size = Y := ⟨_, rfl⟩
      simp only [hY] at *
      clear hW1 d0 d1 d2 d3 d4 hY
      cases F with
      | false =>
        have HFK : Kp (∀ d os, Calls Try.prog 54 #[.slice (some ⟨b, o, none⟩) k c, .agg #[.string xp, .string xt, .int .i64 xo, .int .i64 xd, .int .i64 xb]] (grow (redrawn W1 d) os) fun e w' => e = .returned (.bool false) ∧ Below (grow (redrawn W1 d) os).heap.size (grow (redrawn W1 d) os) w') := ⟨fun d os => HFO.out _ (HBW.out.trans ((below_regrown W1 d os).mono HBW.out.size))⟩
        have rg_e0 := fun d os => cell_regrown e0 d os
        have rg_e1 := fun d os => cell_regrown e1 d os
        have rg_e2 := fun d os => cell_regrown e2 d os
        have rg_e3 := fun d os => cell_regrown e3 d os
        have rg_e4 := fun d os => cell_regrown e4 d os
        have HNO : Kp (validL l = false) := ⟨validL_no HVT.out⟩
        clear HEN HCW HFO e0 e1 e2 e3 e4
        refine wp_region_quiet_below (by kernel_rfl) (by kernel_rfl) ?_
        repeat (any_goals (first | go_big_quiet_step (first | (with_reducible exact Calls.regrown_of (HFK.out _ _))) | quiet_step (first | (with_reducible exact Calls.regrown_of (HFK.out _ _)))))
        refine wpQuiet_nil ?_
        intro _ hqw
        obtain ⟨⟨dq, osq⟩, hqv⟩ := hqw
        subst hqv
        obtain ⟨wq, hqwq⟩ : ∃ wq, grow (redrawn (W1) dq) osq = wq := ⟨_, rfl⟩
        have hbwq : Below (W1).heap.size (W1) wq := by rw [← hqwq]; exact below_regrown _ dq osq
        rw [hqwq]
        clear hqwq
        have HBQ := Kp.mk (HBW.out.trans (hbwq.mono HBW.out.size))
        clear hbwq
        go_wp2
        go_ret2
        exact ⟨HBQ.out, .inr ⟨HNO.out, rfl⟩⟩
      | true =>
        cases E
        all_goals
          go_region_with (first | (go_at_call 54; refine (HFO.out _ (by (repeat (with_reducible first | exact HBW.out | refine Below.drew ?_ | refine bDrewN ?_ _)))).mono ?_; rintro en w6 ⟨rfl, hb6⟩; have hbw : Below W1.heap.size W1 w6 := (by (repeat (with_reducible first | exact Below.refl _ _ | refine Below.drew ?_ | refine bDrewN ?_ _)) : Below W1.heap.size W1 _).trans hb6; obtain ⟨f0, f1, f2, f3, f4⟩ := enter_cells hyl e0 e1 e2 e3 e4 (hbw.block _ hyl); have HBX := Kp.mk hbw; clear hb6 hbw) | (go_at_call 71; refine (HEN.out _ (HCW.out.on HBX.out)).mono ?_; rintro en w7 ⟨rfl, hb7, hc7⟩; have HBZ := Kp.mk (And.intro hb7 hc7); clear hb7 hc7))
        · have HNO : Kp (validL l = false) := ⟨validL_no HVT.out⟩
          go_wp2
          go_ret2
          exact ⟨(HBW.out.trans (HBX.out.mono HBW.out.size)).trans (by rw [HB.out]; exact HBZ.out.1), .inr ⟨HNO.out, rfl⟩⟩
        · have HC3 : Kp (Cal w7 B (B + 1) (k + 1) (calL (l.take (k + 1)))) := ⟨by rw [HCN.out]; exact HBZ.out.2 trivial⟩
          have HB3 : Kp (Below B w w7) := ⟨by have := (HBW.out.trans (HBX.out.mono HBW.out.size)); rw [HB.out] at this; exact this.trans HBZ.out.1⟩
          go_wp2
          go_roundw
          case rel => exact ⟨k + 1, by omega, by go_num, HC3, HB3, HVT⟩
          case measure => simp [intOf]; omega
    · have HV2 : Kp (validL l = true) := ⟨by have := HVA.out; rwa [List.take_of_length_le (by have := HN.out; omega)] at this⟩
      have hkn : k = N := by omega
      have HC2 : Kp (Cal wr B (B + 1) N (calL l)) := ⟨by have := HC.out; rwa [List.take_of_length_le (by have := HN.out; omega), hkn] at this⟩
      have o1 : ¬ (k : Int) < (N : Int) := by omega
      clear hkn
      go_wp2
      go_ret2
      exact ⟨HB.out ▸ HBE.out, .inl ⟨HV2.out, B, rfl, by rw [HB.out]; exact Nat.le_refl _, HC2.out.lt, HN.out ▸ HC2.out⟩⟩
theorem Valid_any (v : Value) (l : List Loan) (w : World) (hv : LS w v l) (hm : l.length ≤ 4611686018427387904) : Calls Try.prog 21 #[v] w fun e w' => e = .returned (.bool (validL l)) ∧ Below w.heap.size w w' := by
  have HE : Kp (Calls Try.prog 60 #[v] w fun e w' => ∃ m, e = .returned (.tuple #[.map m, .bool (validL l)]) ∧ Below w.heap.size w w') := ⟨(entered_any v l w hv hm).mono fun e w' ⟨hb, h⟩ => by
    rcases h with ⟨h1, b, rfl, -⟩ | ⟨h1, rfl⟩
    · exact ⟨_, by rw [h1], hb⟩
    · exact ⟨_, by rw [h1], hb⟩⟩
  obtain ⟨g, c, rfl⟩ := hv.shape
  obtain ⟨N, hN⟩ : ∃ N, l.length = N := ⟨_, rfl⟩
  obtain ⟨V, hV⟩ : ∃ V, validL l = V := ⟨_, rfl⟩
  rw [hN, hV] at HE
  rw [hN, hV]
  clear hv hm hN hV
  go_enter Try.func21, Try.ntmps21
  go_wp2_with fail
  refine HE.out.mono ?_
  rintro en w1 ⟨m, rfl, hb1⟩
  have HB1 := Kp.mk hb1
  clear hb1
  go_wp2
  go_ret
  exact ⟨rfl, HB1.out⟩
/-- The error of loans, of names, of numbers. -/
def chkE (v n r : Bool) : Int := if v = true then (if n = true then (if r = true then 0 else 7) else 5) else 1
theorem checked_any (v : Value) (l : List Loan) (n r : Bool) (w : World) (hv : LS w v l) (hm : l.length ≤ 4611686018427387904) : Calls Try.prog 61 #[v, .bool n, .bool r] w fun e w' => e = .returned (.int .i64 (chkE (validL l) n r)) ∧ Below w.heap.size w w' := by
  have HE : Kp (Calls Try.prog 21 #[v] w fun e w' => e = .returned (.bool (validL l)) ∧ Below w.heap.size w w') := ⟨Valid_any v l w hv hm⟩
  obtain ⟨g, c, rfl⟩ := hv.shape
  obtain ⟨N, hN⟩ : ∃ N, l.length = N := ⟨_, rfl⟩
  obtain ⟨V, hV⟩ : ∃ V, validL l = V := ⟨_, rfl⟩
  rw [hN, hV] at HE
  rw [hN, hV]
  clear hv hm hN hV
  cases V <;> cases n <;> cases r
  all_goals
    simp only [chkE]
    go_enter Try.func61, Try.ntmps61
    go_wp2_with fail
    refine HE.out.mono ?_
    rintro en w1 ⟨rfl, hb1⟩
    have HB1 := Kp.mk hb1
    clear hb1
    go_wp2
    go_ret
    exact ⟨rfl, HB1.out⟩
end Go.Proofs.Ytaofjomocefdkaa.Ln
