/-
  WALKS (layer 9, loan): the pence of one loan, the days of a piece.
-/
import Derived.Test.YtaofjomocefdkaaLnSum
namespace Go.Proofs.Ytaofjomocefdkaa.Ln
open Go Go.RowKit Go.Sort

theorem vlB_ok {pre l : List Loan} (h : vlB pre l = true) : ∀ x ∈ l, okB x = true := by
  induction l generalizing pre with
  | nil => intro x hx; cases hx
  | cons y l ih =>
    rw [vlB, Bool.and_eq_true] at h
    intro x hx
    rcases List.mem_cons.1 hx with rfl | hx
    · have := h.1
      unfold entB folB at this
      simp only [Bool.and_eq_true] at this
      exact this.1.2
    · exact ih h.2 x hx
theorem validL_ok {l : List Loan} (h : validL l = true) {x : Loan} (hx : x ∈ l) : okB x = true := vlB_ok h x hx
theorem okB_days {x : Loan} (h : okB x = true) : (0 ≤ x.out ∧ x.out ≤ 100000) ∧ (0 ≤ x.due ∧ x.due ≤ 100000) ∧ (0 ≤ home x ∧ home x ≤ 100001) := by
  unfold okB at h
  simp only [Bool.and_eq_true, decide_eq_true_eq] at h
  have h2 := h.2.2
  unfold home
  split <;> omega
theorem comI_bd {a b c d : Int} (h1 : 0 ≤ a) (h2 : b ≤ 100001) : 0 ≤ comI a b c d ∧ comI a b c d ≤ 100001 := by
  unfold comI
  omega
theorem RI.drew {w : World} {v : Value} {L : List Int} (h : RI w v L) : RI w.drew v L := h
theorem pay_start {w W1 : World} {x : Loan} {t : TypeId} (h : w.alloc (.cells #[.string x.p, .string x.t, .int .i64 x.out, .int .i64 x.due, .int .i64 x.back] t) = W1) : Below w.heap.size w W1 ∧ LAt W1 w.heap.size 0 x := bx_start h
set_option maxHeartbeats 1000000 in
theorem chg_any (P A B : Nat) (pence fr to : Int) (x : Loan) (w : World) (hP : w.cell? ⟨P, 0, none⟩ = some (.int .i64 pence)) (hA : w.cell? ⟨A, 0, none⟩ = some (.int .i64 fr)) (hB : w.cell? ⟨B, 0, none⟩ = some (.int .i64 to))
    (hp : 0 ≤ pence ∧ pence ≤ 10000) (hf : 0 ≤ fr ∧ fr ≤ 100000) (ht : 0 ≤ to ∧ to ≤ 100000) (hx : okB x = true) :
    Calls Try.prog 88 #[.agg #[.string x.p, .string x.t, .int .i64 x.out, .int .i64 x.due, .int .i64 x.back], .pointer (some ⟨P, 0, none⟩), .pointer (some ⟨A, 0, none⟩), .pointer (some ⟨B, 0, none⟩)] w fun e w' => e = .returned (.int .i64 (pence * comI x.due (home x) fr to)) ∧ Below w.heap.size w w' := by
  have ho := okB_days hx
  have HD : Kp (∀ W, Calls Try.prog 89 #[.agg #[.string x.p, .string x.t, .int .i64 x.out, .int .i64 x.due, .int .i64 x.back]] W fun e w' => e = .returned (.agg #[.int .i64 x.due, .int .i64 (home x)]) ∧ Below W.heap.size W w') := ⟨fun W => daysOverdue_any x W⟩
  have HC : Kp (∀ W, Calls Try.prog 79 #[.agg #[.int .i64 x.due, .int .i64 (home x)], .agg #[.int .i64 fr, .int .i64 to]] W fun e w' => e = .returned (.int .i64 (comI x.due (home x) fr to)) ∧ Below W.heap.size W w') := ⟨fun W => common_any x.due (home x) fr to W (by omega) (by omega) (by omega) (by omega)⟩
  have hR := comI_bd (a := x.due) (b := home x) (c := fr) (d := to) (by omega) (by omega)
  obtain ⟨R, hRe⟩ : ∃ R, comI x.due (home x) fr to = R := ⟨_, rfl⟩
  obtain ⟨H, hH⟩ : ∃ H, home x = H := ⟨_, rfl⟩
  rw [hRe] at HC hR ⊢
  rw [hH] at HC HD
  have hm : 0 ≤ pence * R ∧ pence * R ≤ 10000 * 100001 := ⟨Int.mul_nonneg hp.1 hR.1, Int.mul_le_mul hp.2 hR.2 hR.1 (by decide)⟩
  have w1 : IntKind.i64.wrap (pence * R) = pence * R := IntWalk.i64_in _ (by omega)
  clear hRe hH ho hm hR hp hf ht hx
  go_enter Try.func88, Try.ntmps88
  go_wp2
  obtain ⟨W1, hW1⟩ : ∃ W1, w.alloc (.cells #[.string x.p, .string x.t, .int .i64 x.out, .int .i64 x.due, .int .i64 x.back] 62) = W1 := ⟨_, rfl⟩
  rw [hW1]
  obtain ⟨hb1, hat⟩ := pay_start hW1
  have a1 : W1.cell? ⟨P, 0, none⟩ = some (.int .i64 pence) := (hb1.cell (p := ⟨P, 0, none⟩) (World.block_lt_of_cell? _ _ hP)).trans hP
  have a2 : W1.cell? ⟨A, 0, none⟩ = some (.int .i64 fr) := (hb1.cell (p := ⟨A, 0, none⟩) (World.block_lt_of_cell? _ _ hA)).trans hA
  have a3 : W1.cell? ⟨B, 0, none⟩ = some (.int .i64 to) := (hb1.cell (p := ⟨B, 0, none⟩) (World.block_lt_of_cell? _ _ hB)).trans hB
  obtain ⟨c0, c1, c2, c3, c4⟩ := hat
  simp only [Nat.zero_add] at c0 c1 c2 c3 c4
  have HB1 := Kp.mk hb1
  obtain ⟨p, t, o, d, b⟩ := x
  simp only at *
  have HDK : Kp (∀ d' os, Calls Try.prog 89 #[.agg #[.string p, .string t, .int .i64 o, .int .i64 d, .int .i64 b]] (grow (redrawn W1 d') os) fun e w' => e = .returned (.agg #[.int .i64 d, .int .i64 H]) ∧ Below (grow (redrawn W1 d') os).heap.size (grow (redrawn W1 d') os) w') := ⟨fun d' os => HD.out _⟩
  have HCK : Kp (∀ d' os, Calls Try.prog 79 #[.agg #[.int .i64 d, .int .i64 H], .agg #[.int .i64 fr, .int .i64 to]] (grow (redrawn W1 d') os) fun e w' => e = .returned (.int .i64 R) ∧ Below (grow (redrawn W1 d') os).heap.size (grow (redrawn W1 d') os) w') := ⟨fun d' os => HC.out _⟩
  obtain ⟨Y, hY⟩ : ∃ Y, w.heap.size = Y := ⟨_, rfl⟩
  rw [hY] at c0 c1 c2 c3 c4 ⊢
  have rg_a1 := fun d os => cell_regrown a1 d os
  have rg_a2 := fun d os => cell_regrown a2 d os
  have rg_a3 := fun d os => cell_regrown a3 d os
  have rg_c0 := fun d os => cell_regrown c0 d os
  have rg_c1 := fun d os => cell_regrown c1 d os
  have rg_c2 := fun d os => cell_regrown c2 d os
  have rg_c3 := fun d os => cell_regrown c3 d os
  have rg_c4 := fun d os => cell_regrown c4 d os
  clear hW1 hb1 a1 a2 a3 c0 c1 c2 c3 c4 HD HC hP hA hB
  refine wp_region_quiet_below (by kernel_rfl) (by kernel_rfl) ?_
  repeat (any_goals (first | go_big_quiet_step (first | (with_reducible exact Calls.regrown_of (HDK.out _ _)) | (with_reducible exact Calls.regrown_of (HCK.out _ _))) | quiet_step (first | (with_reducible exact Calls.regrown_of (HDK.out _ _)) | (with_reducible exact Calls.regrown_of (HCK.out _ _)))))
  refine wpQuiet_nil ?_
  intro _ hqw
  obtain ⟨⟨dq, osq⟩, hqv⟩ := hqw
  subst hqv
  obtain ⟨wq, hqwq⟩ : ∃ wq, grow (redrawn (W1) dq) osq = wq := ⟨_, rfl⟩
  have hbwq : Below (W1).heap.size (W1) wq := by rw [← hqwq]; exact below_regrown _ dq osq
  rw [hqwq]
  clear hqwq
  have HBQ := Kp.mk (HB1.out.trans (hbwq.mono HB1.out.size))
  clear hbwq
  go_wp2
  go_ret
  rw [← hY]
  exact ⟨rfl, HBQ.out⟩
theorem OwnS.sg {w : World} {B0 : Nat} {g : Option Addr} {n c : Nat} {l : List (Int × Int)} (h : OwnS w B0 (.slice g n c) l) : ∀ k, SG g k → k < w.heap.size := by
  rintro k ⟨o, rfl⟩
  exact (World.ownsRow.lt h k (by simp [Value.ownBlock])).2
/-- The days of a piece that are some days. -/
def dayN (l : List Loan) (s : ByteArray) (fr to : Int) : Int := ((calL l s).map fun q => comI fr to q.1 q.2).sum
def dayE (l : List Loan) (s : ByteArray) (fr to : Int) : Int := chkE (validL l) (nameB s) (allIn 0 100000 [fr, to] && decide (fr ≤ to))
def dayV (l : List Loan) (s : ByteArray) (fr to : Int) : Int := if dayE l s fr to = 0 then dayN l s fr to else 0
theorem chkE_zero {v n r : Bool} (h : chkE v n r = 0) : v = true ∧ n = true ∧ r = true := by
  cases v <;> cases n <;> cases r <;> simp [chkE] at h ⊢
theorem allIn_two {a b : Int} (h : allIn 0 100000 [a, b] = true) : (0 ≤ a ∧ a ≤ 100000) ∧ (0 ≤ b ∧ b ≤ 100000) := by
  unfold allIn at h
  simp at h
  omega
theorem calL_mem {l : List Loan} {s : ByteArray} {q : Int × Int} (h : q ∈ calL l s) : ∃ x ∈ l, eqS x.p s = true ∧ q = (x.out, home x) := by
  unfold calL at h
  obtain ⟨x, hx, rfl⟩ := List.mem_map.1 h
  obtain ⟨h1, h2⟩ := List.mem_filter.1 hx
  exact ⟨x, h1, h2, rfl⟩
theorem spL_mem {l : List (Int × Int)} {p : Nat × (Int × Int)} (h : p ∈ spL l) : p.2 ∈ l := by
  have : p.2 ∈ (spL l).map Prod.snd := List.mem_map.2 ⟨p, h, rfl⟩
  rwa [spP_snd] at this
theorem spL_len (l : List (Int × Int)) : (spL l).length = l.length := by
  have h : ((spL l).map Prod.snd).length = l.length := by rw [spP_snd]
  simpa using h
theorem spL_sum (l : List (Int × Int)) (f : Int × Int → Int) : ((spL l).map fun x => f x.2).sum = (l.map f).sum := by
  have : ((spL l).map fun x => f x.2) = ((spL l).map Prod.snd).map f := by rw [List.map_map]; rfl
  rw [this, spP_snd]
/-- The sum over the days of a piece, as the program takes it. -/
theorem sumDays_any (l : List Loan) (s : ByteArray) (fr to : Int) (g : Option Addr) (c : Nat) (B0 : Nat) (w w4 : World) (hE : validL l = true) (hf : 0 ≤ fr ∧ fr ≤ 100000) (ht : 0 ≤ to ∧ to ≤ 100000)
    (hw4 : w.alloc (.cells #[.slice g (calL l s).length c] 90) = w4) (ho : OwnS w B0 (.slice g (calL l s).length c) (calL l s)) :
    Calls Try.prog 77 #[.func (.func 102) #[] #[.pointer (some ⟨w.heap.size, 0, none⟩)], .func (.func 79) #[.agg #[.int .i64 fr, .int .i64 to]] #[]] w4 fun e w' => e = .returned (.int .i64 (dayN l s fr to)) ∧ Below w4.heap.size w4 w' := by
  have hb4 : Below w.heap.size w w4 := by rw [← hw4]; exact by repeat (first | exact Below.refl _ _ | refine Below.alloc ?_ (by simp <;> omega) _ | refine bDrewN ?_ _ | refine Below.drew ?_)
  have hlen : (calL l s).length ≤ 200 := Nat.le_trans (calL_len l s) (validL_len hE)
  have hq : ∀ x ∈ spL (calL l s), (0 ≤ x.2.1 ∧ x.2.1 ≤ 100000) ∧ (0 ≤ x.2.2 ∧ x.2.2 ≤ 100001) := fun x hx => by
    obtain ⟨y, hy, -, e⟩ := calL_mem (spL_mem hx)
    have := okB_days (validL_ok hE hy)
    rw [e]
    exact ⟨this.1, this.2.2⟩
  have hcell : w4.cell? ⟨w.heap.size, 0, none⟩ = some (.slice g (calL l s).length c) := by subst hw4; go_simp
  have h := sumS_any 102 #[.pointer (some ⟨w.heap.size, 0, none⟩)] fr to (SG g) (spL (calL l s)) (fun q => comI fr to q.1 q.2) 100001 w4 (enters_of Try.func102 (by kernel_rfl) rfl)
    ⟨fun W hW => all_yields 6 (by omega) w.heap.size c g (calL l s) W (by omega) ((hW.cell (p := ⟨w.heap.size, 0, none⟩) (World.block_lt_of_cell? _ _ hcell)).trans hcell) ((ho.on hb4).ss.below hW)⟩
    (fun k hk => Nat.lt_of_lt_of_le (ho.sg k hk) hb4.size) (by omega) (by rw [spL_len]; omega)
    ⟨fun W x hx _ => common_any fr to x.2.1 x.2.2 W (by omega) (by omega) (by have := hq x hx; omega) (by have := hq x hx; omega)⟩
    (fun x _ => comI_bd (by omega) (by omega))
  refine h.mono ?_
  rintro e w' ⟨rfl, hb⟩
  exact ⟨congrArg (fun n => Ending.returned (.int .i64 n)) (spL_sum (calL l s) fun q => comI fr to q.1 q.2), hb⟩
set_option maxHeartbeats 2000000 in
theorem Days_any (v : Value) (l : List Loan) (s : ByteArray) (fr to : Int) (w : World) (hv : LS w v l) (hm : l.length ≤ 4611686018427387904) (hs : s.size ≤ maxLen) :
    Calls Try.prog 37 #[v, .string s, .int .i64 fr, .int .i64 to] w fun e w' => e = .returned (.tuple #[.int .i64 (dayV l s fr to), .int .i64 (dayE l s fr to)]) ∧ Below w.heap.size w w' := by
  have HN : Kp (∀ W, Calls Try.prog 19 #[.string s] W (NamePost s W)) := ⟨fun W => Name_any s W hs⟩
  have HA : Kp (∀ W v, RI W v [fr, to] → Calls Try.prog 53 #[v] W fun e w' => e = .returned (.bool (allIn 0 100000 [fr, to])) ∧ W = w') := ⟨fun W v hv => areDays_any v _ W hv (by simp)⟩
  have HC : Kp (∀ W, Below w.heap.size w W → ∀ n r, Calls Try.prog 61 #[v, .bool n, .bool r] W fun e w' => e = .returned (.int .i64 (chkE (validL l) n r)) ∧ Below W.heap.size W w') := ⟨fun W hW n r => checked_any v l n r W (hv.below hW) hm⟩
  have HE : Kp (∀ W, Below w.heap.size w W → Calls Try.prog 60 #[v] W (EntPost l W)) := ⟨fun W hW => entered_any v l W (hv.below hW) hm⟩
  have HS := Kp.mk hs
  have hn0 : dayE l s fr to = chkE (validL l) (nameB s) (allIn 0 100000 [fr, to] && decide (fr ≤ to)) := rfl
  obtain ⟨A, hA⟩ : ∃ A, allIn 0 100000 [fr, to] = A := ⟨_, rfl⟩
  have HAT : Kp (A = true → (0 ≤ fr ∧ fr ≤ 100000) ∧ (0 ≤ to ∧ to ≤ 100000)) := ⟨fun h => allIn_two (hA.trans h)⟩
  obtain ⟨Q, hQ⟩ : ∃ Q, decide (fr ≤ to) = Q := ⟨_, rfl⟩
  have i8 : decide (fr ≤ to) = Q := hQ
  rw [hA, hQ] at hn0
  rw [hA] at HA
  unfold dayV
  obtain ⟨E, hE⟩ : ∃ E, dayE l s fr to = E := ⟨_, rfl⟩
  rw [hE] at hn0 ⊢
  have HN0 := Kp.mk hn0
  obtain ⟨g, c, rfl⟩ := hv.shape
  obtain ⟨N, hN⟩ : ∃ N, l.length = N := ⟨_, rfl⟩
  rw [hN] at HC HE ⊢
  clear hv hm hN hA hQ hE hs hn0
  obtain ⟨R, hR⟩ : ∃ R, (A && Q) = R := ⟨_, rfl⟩
  have HC1 : Kp (∀ W, Below w.heap.size w W → Calls Try.prog 61 #[.slice g N c, .bool (nameB s), .bool R] W fun e w' => e = .returned (.int .i64 E) ∧ Below w.heap.size w w') := ⟨fun W hW => (HC.out _ hW (nameB s) R).mono fun e w' ⟨h1, h2⟩ => ⟨by rw [h1, HN0.out, hR], hW.trans (h2.mono hW.size)⟩⟩
  clear HC
  by_cases hE0 : E = 0
  · subst hE0
    rw [if_pos rfl]
    obtain ⟨hva, -, hr⟩ := chkE_zero HN0.out.symm
    have hr2 := hr
    rw [hR] at hr2
    subst hr2
    rw [Bool.and_eq_true] at hr
    obtain ⟨rfl, rfl⟩ := hr
    have HVA := Kp.mk hva
    clear hva hR HN0
    go_enter Try.func37, Try.ntmps37
    go_wp2_with fail
    refine (HN.out _).mono ?_
    rintro en w1 ⟨rfl, hb1⟩
    have HB1 := Kp.mk hb1
    clear hb1
    go_wp2_with fail
    refine (HA.out _ _ (ri_new2 _ _ _ _)).mono ?_
    rintro en w2 ⟨rfl, rfl⟩
    have HB2 : Kp (Below w.heap.size w (w1.alloc (.cells #[.int .i64 fr, .int .i64 to] 3))) := ⟨HB1.out.alloc HB1.out.size _⟩
    go_wp2_with fail
    refine (HC1.out _ HB2.out).mono ?_
    rintro en w3 ⟨rfl, hb3⟩
    have HB3 := Kp.mk hb3
    clear hb3
    go_wp2_with fail
    refine (HE.out _ HB3.out).mono ?_
    rintro en w4 ⟨hb4, h | h⟩
    · obtain ⟨-, b, rfl, -, -, hcal⟩ := h
      have hl2 := validL_len HVA.out
      obtain ⟨u, hlook, hown, -⟩ := hcal.at HS.out (by unfold maxLen; omega)
      obtain ⟨g2, c2, rfl, -⟩ := hown.at
      have HSU : Kp (∀ w5, w4.alloc (.cells #[.slice g2 (calL l s).length c2] 90) = w5 → Calls Try.prog 77 #[.func (.func 102) #[] #[.pointer (some ⟨w4.heap.size, 0, none⟩)], .func (.func 79) #[.agg #[.int .i64 fr, .int .i64 to]] #[]] w5 fun e w' => e = .returned (.int .i64 (dayN l s fr to)) ∧ Below w5.heap.size w5 w') := ⟨fun w5 h => sumDays_any l s fr to g2 c2 _ w4 w5 HVA.out (HAT.out trivial).1 (HAT.out trivial).2 h hown⟩
      have HB4 : Kp (Below w.heap.size w w4) := ⟨HB3.out.trans (hb4.mono HB3.out.size)⟩
      clear hb4 hcal hown
      go_wp2_with fail
      refine (all_any _ _ _ _).mono ?_
      rintro en w5 ⟨rfl, hw5⟩
      have HB5 : Kp (Below w.heap.size w w5) := ⟨by rw [← hw5]; exact HB4.out.alloc HB4.out.size _⟩
      have HSV := Kp.mk (HSU.out w5 hw5)
      clear hw5 hlook
      go_wp2_with fail
      refine HSV.out.mono ?_
      rintro en w6 ⟨rfl, hb6⟩
      have HB6 := Kp.mk (HB5.out.trans (hb6.mono HB5.out.size))
      clear hb6
      go_wp2
      go_ret2
      exact ⟨rfl, HB6.out⟩
    · exact absurd HVA.out (by rw [h.1]; decide)
  · rw [if_neg hE0]
    have j1 : (E == (0 : Int)) = false := by simp [hE0]
    have j2 : (E != (0 : Int)) = true := by simp [hE0]
    have j3 : decide (E = 0) = false := by simp [hE0]
    cases A <;> cases Q
    all_goals
      first
        | (have e : R = true := hR.symm
           subst e)
        | (have e : R = false := hR.symm
           subst e)
      clear hR
      go_enter Try.func37, Try.ntmps37
      go_wp2_with fail
      refine (HN.out _).mono ?_
      rintro en w1 ⟨rfl, hb1⟩
      have HB1 := Kp.mk hb1
      clear hb1
      go_wp2_with fail
      refine (HA.out _ _ (ri_new2 _ _ _ _)).mono ?_
      rintro en w2 ⟨rfl, rfl⟩
      have HB2 : Kp (Below w.heap.size w (w1.alloc (.cells #[.int .i64 fr, .int .i64 to] 3))) := ⟨HB1.out.alloc HB1.out.size _⟩
      go_wp2_with fail
      refine (HC1.out _ HB2.out).mono ?_
      rintro en w3 ⟨rfl, hb3⟩
      have HB3 := Kp.mk hb3
      clear hb3
      go_wp2
      go_ret2
      exact ⟨rfl, HB3.out⟩
end Go.Proofs.Ytaofjomocefdkaa.Ln
