/-
  WALKS (layer 5, carve): what each place answers, in a new row.
-/
import Derived.Test.YtknggeofilfiaaaGreatDoorCvGrains
import Derived.OwnWalkIn
import Derived.Deep.AppendLies
import Derived.Laws.OwnMore
import Derived.Stop.RegionWithIn
namespace Go.Proofs.YtknggeofilfiaaaGreatDoor.Cv
open Go Go.RowKit Go.Sort
attribute [local go_sem] Oper.semAt_some

theorem info_bool : (Tryz.prog.info? 4).map (fun i => (i.zero, i.size, i.bytes)) = some (some (.bool false), 1, 1) := by kernel_rfl
theorem info_parts {e : TypeId} {z : Value} {s b : Nat} (h : (Tryz.prog.info? e).map (fun i => (i.zero, i.size, i.bytes)) = some (some z, s, b)) : ∃ i, Tryz.prog.info? e = some i ∧ i.zero = some z ∧ i.size = s ∧ i.bytes = b := by
  obtain ⟨i, hi, hzz⟩ := Option.map_eq_some_iff.1 h
  simp only [Prod.mk.injEq] at hzz
  exact ⟨i, hi, hzz⟩
/-- A row of truth values of the call's own, with room for more. -/
def OwnB (W : World) (U N : Nat) (bs : List Bool) : Prop := W.ownsRow U 4 1 (.slice (some ⟨U, 0, none⟩) bs.length N) bs.length (bs.map .bool)
theorem run_empty (W : World) (N : Nat) (hN : N ≤ 100000) : ∃ W', (Instr.makeSlice 38 (.int .i64 0) (.int .i64 (N : Int))).run Tryz.prog W = .ok (.slice (some ⟨W.heap.size, 0, none⟩) 0 N) W' ∧ OwnB W' W.heap.size N [] ∧ Below W.heap.size W W' ∧ W'.heap.size = W.heap.size + 1 := by
  obtain ⟨i0, hi0, hz0, hz1, hz2⟩ := info_parts info_bool
  have hr := run_make (P := Tryz.prog) W 38 4 i0 (.bool false) Tryz.underlying38 hi0 hz0 .i64 .i64 0 N (by omega) (by omega) (by rw [hz2]; omega) (by omega)
  obtain ⟨w', hr2, h1, h2⟩ := run_make_own (P := Tryz.prog) W W.heap.size 38 4 i0 (.bool false) 1 Tryz.underlying38 hi0 hz0 hz1 .i64 .i64 N (by rw [hz2]; omega) (by unfold maxLen; omega) (Nat.le_refl _)
  have e := hr.symm.trans hr2
  simp only [Result.ok.injEq] at e
  refine ⟨w', hr2, h1, ?_, ?_⟩
  · rw [← e.2]; exact (Below.refl _ _).alloc (Nat.le_refl _) _
  · rw [← e.2]; simp
theorem OwnB.lt {W : World} {U N : Nat} {bs : List Bool} (h : OwnB W U N bs) : U < W.heap.size := by
  obtain ⟨-, h | ⟨g, cap, cur, hv, hgB, hh, -⟩⟩ := h
  · cases h.1
  · cases hv; exact (Array.getElem?_eq_some_iff.1 hh).1
theorem OwnB.heap {W : World} {U N : Nat} {bs : List Bool} (h : OwnB W U N bs) : ∃ cur, W.heap[U]? = some (.cells cur 4) := by
  obtain ⟨-, h | ⟨g, cap, cur, hv, hgB, hh, -⟩⟩ := h
  · cases h.1
  · cases hv; exact ⟨cur, hh⟩
theorem OwnB.same {W V : World} {U N : Nat} {bs : List Bool} (h : OwnB W U N bs) (hb : V.heap[U]? = W.heap[U]?) : OwnB V U N bs := by
  obtain ⟨h0, h | ⟨g, cap, cur, hv, hgB, hh, h4⟩⟩ := h
  · cases h.1
  · cases hv; exact ⟨h0, .inr ⟨U, N, cur, rfl, hgB, hb.trans hh, h4⟩⟩
theorem OwnB.at {W : World} {U N : Nat} {bs : List Bool} {k : Nat} {x : Bool} (h : OwnB W U N bs) (hx : bs[k]? = some x) : W.cell? ⟨U, k, none⟩ = some (.bool x) := by
  have hk := (List.getElem?_eq_some_iff.1 hx).1
  obtain ⟨-, h | ⟨g, cap, cur, hv, hgB, hh, hnc, hcm, hcs, htake⟩⟩ := h
  · cases h.1
  · cases hv
    have h1 : (bs.map Value.bool)[k]? = some (.bool x) := by rw [List.getElem?_map, hx]; rfl
    rw [← htake, List.getElem?_take, if_pos (by omega), Array.getElem?_toList] at h1
    simp only [World.cell?, hh]
    simpa using h1
theorem OwnB.lb {W : World} {U N : Nat} {bs : List Bool} (h : OwnB W U N bs) : LB W (.slice (some ⟨U, 0, none⟩) bs.length N) bs := by
  have hlt := h.lt
  refine ⟨_, _, rfl, ?_, fun i x hx => ⟨U, 0, rfl, hlt, ?_⟩⟩
  · obtain ⟨-, h | ⟨g, cap, cur, hv, hgB, hh, hnc, -⟩⟩ := h
    · cases h.1
    · cases hv; exact hnc
  · rw [Nat.zero_add]; exact h.at hx
/-- A new row of truth values. -/
def NB (n : Nat) (W : World) (v : Value) (bs : List Bool) : Prop := ∃ U N, v = .slice (some ⟨U, 0, none⟩) bs.length N ∧ n ≤ U ∧ OwnB W U N bs
theorem NB.lb {n : Nat} {W : World} {v : Value} {bs : List Bool} (h : NB n W v bs) : LB W v bs := by
  obtain ⟨U, N, rfl, -, ho⟩ := h
  exact ho.lb
theorem NB.below {n : Nat} {W V : World} {v : Value} {bs : List Bool} (h : NB n W v bs) (hb : Below W.heap.size W V) : NB n V v bs := by
  obtain ⟨U, N, e, hn, ho⟩ := h
  exact ⟨U, N, e, hn, ho.same (hb.block _ ho.lt)⟩
theorem NB.set {n : Nat} {W : World} {v : Value} {bs : List Bool} (h : NB n W v bs) (B k : Nat) (u : Value) (hB : B < n) : NB n (W.setCell ⟨B, k, none⟩ u) v bs := by
  obtain ⟨U, N, e, hn, ho⟩ := h
  exact ⟨U, N, e, hn, ho.same (Below.heap_setCell _ _ _ _ (by simp only; omega))⟩
theorem NB.more {n m : Nat} {W : World} {v : Value} {bs : List Bool} (h : NB n W v bs) (hm : m ≤ n) : NB m W v bs := by
  obtain ⟨U, N, e, hn, ho⟩ := h
  exact ⟨U, N, e, Nat.le_trans hm hn, ho⟩
/-- What the walk keeps: the function that is asked, the answers so far. -/
structure AI (w : World) (Z N f : Nat) (lb : Array Value) (bs : List Bool) (V : World) : Prop where
  below : Below w.heap.size w V
  ask : V.cell? ⟨Z, 0, none⟩ = some (.func (.func f) #[] lb)
  ans : V.cell? ⟨Z + 2, 0, none⟩ = some (.slice (some ⟨Z + 1, 0, none⟩) bs.length N)
  froz : V.frozen? ⟨Z + 2, 0, none⟩ = false
  own : OwnB V (Z + 1) N bs
theorem AI.same {w V X : World} {Z N f : Nat} {lb : Array Value} {bs : List Bool} (h : AI w Z N f lb bs V) (hb : Below w.heap.size w X) (h0 : X.heap[Z]? = V.heap[Z]?) (h1 : X.heap[Z + 1]? = V.heap[Z + 1]?) (h2 : X.heap[Z + 2]? = V.heap[Z + 2]?) : AI w Z N f lb bs X :=
  ⟨hb, (World.cell?_of_block (a := ⟨Z, 0, none⟩) h0).trans h.ask, (World.cell?_of_block (a := ⟨Z + 2, 0, none⟩) h2).trans h.ans, (World.frozen?_of_block (a := ⟨Z + 2, 0, none⟩) h2).trans h.froz, h.own.same h1⟩
theorem AI.on {w V X : World} {Z N f : Nat} {lb : Array Value} {bs : List Bool} (h : AI w Z N f lb bs V) (hb : Below V.heap.size V X) : AI w Z N f lb bs X :=
  h.same (h.below.trans (hb.mono h.below.size)) (hb.block _ (World.block_lt_of_cell? _ _ h.ask)) (hb.block _ h.own.lt) (hb.block _ (World.block_lt_of_cell? _ _ h.ans))
theorem AI.turns {w : World} {Z N f C : Nat} {lb : Array Value} {bs : List Bool} (hC : w.heap.size ≤ C) : Turns 0 C (AI w Z N f lb bs) := by
  intro X Y row h g hr
  have key : ∀ b j v, X.cell? ⟨b, j, none⟩ = some v → Y.heap[b]? = X.heap[b]? := fun b j v hv => g.block b (World.block_lt_of_cell? _ _ hv) (fun e => by
    obtain ⟨h1, h2 | ⟨p, hp, hc⟩⟩ := hr b e.symm
    · omega
    · rw [cells_of hv p hp] at hc; cases hc)
  obtain ⟨cur, hcur⟩ := h.own.heap
  refine h.same ⟨g.os.trans h.below.os, g.tape.trans h.below.tape, g.output.trans h.below.output, Nat.le_trans h.below.size g.size, fun j hj => ?_⟩ (key _ _ _ h.ask) (g.block _ h.own.lt (fun e => ?_)) (key _ _ _ h.ans)
  · exact (g.block j (Nat.lt_of_lt_of_le hj h.below.size) (fun e => by have := (hr j e.symm).1; omega)).trans (h.below.block j hj)
  · obtain ⟨h1, h2 | ⟨p, hp, hc⟩⟩ := hr _ e.symm
    · omega
    · rw [hcur] at hp; cases hp; cases hc
theorem ai_start {w Wm : World} {Z N f : Nat} {lb : Array Value} (hZ : w.heap.size = Z) (hb : Below (w.alloc (.cells #[.func (.func f) #[] lb] 65)).heap.size (w.alloc (.cells #[.func (.func f) #[] lb] 65)) Wm) (hz : Wm.heap.size = Z + 1 + 1) (ho : OwnB Wm (Z + 1) N []) :
    AI w Z N f lb [] (Wm.alloc (.cells #[.slice (some ⟨Z + 1, 0, none⟩) 0 N] 38)) := by
  have b0 : Below w.heap.size w (w.alloc (.cells #[.func (.func f) #[] lb] 65)) := (Below.refl _ _).alloc (Nat.le_refl _) _
  have b2 : Below Wm.heap.size Wm (Wm.alloc (.cells #[.slice (some ⟨Z + 1, 0, none⟩) 0 N] 38)) := (Below.refl _ _).alloc (Nat.le_refl _) _
  subst hZ
  have c0 : (w.alloc (.cells #[.func (.func f) #[] lb] 65)).cell? ⟨w.heap.size, 0, none⟩ = some (.func (.func f) #[] lb) := by go_simp
  have c1 := (hb.cell (p := ⟨w.heap.size, 0, none⟩) (by simp)).trans c0
  refine ⟨(b0.trans (hb.mono (by simp))).trans (b2.mono (by omega)), (b2.cell (p := ⟨w.heap.size, 0, none⟩) (by simp; omega)).trans c1, ?_, ?_, ho.same (b2.block _ ho.lt)⟩
  · rw [show w.heap.size + 2 = Wm.heap.size by omega]; go_simp
  · rw [show w.heap.size + 2 = Wm.heap.size by omega]; go_simp
theorem ai_next {w W1 : World} {Z N f : Nat} {lb : Array Value} {bs : List Bool} {R : Bool} (h : AI w Z N f lb bs W1) (hZ : w.heap.size = Z) (hk : bs.length < N) :
    (W1.alloc (.cells #[.bool R] 4)).cell? ⟨Z + 2, 0, none⟩ = some (.slice (some ⟨Z + 1, 0, none⟩) bs.length N) ∧ W1.cell? ⟨Z + 2, 0, none⟩ = some (.slice (some ⟨Z + 1, 0, none⟩) bs.length N) ∧
    ∃ W2, (Builtin.append_ #[38, 38] 38 #[.slice (some ⟨Z + 1, 0, none⟩) bs.length N, .slice (some ⟨W1.heap.size, 0, none⟩) 1 1]).run Tryz.prog (W1.alloc (.cells #[.bool R] 4)) = .ok (.slice (some ⟨Z + 1, 0, none⟩) (bs.length + 1) N) W2 ∧
      W2.cell? ⟨Z + 2, 0, none⟩ = some (.slice (some ⟨Z + 1, 0, none⟩) bs.length N) ∧ W2.frozen? ⟨Z + 2, 0, none⟩ = false ∧
      AI w Z N f lb (bs ++ [R]) (W2.setCell ⟨Z + 2, 0, none⟩ (.slice (some ⟨Z + 1, 0, none⟩) (bs.length + 1) N)) ∧ (∀ n, Z + 2 < n → n ≤ W1.heap.size → KeepsFrom n W1 (W2.setCell ⟨Z + 2, 0, none⟩ (.slice (some ⟨Z + 1, 0, none⟩) (bs.length + 1) N))) ∧ (∀ S m n, Z + 2 < n → (∀ k, S k → k < W1.heap.size ∧ Z + 2 < k) → Keep S m n W1 (W2.setCell ⟨Z + 2, 0, none⟩ (.slice (some ⟨Z + 1, 0, none⟩) (bs.length + 1) N))) := by
  have hb : Below W1.heap.size W1 (W1.alloc (.cells #[.bool R] 4)) := (Below.refl _ _).alloc (Nat.le_refl _) _
  have hnew : (W1.alloc (.cells #[.bool R] 4)).cell? ⟨W1.heap.size, 0, none⟩ = some (.bool R) := by go_simp
  obtain ⟨X, hX⟩ : ∃ X, W1.alloc (.cells #[.bool R] 4) = X := ⟨_, rfl⟩
  rw [hX] at hb hnew ⊢
  have hx := h.on hb
  clear hX
  obtain ⟨i0, hi0, -, hz1, -⟩ := info_parts info_bool
  have l2 := World.block_lt_of_cell? _ _ h.ans
  obtain ⟨W2, hrun, r1, r2⟩ := run_append_fits (P := Tryz.prog) (w := X) (Z + 1) 38 38 4 i0 1 Tryz.underlying38 hi0 hz1 (Z + 1) bs.length N (bs.map .bool) hx.own ⟨W1.heap.size, 0, none⟩ 1 1 [.bool R] rfl
    (fun j u hu => by
      match j with
      | 0 => simp at hu; subst hu; exact hnew
      | j + 1 => simp at hu) (by intro u hu; simp at hu; subst hu; rfl) (by omega)
  have e2 : W2.heap[Z + 2]? = X.heap[Z + 2]? := r2.block _ (World.block_lt_of_cell? _ _ hx.ans) (by simp)
  have c2 : W2.cell? ⟨Z + 2, 0, none⟩ = some (.slice (some ⟨Z + 1, 0, none⟩) bs.length N) := (World.cell?_of_block (a := ⟨Z + 2, 0, none⟩) e2).trans hx.ans
  have z2 : W2.frozen? ⟨Z + 2, 0, none⟩ = false := (World.frozen?_of_block (a := ⟨Z + 2, 0, none⟩) e2).trans hx.froz
  have hl2 := World.block_lt_of_cell? _ _ c2
  have hB2 : Below w.heap.size w W2 := hx.below.grown r2 hx.below.size (fun j hj => by cases hj; omega)
  have e0 : (W2.setCell ⟨Z + 2, 0, none⟩ (.slice (some ⟨Z + 1, 0, none⟩) (bs.length + 1) N)).heap[Z]? = X.heap[Z]? := (Below.heap_setCell _ _ _ _ (by simp only; omega)).trans (r2.block _ (World.block_lt_of_cell? _ _ hx.ask) (by simp))
  have g0 : W1.grownBy X none := grown_below hb none
  refine ⟨hx.ans, h.ans, W2, hrun, c2, z2, ⟨hB2.setCell (by simp; omega) _, (World.cell?_of_block (a := ⟨Z, 0, none⟩) e0).trans hx.ask, ?_, ?_, ?_⟩, ?_, ?_⟩
  · simp [go_sem, c2]
  · simp [go_sem, z2]
  · unfold OwnB
    rw [List.length_append, List.map_append]
    exact World.ownsRow.kept (row := some (Z + 2)) r1 (setCell_grown _ _ _ _) (by simp [Value.ownBlock])
  · intro n hn _
    exact (KeepsFrom.of_grownBy g0 (fun j e => by cases e)).trans ((KeepsFrom.of_grownBy r2 (fun j e => by cases e; omega)).trans (KeepsFrom.of_grownBy (setCell_grown _ _ _ _) (fun j e => by cases e; omega)))
  · intro S m n hn hS
    refine (Keep.below hb (fun k hk => (hS k hk).1)).trans ((Keep.of_grown r2 (fun k hk => by have := (hS k hk).1; have := hb.size; omega) (fun r e => by cases e; exact ⟨by omega, fun hk => by have := (hS _ hk).2; omega⟩)).trans (Keep.of_grown (setCell_grown _ _ _ _) (fun k hk => by have := (hS k hk).1; have := hb.size; have := r2.size; omega) (fun r e => by cases e; exact ⟨by omega, fun hk => by have := (hS _ hk).2; omega⟩)))
attribute [-go_sem] Builtin.append_
set_option maxRecDepth 100000 in
set_option maxHeartbeats 2000000 in
theorem asked_any (f : Nat) (lb : Array Value) (q : Gr → Bool) (s : Nat) (w : World) (hs : 1 ≤ s) (hs2 : s ≤ 10)
    (hE : ∀ args W, (callFunc f args).run Tryz.prog W = .ok (.enter f args) W)
    (hA : Kp (∀ W g, Below w.heap.size w W → insB s g = true → Calls Tryz.prog f (#[.agg #[.int .i64 g.x, .int .i64 g.y, .int .i64 g.z]] ++ lb) W fun e w' => e = .returned (.bool (q g)) ∧ Below W.heap.size W w')) :
    Calls Tryz.prog 44 #[.int .i64 s, .func (.func f) #[] lb] w fun en w' => ∃ v, en = .returned v ∧ NB w.heap.size w' v ((placesL s).map q) ∧ Below w.heap.size w w' := by
  refine (callsIn_wide (n := 6)).1 ?_
  refine callsIn_of_wp_marks Tryz.func44 rfl trivial ?_ rfl
  simp only [Tryz.ntmps44, List.size_toArray, List.length_cons, List.length_nil, Nat.reduceAdd, Nat.reduceSub, Array.replicate_succ, Array.replicate_zero, List.push_toArray, List.append_toArray, List.nil_append, List.cons_append]
  obtain ⟨e1, e2⟩ := cube_wrap hs2
  have hcb := cube_bd hs2
  obtain ⟨N, hN⟩ : ∃ N, s * s * s = N := ⟨_, rfl⟩
  rw [hN] at e2 hcb
  have HN := Kp.mk hN
  obtain ⟨Wm, hrun, hown, hbm, hzm⟩ := run_empty (w.alloc (.cells #[.func (.func f) #[] lb] 65)) N (by omega)
  obtain ⟨Z, hZ⟩ : ∃ Z, w.heap.size = Z := ⟨_, rfl⟩
  have HZ := Kp.mk hZ
  rw [World.size_alloc, hZ] at hrun hown hzm
  have HA0 : Kp (AI w Z N f lb [] (Wm.alloc (.cells #[.slice (some ⟨Z + 1, 0, none⟩) 0 N] 38))) := ⟨ai_start hZ hbm hzm hown⟩
  have HS0 : Kp ((Wm.alloc (.cells #[.slice (some ⟨Z + 1, 0, none⟩) 0 N] 38)).heap.size = Z + 3) := ⟨by rw [World.size_alloc, hzm]⟩
  clear hN hcb hown hbm hzm
  simp only [hZ] at hrun ⊢
  gi_wp2
  refine ⟨trivial, (callsIn_wide.2 (places_any _ _)).mono ?_⟩
  rintro en W0 ⟨rfl, hW0⟩
  have HW := Lib.hid (places_start (Y := Z + 3) HS0.out hW0)
  have HA1 : Kp (AI w Z N f lb (([] : List Gr).map q) W0) := ⟨HA0.out.on HW.out.2.1⟩
  have HWM : Kp (Wm.heap.size = Z + 2) := ⟨by have := HS0.out; rw [World.size_alloc] at this; omega⟩
  clear hW0 hrun hZ
  gi_wp2
  simp only [HWM.out]
  refine wpIn_yieldsS (k := 0) (enc := encG) (xs := placesL s) rfl (by omega) (gf := 74) (lb := #[.pointer (some ⟨Z + 3, 0, none⟩)]) rfl trivial (enters_of Tryz.func74 (by kernel_rfl) rfl) (fun _ => rfl)
    (places_yields 5 (by omega) (Z + 3) s hs hs2 W0 HW.out.2.2) Keep.trans (fun V o o' _ _ _ => Keep.putObj (by omega) (by have := HW.out.1; omega))
    (fun pre V => AI w Z N f lb (pre.map q) V)
    (fun _ _ _ => False)
    (fun p => Turns.abides (C := Z) (AI.turns (by have := HZ.out; omega)) (by have := HW.out.1; omega)) (fun _ _ => Turns.abides (C := Z) turns_const (by have := HW.out.1; omega))
    HA1.out
    (fun pre x a' V => AI w Z N f lb (pre.map q) V ∧ ∃ G, Z + 5 < G ∧ GrAt V G x ∧ a' = { tmps := #[.int .i64 s, .func (.func f) #[] lb, undef, .pointer (some ⟨Z, 0, none⟩), .slice none 0 0, .pointer (some ⟨Z + 2, 0, none⟩), .pointer (some ⟨G, 0, none⟩), .int .i64 s, .int .i64 s, .int .i64 (s * s), .int .i64 s, .int .i64 N, .slice (some ⟨Z + 1, 0, none⟩) 0 N, .int .i64 s, .func (.func 74) #[] #[.pointer (some ⟨Z + 3, 0, none⟩)], .agg #[.int .i64 x.x, .int .i64 x.y, .int .i64 x.z], undef, undef, undef, undef, undef, undef, undef], defers := [] })
    ?ax ?assign ?body ?done ?stop
  case ax =>
    rintro pre x a' X V row ⟨hi, G, hG, hx, ha⟩ g hr
    exact ⟨Turns.abides (C := Z) (AI.turns (by have := HZ.out; omega)) (by have := HW.out.1; omega) X V row hi g hr, G, hG, GrAt.abide hx g hr (by have := HW.out.1; omega), ha⟩
  case assign =>
    rintro l2 pre ⟨gx, gy, gz⟩ V hi _ hsz
    have HI := Kp.mk hi
    clear hi
    have ez : ((#[15] : Array Tmp).zip (encG ⟨gx, gy, gz⟩)).foldl (fun tmps (q : Tmp × Value) => tmps.setIfInBounds q.1 q.2) #[.int .i64 s, .func (.func f) #[] lb, undef, .pointer (some ⟨Z, 0, none⟩), .slice none 0 0, .pointer (some ⟨Z + 2, 0, none⟩), undef, .int .i64 s, .int .i64 s, .int .i64 (s * s), .int .i64 s, .int .i64 N, .slice (some ⟨Z + 1, 0, none⟩) 0 N, .int .i64 s, .func (.func 74) #[] #[.pointer (some ⟨Z + 3, 0, none⟩)], undef, undef, undef, undef, undef, undef, undef, undef] = #[.int .i64 s, .func (.func f) #[] lb, undef, .pointer (some ⟨Z, 0, none⟩), .slice none 0 0, .pointer (some ⟨Z + 2, 0, none⟩), undef, .int .i64 s, .int .i64 s, .int .i64 (s * s), .int .i64 s, .int .i64 N, .slice (some ⟨Z + 1, 0, none⟩) 0 N, .int .i64 s, .func (.func 74) #[] #[.pointer (some ⟨Z + 3, 0, none⟩)], .agg #[.int .i64 gx, .int .i64 gy, .int .i64 gz], undef, undef, undef, undef, undef, undef, undef] := by simp [encG]
    rw [ez]
    clear ez
    gi_wp2
    have hzv : Z + 5 < V.heap.size := by have := HW.out.1; omega
    have hbb : Below V.heap.size V (V.alloc (.cells #[.int .i64 gx, .int .i64 gy, .int .i64 gz] 64)) := (Below.refl _ _).alloc (Nat.le_refl _) _
    exact ⟨alloc_keeps _ _ _, Keep.below hbb (fun j hj => by omega), HI.out.on hbb, V.heap.size, hzv, ⟨by go_simp, by go_simp, by go_simp⟩, rfl⟩
  case body =>
    rintro l2 pre x a' V ⟨hi, G, hG, hgr, rfl⟩ hpre hsz
    have hpl : pre.length < N := by
      have := hpre.length_le
      rw [List.length_append, List.length_singleton, places_len, HN.out] at this
      omega
    have hin : insB s x = true := by
      have : x ∈ placesL s := hpre.subset (by simp)
      obtain ⟨j, hj, rfl⟩ := List.mem_map.1 this
      exact grAt_ins (List.mem_range.1 hj)
    have hml : (pre.map q).length = pre.length := List.length_map _
    have HQ : Kp (∀ W, Below w.heap.size w W → Calls Tryz.prog f (#[.agg #[.int .i64 x.x, .int .i64 x.y, .int .i64 x.z]] ++ lb) W fun e w' => e = .returned (.bool (q x)) ∧ Below W.heap.size W w') := ⟨fun W hW => hA.out W x hW hin⟩
    have HM : Kp ((pre ++ [x]).map q = pre.map q ++ [q x]) := ⟨by rw [List.map_append]; rfl⟩
    obtain ⟨R, hR⟩ : ∃ R, q x = R := ⟨_, rfl⟩
    obtain ⟨bs, hbs⟩ : ∃ bs, pre.map q = bs := ⟨_, rfl⟩
    rw [hR] at HQ HM
    rw [hbs] at HM hi hml
    have HI := Kp.mk hi
    have HSZ : Kp (W0.heap.size = Z + 3 + 1 ∧ W0.heap.size + 2 ≤ V.heap.size) := ⟨HW.out.1, hsz⟩
    have HNX : Kp (∀ X, Below V.heap.size V X → _) := ⟨fun X hX => ai_next (hi.on hX) HZ.out (by rw [hml]; exact hpl) (R := R)⟩
    obtain ⟨gx, gy, gz⟩ := x
    obtain ⟨d0, d1, d2⟩ := hgr
    have a1 : V.drew.cell? ⟨Z, 0, none⟩ = some (.func (.func f) #[] lb) := hi.ask
    have a2 : V.drew.cell? ⟨Z + 2, 0, none⟩ = some (.slice (some ⟨Z + 1, 0, none⟩) bs.length N) := hi.ans
    have a3 : V.drew.cell? ⟨G, 0, none⟩ = some (.int .i64 gx) := d0
    have a4 : V.drew.cell? ⟨G, 1, none⟩ = some (.int .i64 gy) := d1
    have a5 : V.drew.cell? ⟨G, 2, none⟩ = some (.int .i64 gz) := d2
    clear hR hbs hi hin hpl hpre d0 d1 d2 hml
    gi_wp2
    gi_region_with (refine ⟨trivial, (CallsIn.inRound _ (callsIn_wide.2 (HQ.out _ (Below.drew HI.out.below)))).mono ?_⟩; rintro en W1 ⟨rfl, hb1⟩; have HX1 : Kp (Below V.heap.size V W1) := ⟨(Below.drew (Below.refl _ _)).trans hb1⟩; obtain ⟨n1, n2, W2, hrun, n4, n5, n6⟩ := HNX.out W1 HX1.out; have HN6 := Kp.mk n6; clear hb1 n6)
    all_goals
      gi_wp2
      obtain ⟨m1, m2, m3⟩ := HN6.out
      have hz1 := HX1.out.size
      exact ⟨(KeepsFrom.of_grownBy (grown_below HX1.out none) (fun j e => by cases e)).trans (m2 _ (by have := HSZ.out; omega) (by have := HSZ.out; omega)), (Keep.below HX1.out (fun j hj => by have := HSZ.out; omega)).trans (m3 _ _ _ (by have := HSZ.out; omega) (fun j hj => by have := HSZ.out; omega)), by show AI w Z N f lb (List.map q (pre ++ [_])) _; rw [HM.out]; exact m1⟩
  case done =>
    rintro D V hD hi hd
    have hgb := grownBy_putObj' V D (.deferred none)
    have hi2 := AI.turns (C := Z) (by have := HZ.out; omega) _ _ (some D) hi hgb (fun r e => by cases e; exact ⟨by have := HW.out.1; omega, .inr ⟨_, hd, rfl⟩⟩)
    have HI2 := Kp.mk hi2
    have HD2 := Kp.mk hd
    have a2 := hi.ans
    clear hi hd hi2 hgb
    gi_wp2
    refine ⟨by simp, .inl ⟨_, _, rfl, run_takeDeferred HD2.out, ?_⟩⟩
    refine ⟨.slice (some ⟨Z + 1, 0, none⟩) ((placesL s).map q).length N, by simp [results, Tryz.results44, go_sem], _, rfl, ⟨Z + 1, N, rfl, by omega, HI2.out.own⟩, ?_⟩
    have := HI2.out.below
    rwa [HZ.out] at this
  case stop =>
    rintro D cd ys V hD hys hi hd
    exact hi.elim
end Go.Proofs.YtknggeofilfiaaaGreatDoor.Cv
