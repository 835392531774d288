/-
  WALKS (layer 7, scene): the program's Raised where it refuses.
-/
import Derived.Test.YtjnggchljilooaaScSeen
namespace Go.Proofs.Ytjnggchljilooaa.Sc
open Go Go.RowKit Go.Sort

theorem boxesG_start {w W1 : World} {wd dp : Int} {v : Value} {t1 t2 : TypeId} (h : (w.alloc (.cells #[.int .i64 wd, .int .i64 dp, v] t1)).alloc (.cells #[.int .i64 0, .int .i64 0, .slice none 0 0] t2) = W1) :
    Below w.heap.size w W1 ∧ ∀ w', Below W1.heap.size W1 w' → w'.cell? ⟨w.heap.size, 0, none⟩ = some (.int .i64 wd) ∧ w'.cell? ⟨w.heap.size, 1, none⟩ = some (.int .i64 dp) ∧ w'.cell? ⟨w.heap.size, 2, none⟩ = some v ∧ w'.cell? ⟨w.heap.size + 1, 0, none⟩ = some (.int .i64 0) ∧ w'.cell? ⟨w.heap.size + 1, 1, none⟩ = some (.int .i64 0) ∧ w'.cell? ⟨w.heap.size + 1, 2, none⟩ = some (.slice none 0 0) ∧ (∀ j, w'.frozen? ⟨w.heap.size, j, none⟩ = false) ∧ ∀ j, w'.frozen? ⟨w.heap.size + 1, j, none⟩ = false := by
  subst h
  refine ⟨by repeat (first | exact Below.refl _ _ | refine Below.alloc ?_ (by simp <;> omega) _ | refine bDrewN ?_ _ | refine Below.drew ?_), fun w' hb => ?_⟩
  exact ⟨(hb.cell (p := ⟨_, 0, none⟩) (by simp <;> omega)).trans (by go_simp), (hb.cell (p := ⟨_, 1, none⟩) (by simp <;> omega)).trans (by go_simp), (hb.cell (p := ⟨_, 2, none⟩) (by simp <;> omega)).trans (by go_simp), (hb.cell (p := ⟨_, 0, none⟩) (by simp <;> omega)).trans (by go_simp), (hb.cell (p := ⟨_, 1, none⟩) (by simp <;> omega)).trans (by go_simp), (hb.cell (p := ⟨_, 2, none⟩) (by simp <;> omega)).trans (by go_simp), fun j => (World.frozen?_of_block (a := ⟨_, j, none⟩) (hb.block _ (by simp <;> omega))).trans (by go_simp), fun j => (World.frozen?_of_block (a := ⟨_, j, none⟩) (hb.block _ (by simp <;> omega))).trans (by go_simp)⟩
set_option maxHeartbeats 1000000 in
theorem Raised_no (wd dp n : Int) (g : Option Addr) (M c : Nat) (w : World)
    (HV : Kp (∀ W, Below w.heap.size w W → Calls Try.prog 16 #[.agg #[.int .i64 wd, .int .i64 dp, .slice g M c]] W fun e w' => e = .returned (.bool false) ∧ Below W.heap.size W w')) :
    Calls Try.prog 21 #[.agg #[.int .i64 wd, .int .i64 dp, .slice g M c], .int .i64 n] w fun e w' => e = .returned (.tuple #[.agg #[.int .i64 0, .int .i64 0, .slice none 0 0], .int .i64 1]) ∧ Below w.heap.size w w' := by
  go_enter Try.func21, Try.ntmps21
  go_wp2_with fail
  try simp only [Nat.add_assoc, Nat.reduceAdd]
  obtain ⟨W1, hW1⟩ : ∃ W, (w.alloc (.cells #[.int .i64 wd, .int .i64 dp, .slice g M c] 24)).alloc (.cells #[.int .i64 0, .int .i64 0, .slice none 0 0] 24) = W := ⟨_, rfl⟩
  obtain ⟨hb1, hall⟩ := boxesG_start hW1
  have HSZ : Kp (w.heap.size + 2 ≤ W1.heap.size) := ⟨by rw [← hW1]; simp⟩
  rw [hW1]
  obtain ⟨B, hB⟩ : ∃ B, w.heap.size = B := ⟨_, rfl⟩
  have HBB := Kp.mk hB
  have HVX := Kp.mk (HV.out W1 hb1)
  rw [hB] at hall HSZ
  have HB1 := Kp.mk hb1
  have HALL := Kp.mk hall
  try simp only [hB]
  clear hW1 hb1 hall hB
  refine (HVX.out).mono ?_
  rintro en w2 ⟨rfl, hb2⟩
  obtain ⟨q0, q1, q2, r0, r1, r2, qz, rz⟩ := HALL.out w2 hb2
  have HBW := Kp.mk (HB1.out.trans (hb2.mono HB1.out.size))
  have z0 := rz 0
  have z1 := rz 1
  have z2 := rz 2
  clear hb2 rz qz HVX
  go_wp2
  exact bodyPost_ret (v := .tuple #[.agg #[.int .i64 0, .int .i64 0, .slice none 0 0], .int .i64 1]) (by simp [results, Try.results21, go_sem, r0, r1, r2]) rfl ⟨rfl, by repeat (first | exact HBW.out | refine Below.setCell ?_ (by have := HBB.out; simp only; omega) _ | refine Below.drew ?_)⟩
set_option maxRecDepth 100000 in
set_option maxHeartbeats 4000000 in
theorem Raised_lim (wd dp n m x : Int) (g : Option Addr) (M c : Nat) (w : World)
    (HV : Kp (∀ W, Below w.heap.size w W → Calls Try.prog 16 #[.agg #[.int .i64 wd, .int .i64 dp, .slice g M c]] W fun e w' => e = .returned (.bool true) ∧ Below W.heap.size W w'))
    (HMI : Kp (∀ W, Below w.heap.size w W → Calls Try.prog 56 #[.slice g M c] W fun e w' => e = .returned (.int .i64 m) ∧ W = w'))
    (HMA : Kp (∀ W, Below w.heap.size w W → Calls Try.prog 57 #[.slice g M c] W fun e w' => e = .returned (.int .i64 x) ∧ W = w'))
    (HWI : Kp (∀ W u, IS W u [n] → Calls Try.prog 51 #[.int .i64 (IntKind.i64.wrap (-m)), .int .i64 (IntKind.i64.wrap (1000 - x)), u] W fun e w' => e = .returned (.bool false) ∧ W = w')) :
    Calls Try.prog 21 #[.agg #[.int .i64 wd, .int .i64 dp, .slice g M c], .int .i64 n] w fun e w' => e = .returned (.tuple #[.agg #[.int .i64 0, .int .i64 0, .slice none 0 0], .int .i64 4]) ∧ Below w.heap.size w w' := by
  go_enter Try.func21, Try.ntmps21
  go_wp2_with fail
  try simp only [Nat.add_assoc, Nat.reduceAdd]
  obtain ⟨W1, hW1⟩ : ∃ W, (w.alloc (.cells #[.int .i64 wd, .int .i64 dp, .slice g M c] 24)).alloc (.cells #[.int .i64 0, .int .i64 0, .slice none 0 0] 24) = W := ⟨_, rfl⟩
  obtain ⟨hb1, hall⟩ := boxesG_start hW1
  have HSZ : Kp (w.heap.size + 2 ≤ W1.heap.size) := ⟨by rw [← hW1]; simp⟩
  rw [hW1]
  obtain ⟨B, hB⟩ : ∃ B, w.heap.size = B := ⟨_, rfl⟩
  have HBB := Kp.mk hB
  have HVX := Kp.mk (HV.out W1 hb1)
  rw [hB] at hall HSZ
  have HB1 := Kp.mk hb1
  have HALL := Kp.mk hall
  try simp only [hB]
  clear hW1 hb1 hall hB
  refine (HVX.out).mono ?_
  rintro en w2 ⟨rfl, hb2⟩
  go_wp2_with fail
  refine wp_region_noPanic ?_
  refine region_nm ?_
  intro ops Qp hops hQp
  have HQP : Kp (∀ c a d v w, Qp (.panic c) (Act.put a d v) w → Qp (.panic c) a w) := ⟨by subst hQp; intro c a d v w h; exact h⟩
  have HFIN : Kp (∀ (w' : World) (b9 : Nat), Below w2.heap.size w2 w' → Qp .normal { tmps := #[.agg #[.int .i64 wd, .int .i64 dp, .slice g M c], .int .i64 n, .pointer (some ⟨B, 0, none⟩), undef, .pointer (some ⟨B + 1, 0, none⟩), .int .i64 0, undef, .agg #[.int .i64 wd, .int .i64 dp, .slice g M c], .bool true, .bool false, undef, .pointer (some ⟨B, 2, none⟩), .slice g M c, .int .i64 m, .int .i64 (IntKind.i64.wrap (-m)), .pointer (some ⟨B, 2, none⟩), .slice g M c, .int .i64 x, .int .i64 (IntKind.i64.wrap (1000 - x)), .int .i64 n, .slice (some ⟨b9, 0, none⟩) 1 1, .bool false, .bool true, undef, undef, undef, undef, undef, undef, undef, undef, undef, undef, undef, undef, undef, undef, undef, undef, undef, undef, undef, undef, undef], defers := [] } w') := by
    refine ⟨?_⟩
    intro w' b9 hw
    obtain ⟨q0, q1, q2, r0, r1, r2, qz, rz⟩ := HALL.out w' (hb2.trans (hw.mono hb2.size))
    have hb := HB1.out.trans (hb2.mono HB1.out.size)
    have HBW := Kp.mk (hb.trans (hw.mono hb.size))
    have z0 := rz 0
    have z1 := rz 1
    have z2 := rz 2
    clear HQP hops hw rz qz hb hb2 HVX
    subst hQp
    refine NoPanic.normal ?_
    go_wp2
    exact bodyPost_ret (v := .tuple #[.agg #[.int .i64 0, .int .i64 0, .slice none 0 0], .int .i64 4]) (by simp [results, Try.results21, go_sem, r0, r1, r2]) rfl ⟨rfl, by repeat (first | exact HBW.out | refine Below.setCell ?_ (by have := HBB.out; simp only; omega) _ | refine Below.drew ?_)⟩
  have S0_1_2_3_4_5_6_7_8_9_10 : Kp (∀ (w' : World) (b9 : Nat), Below w2.heap.size w2 w' → w'.cell? ⟨b9, 0, none⟩ = some (.int .i64 n) → wpAnyH Try.prog .any ops Qp (fun w' => Below w2.heap.size w2 w') 1 #[true, true, true, true, true, true, true, true, true, true, true, false] { tmps := #[.agg #[.int .i64 wd, .int .i64 dp, .slice g M c], .int .i64 n, .pointer (some ⟨B, 0, none⟩), undef, .pointer (some ⟨B + 1, 0, none⟩), .int .i64 0, undef, .agg #[.int .i64 wd, .int .i64 dp, .slice g M c], .bool true, .bool false, undef, .pointer (some ⟨B, 2, none⟩), .slice g M c, .int .i64 m, .int .i64 (IntKind.i64.wrap (-m)), .pointer (some ⟨B, 2, none⟩), .slice g M c, .int .i64 x, .int .i64 (IntKind.i64.wrap (1000 - x)), .int .i64 n, .slice (some ⟨b9, 0, none⟩) 1 1, .bool false, undef, undef, undef, undef, undef, undef, undef, undef, undef, undef, undef, undef, undef, undef, undef, undef, undef, undef, undef, undef, undef, undef], defers := [] } w') := by
    refine ⟨?_⟩
    intro w' b9 hw f9_0
    refine wpAnyH_take (i := 11) (oi := { dst := some 22, op := Go.Op.unOp Go.UnOp.not 4 (Go.Operand.tmp 21), type := 4, pos := "scene.go:51", after := #[{ on := 10, ground := Go.Ground.data }], guard := none }) (v := .bool true) (by rw [hops]; kernel_rfl) (by rw [hops]; kernel_rfl) (by rw [hops]; kernel_rfl) (by rw [hops]; kernel_rfl) (fun c a w h => HQP.out c a _ _ w h) (Or.inl ⟨by rw [hops]; kernel_rfl, by intro w _; go_simp⟩) hw ?_
    simp only [Act.put, List.setIfInBounds_toArray, List.set_cons_zero, List.set_cons_succ]
    refine wpAnyH_done (by rw [hops]; kernel_rfl) ?_ _
    exact HFIN.out w' b9 hw
  have S0_1_2_3_4_5_6_7_8_9 : Kp (∀ (w' : World) (b9 : Nat), Below w2.heap.size w2 w' → w'.cell? ⟨b9, 0, none⟩ = some (.int .i64 n) → wpAnyH Try.prog .any ops Qp (fun w' => Below w2.heap.size w2 w') 2 #[true, true, true, true, true, true, true, true, true, true, false, false] { tmps := #[.agg #[.int .i64 wd, .int .i64 dp, .slice g M c], .int .i64 n, .pointer (some ⟨B, 0, none⟩), undef, .pointer (some ⟨B + 1, 0, none⟩), .int .i64 0, undef, .agg #[.int .i64 wd, .int .i64 dp, .slice g M c], .bool true, .bool false, undef, .pointer (some ⟨B, 2, none⟩), .slice g M c, .int .i64 m, .int .i64 (IntKind.i64.wrap (-m)), .pointer (some ⟨B, 2, none⟩), .slice g M c, .int .i64 x, .int .i64 (IntKind.i64.wrap (1000 - x)), .int .i64 n, .slice (some ⟨b9, 0, none⟩) 1 1, undef, undef, undef, undef, undef, undef, undef, undef, undef, undef, undef, undef, undef, undef, undef, undef, undef, undef, undef, undef, undef, undef, undef], defers := [] } w') := by
    refine ⟨?_⟩
    intro w' b9 hw f9_0
    refine wpAnyH_ready (rs := [10]) (by rw [hops]; kernel_rfl) (by simp) ?_
    refine AllReadyH.cons (o := { dst := some 21, op := Go.Op.call { callee := Go.Callee.value (Go.Operand.func 51), args := #[Go.Operand.tmp 14, Go.Operand.tmp 18, Go.Operand.tmp 20], argTypes := #[3, 3, 22] }, type := 4, pos := "scene.go:51", after := #[{ on := 3, ground := Go.Ground.data }, { on := 7, ground := Go.Ground.data }, { on := 9, ground := Go.Ground.data }, { on := 6, ground := Go.Ground.chain }], guard := none }) (by rw [hops]; kernel_rfl) (fun K hK => ?_) ?_
    · rw [if_pos (by rw [hops]; kernel_rfl)]
      go_simp
      refine (HWI.out _ _ (is_one f9_0)).mono ?_
      rintro en w5 ⟨rfl, hb5⟩
      have hb5 : Below w'.heap.size w' w5 := by rw [← hb5]; exact Below.refl _ _
      exact hK.out _ _ (hw.trans (hb5.mono hw.size)) (fun hwn => S0_1_2_3_4_5_6_7_8_9_10.out w5 b9 hwn ((hb5.cell (p := ⟨b9, 0, none⟩) (World.block_lt_of_cell? _ _ f9_0)).trans f9_0))
    exact AllReadyH.nil
  have S0_1_2_3_4_5_6_8 : Kp (∀ (w' : World), Below w2.heap.size w2 w' → wpAnyH Try.prog .any ops Qp (fun w' => Below w2.heap.size w2 w') 4 #[true, true, true, true, true, true, true, false, true, false, false, false] { tmps := #[.agg #[.int .i64 wd, .int .i64 dp, .slice g M c], .int .i64 n, .pointer (some ⟨B, 0, none⟩), undef, .pointer (some ⟨B + 1, 0, none⟩), .int .i64 0, undef, .agg #[.int .i64 wd, .int .i64 dp, .slice g M c], .bool true, .bool false, undef, .pointer (some ⟨B, 2, none⟩), .slice g M c, .int .i64 m, .int .i64 (IntKind.i64.wrap (-m)), .pointer (some ⟨B, 2, none⟩), .slice g M c, .int .i64 x, undef, .int .i64 n, undef, undef, undef, undef, undef, undef, undef, undef, undef, undef, undef, undef, undef, undef, undef, undef, undef, undef, undef, undef, undef, undef, undef, undef], defers := [] } w') := by
    refine ⟨?_⟩
    intro w' hw
    refine wpAnyH_take (i := 7) (oi := { dst := some 18, op := Go.Op.binOp Go.BinOp.sub 3 (Go.Operand.const (Go.Value.int Go.IntKind.i64 1000)) (Go.Operand.tmp 17) 3, type := 3, pos := "scene.go:51", after := #[{ on := 6, ground := Go.Ground.data }], guard := none }) (v := .int .i64 (IntKind.i64.wrap (1000 - x))) (by rw [hops]; kernel_rfl) (by rw [hops]; kernel_rfl) (by rw [hops]; kernel_rfl) (by rw [hops]; kernel_rfl) (fun c a w h => HQP.out c a _ _ w h) (Or.inl ⟨by rw [hops]; kernel_rfl, by intro w _; go_simp⟩) hw ?_
    simp only [Act.put, List.setIfInBounds_toArray, List.set_cons_zero, List.set_cons_succ]
    refine wpAnyH_ready (rs := [9]) (by rw [hops]; kernel_rfl) (by simp) ?_
    refine AllReadyH.cons (o := { dst := some 20, op := Go.Op.buildSlice 22 1 #[(0, Go.Operand.tmp 19)], type := 22, pos := "scene.go:51", after := #[{ on := 8, ground := Go.Ground.data }], guard := none }) (by rw [hops]; kernel_rfl) (fun K hK => ?_) ?_
    · rw [if_pos (by rw [hops]; kernel_rfl)]
      go_simp
      have hal : Below w'.heap.size w' (w'.alloc (.cells #[.int .i64 n] 3)) := (Below.refl _ _).alloc (Nat.le_refl _) _
      exact hK.out _ _ (hw.trans (hal.mono hw.size)) (fun hwn => S0_1_2_3_4_5_6_7_8_9.out (w'.alloc (.cells #[.int .i64 n] 3)) w'.heap.size hwn (by go_simp))
    exact AllReadyH.nil
  have S0_1_2_3_4_5_6_8_9 : Kp (∀ (w' : World) (b9 : Nat), Below w2.heap.size w2 w' → w'.cell? ⟨b9, 0, none⟩ = some (.int .i64 n) → wpAnyH Try.prog .any ops Qp (fun w' => Below w2.heap.size w2 w') 3 #[true, true, true, true, true, true, true, false, true, true, false, false] { tmps := #[.agg #[.int .i64 wd, .int .i64 dp, .slice g M c], .int .i64 n, .pointer (some ⟨B, 0, none⟩), undef, .pointer (some ⟨B + 1, 0, none⟩), .int .i64 0, undef, .agg #[.int .i64 wd, .int .i64 dp, .slice g M c], .bool true, .bool false, undef, .pointer (some ⟨B, 2, none⟩), .slice g M c, .int .i64 m, .int .i64 (IntKind.i64.wrap (-m)), .pointer (some ⟨B, 2, none⟩), .slice g M c, .int .i64 x, undef, .int .i64 n, .slice (some ⟨b9, 0, none⟩) 1 1, undef, undef, undef, undef, undef, undef, undef, undef, undef, undef, undef, undef, undef, undef, undef, undef, undef, undef, undef, undef, undef, undef, undef], defers := [] } w') := by
    refine ⟨?_⟩
    intro w' b9 hw f9_0
    refine wpAnyH_take (i := 7) (oi := { dst := some 18, op := Go.Op.binOp Go.BinOp.sub 3 (Go.Operand.const (Go.Value.int Go.IntKind.i64 1000)) (Go.Operand.tmp 17) 3, type := 3, pos := "scene.go:51", after := #[{ on := 6, ground := Go.Ground.data }], guard := none }) (v := .int .i64 (IntKind.i64.wrap (1000 - x))) (by rw [hops]; kernel_rfl) (by rw [hops]; kernel_rfl) (by rw [hops]; kernel_rfl) (by rw [hops]; kernel_rfl) (fun c a w h => HQP.out c a _ _ w h) (Or.inl ⟨by rw [hops]; kernel_rfl, by intro w _; go_simp⟩) hw ?_
    simp only [Act.put, List.setIfInBounds_toArray, List.set_cons_zero, List.set_cons_succ]
    refine wpAnyH_ready (rs := [10]) (by rw [hops]; kernel_rfl) (by simp) ?_
    refine AllReadyH.cons (o := { dst := some 21, op := Go.Op.call { callee := Go.Callee.value (Go.Operand.func 51), args := #[Go.Operand.tmp 14, Go.Operand.tmp 18, Go.Operand.tmp 20], argTypes := #[3, 3, 22] }, type := 4, pos := "scene.go:51", after := #[{ on := 3, ground := Go.Ground.data }, { on := 7, ground := Go.Ground.data }, { on := 9, ground := Go.Ground.data }, { on := 6, ground := Go.Ground.chain }], guard := none }) (by rw [hops]; kernel_rfl) (fun K hK => ?_) ?_
    · rw [if_pos (by rw [hops]; kernel_rfl)]
      go_simp
      refine (HWI.out _ _ (is_one f9_0)).mono ?_
      rintro en w5 ⟨rfl, hb5⟩
      have hb5 : Below w'.heap.size w' w5 := by rw [← hb5]; exact Below.refl _ _
      exact hK.out _ _ (hw.trans (hb5.mono hw.size)) (fun hwn => S0_1_2_3_4_5_6_7_8_9_10.out w5 b9 hwn ((hb5.cell (p := ⟨b9, 0, none⟩) (World.block_lt_of_cell? _ _ f9_0)).trans f9_0))
    exact AllReadyH.nil
  have S0_1_2_3_4_5_8_9 : Kp (∀ (w' : World) (b9 : Nat), Below w2.heap.size w2 w' → w'.cell? ⟨b9, 0, none⟩ = some (.int .i64 n) → wpAnyH Try.prog .any ops Qp (fun w' => Below w2.heap.size w2 w') 4 #[true, true, true, true, true, true, false, false, true, true, false, false] { tmps := #[.agg #[.int .i64 wd, .int .i64 dp, .slice g M c], .int .i64 n, .pointer (some ⟨B, 0, none⟩), undef, .pointer (some ⟨B + 1, 0, none⟩), .int .i64 0, undef, .agg #[.int .i64 wd, .int .i64 dp, .slice g M c], .bool true, .bool false, undef, .pointer (some ⟨B, 2, none⟩), .slice g M c, .int .i64 m, .int .i64 (IntKind.i64.wrap (-m)), .pointer (some ⟨B, 2, none⟩), .slice g M c, undef, undef, .int .i64 n, .slice (some ⟨b9, 0, none⟩) 1 1, undef, undef, undef, undef, undef, undef, undef, undef, undef, undef, undef, undef, undef, undef, undef, undef, undef, undef, undef, undef, undef, undef, undef], defers := [] } w') := by
    refine ⟨?_⟩
    intro w' b9 hw f9_0
    refine wpAnyH_ready (rs := [6]) (by rw [hops]; kernel_rfl) (by simp) ?_
    refine AllReadyH.cons (o := { dst := some 17, op := Go.Op.call { callee := Go.Callee.value (Go.Operand.func 57), args := #[Go.Operand.tmp 16], argTypes := #[22] }, type := 3, pos := "scene.go:51", after := #[{ on := 5, ground := Go.Ground.data }, { on := 2, ground := Go.Ground.chain }], guard := none }) (by rw [hops]; kernel_rfl) (fun K hK => ?_) ?_
    · rw [if_pos (by rw [hops]; kernel_rfl)]
      go_simp
      refine (HMA.out _ (HB1.out.trans (hb2.mono HB1.out.size) |>.trans (hw.mono (HB1.out.trans (hb2.mono HB1.out.size)).size))).mono ?_
      rintro en w5 ⟨rfl, hb5⟩
      have hb5 : Below w'.heap.size w' w5 := by rw [← hb5]; exact Below.refl _ _
      exact hK.out _ _ (hw.trans (hb5.mono hw.size)) (fun hwn => S0_1_2_3_4_5_6_8_9.out w5 b9 hwn ((hb5.cell (p := ⟨b9, 0, none⟩) (World.block_lt_of_cell? _ _ f9_0)).trans f9_0))
    exact AllReadyH.nil
  have S0_1_2_4_5_8 : Kp (∀ (w' : World), Below w2.heap.size w2 w' → wpAnyH Try.prog .any ops Qp (fun w' => Below w2.heap.size w2 w') 6 #[true, true, true, false, true, true, false, false, true, false, false, false] { tmps := #[.agg #[.int .i64 wd, .int .i64 dp, .slice g M c], .int .i64 n, .pointer (some ⟨B, 0, none⟩), undef, .pointer (some ⟨B + 1, 0, none⟩), .int .i64 0, undef, .agg #[.int .i64 wd, .int .i64 dp, .slice g M c], .bool true, .bool false, undef, .pointer (some ⟨B, 2, none⟩), .slice g M c, .int .i64 m, undef, .pointer (some ⟨B, 2, none⟩), .slice g M c, undef, undef, .int .i64 n, undef, undef, undef, undef, undef, undef, undef, undef, undef, undef, undef, undef, undef, undef, undef, undef, undef, undef, undef, undef, undef, undef, undef, undef], defers := [] } w') := by
    refine ⟨?_⟩
    intro w' hw
    refine wpAnyH_take (i := 3) (oi := { dst := some 14, op := Go.Op.unOp Go.UnOp.neg 3 (Go.Operand.tmp 13), type := 3, pos := "scene.go:51", after := #[{ on := 2, ground := Go.Ground.data }], guard := none }) (v := .int .i64 (IntKind.i64.wrap (-m))) (by rw [hops]; kernel_rfl) (by rw [hops]; kernel_rfl) (by rw [hops]; kernel_rfl) (by rw [hops]; kernel_rfl) (fun c a w h => HQP.out c a _ _ w h) (Or.inl ⟨by rw [hops]; kernel_rfl, by intro w _; go_simp⟩) hw ?_
    simp only [Act.put, List.setIfInBounds_toArray, List.set_cons_zero, List.set_cons_succ]
    refine wpAnyH_ready (rs := [6, 9]) (by rw [hops]; kernel_rfl) (by simp) ?_
    refine AllReadyH.cons (o := { dst := some 17, op := Go.Op.call { callee := Go.Callee.value (Go.Operand.func 57), args := #[Go.Operand.tmp 16], argTypes := #[22] }, type := 3, pos := "scene.go:51", after := #[{ on := 5, ground := Go.Ground.data }, { on := 2, ground := Go.Ground.chain }], guard := none }) (by rw [hops]; kernel_rfl) (fun K hK => ?_) ?_
    · rw [if_pos (by rw [hops]; kernel_rfl)]
      go_simp
      refine (HMA.out _ (HB1.out.trans (hb2.mono HB1.out.size) |>.trans (hw.mono (HB1.out.trans (hb2.mono HB1.out.size)).size))).mono ?_
      rintro en w5 ⟨rfl, hb5⟩
      have hb5 : Below w'.heap.size w' w5 := by rw [← hb5]; exact Below.refl _ _
      exact hK.out _ _ (hw.trans (hb5.mono hw.size)) (fun hwn => S0_1_2_3_4_5_6_8.out w5 hwn)
    refine AllReadyH.cons (o := { dst := some 20, op := Go.Op.buildSlice 22 1 #[(0, Go.Operand.tmp 19)], type := 22, pos := "scene.go:51", after := #[{ on := 8, ground := Go.Ground.data }], guard := none }) (by rw [hops]; kernel_rfl) (fun K hK => ?_) ?_
    · rw [if_pos (by rw [hops]; kernel_rfl)]
      go_simp
      have hal : Below w'.heap.size w' (w'.alloc (.cells #[.int .i64 n] 3)) := (Below.refl _ _).alloc (Nat.le_refl _) _
      exact hK.out _ _ (hw.trans (hal.mono hw.size)) (fun hwn => S0_1_2_3_4_5_8_9.out (w'.alloc (.cells #[.int .i64 n] 3)) w'.heap.size hwn (by go_simp))
    exact AllReadyH.nil
  have S0_1_2_4_5_8_9 : Kp (∀ (w' : World) (b9 : Nat), Below w2.heap.size w2 w' → w'.cell? ⟨b9, 0, none⟩ = some (.int .i64 n) → wpAnyH Try.prog .any ops Qp (fun w' => Below w2.heap.size w2 w') 5 #[true, true, true, false, true, true, false, false, true, true, false, false] { tmps := #[.agg #[.int .i64 wd, .int .i64 dp, .slice g M c], .int .i64 n, .pointer (some ⟨B, 0, none⟩), undef, .pointer (some ⟨B + 1, 0, none⟩), .int .i64 0, undef, .agg #[.int .i64 wd, .int .i64 dp, .slice g M c], .bool true, .bool false, undef, .pointer (some ⟨B, 2, none⟩), .slice g M c, .int .i64 m, undef, .pointer (some ⟨B, 2, none⟩), .slice g M c, undef, undef, .int .i64 n, .slice (some ⟨b9, 0, none⟩) 1 1, undef, undef, undef, undef, undef, undef, undef, undef, undef, undef, undef, undef, undef, undef, undef, undef, undef, undef, undef, undef, undef, undef, undef], defers := [] } w') := by
    refine ⟨?_⟩
    intro w' b9 hw f9_0
    refine wpAnyH_take (i := 3) (oi := { dst := some 14, op := Go.Op.unOp Go.UnOp.neg 3 (Go.Operand.tmp 13), type := 3, pos := "scene.go:51", after := #[{ on := 2, ground := Go.Ground.data }], guard := none }) (v := .int .i64 (IntKind.i64.wrap (-m))) (by rw [hops]; kernel_rfl) (by rw [hops]; kernel_rfl) (by rw [hops]; kernel_rfl) (by rw [hops]; kernel_rfl) (fun c a w h => HQP.out c a _ _ w h) (Or.inl ⟨by rw [hops]; kernel_rfl, by intro w _; go_simp⟩) hw ?_
    simp only [Act.put, List.setIfInBounds_toArray, List.set_cons_zero, List.set_cons_succ]
    refine wpAnyH_ready (rs := [6]) (by rw [hops]; kernel_rfl) (by simp) ?_
    refine AllReadyH.cons (o := { dst := some 17, op := Go.Op.call { callee := Go.Callee.value (Go.Operand.func 57), args := #[Go.Operand.tmp 16], argTypes := #[22] }, type := 3, pos := "scene.go:51", after := #[{ on := 5, ground := Go.Ground.data }, { on := 2, ground := Go.Ground.chain }], guard := none }) (by rw [hops]; kernel_rfl) (fun K hK => ?_) ?_
    · rw [if_pos (by rw [hops]; kernel_rfl)]
      go_simp
      refine (HMA.out _ (HB1.out.trans (hb2.mono HB1.out.size) |>.trans (hw.mono (HB1.out.trans (hb2.mono HB1.out.size)).size))).mono ?_
      rintro en w5 ⟨rfl, hb5⟩
      have hb5 : Below w'.heap.size w' w5 := by rw [← hb5]; exact Below.refl _ _
      exact hK.out _ _ (hw.trans (hb5.mono hw.size)) (fun hwn => S0_1_2_3_4_5_6_8_9.out w5 b9 hwn ((hb5.cell (p := ⟨b9, 0, none⟩) (World.block_lt_of_cell? _ _ f9_0)).trans f9_0))
    exact AllReadyH.nil
  have S0_1_4_5_8_9 : Kp (∀ (w' : World) (b9 : Nat), Below w2.heap.size w2 w' → w'.cell? ⟨b9, 0, none⟩ = some (.int .i64 n) → wpAnyH Try.prog .any ops Qp (fun w' => Below w2.heap.size w2 w') 6 #[true, true, false, false, true, true, false, false, true, true, false, false] { tmps := #[.agg #[.int .i64 wd, .int .i64 dp, .slice g M c], .int .i64 n, .pointer (some ⟨B, 0, none⟩), undef, .pointer (some ⟨B + 1, 0, none⟩), .int .i64 0, undef, .agg #[.int .i64 wd, .int .i64 dp, .slice g M c], .bool true, .bool false, undef, .pointer (some ⟨B, 2, none⟩), .slice g M c, undef, undef, .pointer (some ⟨B, 2, none⟩), .slice g M c, undef, undef, .int .i64 n, .slice (some ⟨b9, 0, none⟩) 1 1, undef, undef, undef, undef, undef, undef, undef, undef, undef, undef, undef, undef, undef, undef, undef, undef, undef, undef, undef, undef, undef, undef, undef], defers := [] } w') := by
    refine ⟨?_⟩
    intro w' b9 hw f9_0
    refine wpAnyH_ready (rs := [2]) (by rw [hops]; kernel_rfl) (by simp) ?_
    refine AllReadyH.cons (o := { dst := some 13, op := Go.Op.call { callee := Go.Callee.value (Go.Operand.func 56), args := #[Go.Operand.tmp 12], argTypes := #[22] }, type := 3, pos := "scene.go:51", after := #[{ on := 1, ground := Go.Ground.data }], guard := none }) (by rw [hops]; kernel_rfl) (fun K hK => ?_) ?_
    · rw [if_pos (by rw [hops]; kernel_rfl)]
      go_simp
      refine (HMI.out _ (HB1.out.trans (hb2.mono HB1.out.size) |>.trans (hw.mono (HB1.out.trans (hb2.mono HB1.out.size)).size))).mono ?_
      rintro en w5 ⟨rfl, hb5⟩
      have hb5 : Below w'.heap.size w' w5 := by rw [← hb5]; exact Below.refl _ _
      exact hK.out _ _ (hw.trans (hb5.mono hw.size)) (fun hwn => S0_1_2_4_5_8_9.out w5 b9 hwn ((hb5.cell (p := ⟨b9, 0, none⟩) (World.block_lt_of_cell? _ _ f9_0)).trans f9_0))
    exact AllReadyH.nil
  have S : Kp (∀ (w' : World), Below w2.heap.size w2 w' → wpAnyH Try.prog .any ops Qp (fun w' => Below w2.heap.size w2 w') 12 #[false, false, false, false, false, false, false, false, false, false, false, false] { tmps := #[.agg #[.int .i64 wd, .int .i64 dp, .slice g M c], .int .i64 n, .pointer (some ⟨B, 0, none⟩), undef, .pointer (some ⟨B + 1, 0, none⟩), .int .i64 0, undef, .agg #[.int .i64 wd, .int .i64 dp, .slice g M c], .bool true, .bool false, undef, undef, undef, undef, undef, undef, undef, undef, undef, undef, undef, undef, undef, undef, undef, undef, undef, undef, undef, undef, undef, undef, undef, undef, undef, undef, undef, undef, undef, undef, undef, undef, undef, undef], defers := [] } w') := by
    refine ⟨?_⟩
    intro w' hw
    refine wpAnyH_take (i := 0) (oi := { dst := some 11, op := Go.Op.fieldAddr 24 (Go.Operand.tmp 2) 2, type := 0, pos := "scene.go:51", after := #[], guard := none }) (v := .pointer (some ⟨B, 2, none⟩)) (by rw [hops]; kernel_rfl) (by rw [hops]; kernel_rfl) (by rw [hops]; kernel_rfl) (by rw [hops]; kernel_rfl) (fun c a w h => HQP.out c a _ _ w h) (Or.inl ⟨by rw [hops]; kernel_rfl, by intro w _; go_simp⟩) hw ?_
    simp only [Act.put, List.setIfInBounds_toArray, List.set_cons_zero, List.set_cons_succ]
    refine wpAnyH_take (i := 1) (oi := { dst := some 12, op := Go.Op.load 22 (Go.Operand.tmp 11), type := 22, pos := "scene.go:51", after := #[{ on := 0, ground := Go.Ground.data }], guard := none }) (v := .slice g M c) (by rw [hops]; kernel_rfl) (by rw [hops]; kernel_rfl) (by rw [hops]; kernel_rfl) (by rw [hops]; kernel_rfl) (fun c a w h => HQP.out c a _ _ w h) (Or.inl ⟨by rw [hops]; kernel_rfl, by intro w hwS; obtain ⟨q0, q1, q2, r0, r1, r2, qz, rz⟩ := HALL.out w (hb2.trans (hwS.mono hb2.size)); go_simp⟩) hw ?_
    simp only [Act.put, List.setIfInBounds_toArray, List.set_cons_zero, List.set_cons_succ]
    refine wpAnyH_take (i := 4) (oi := { dst := some 15, op := Go.Op.fieldAddr 24 (Go.Operand.tmp 2) 2, type := 0, pos := "scene.go:51", after := #[], guard := none }) (v := .pointer (some ⟨B, 2, none⟩)) (by rw [hops]; kernel_rfl) (by rw [hops]; kernel_rfl) (by rw [hops]; kernel_rfl) (by rw [hops]; kernel_rfl) (fun c a w h => HQP.out c a _ _ w h) (Or.inl ⟨by rw [hops]; kernel_rfl, by intro w _; go_simp⟩) hw ?_
    simp only [Act.put, List.setIfInBounds_toArray, List.set_cons_zero, List.set_cons_succ]
    refine wpAnyH_take (i := 5) (oi := { dst := some 16, op := Go.Op.load 22 (Go.Operand.tmp 15), type := 22, pos := "scene.go:51", after := #[{ on := 4, ground := Go.Ground.data }], guard := none }) (v := .slice g M c) (by rw [hops]; kernel_rfl) (by rw [hops]; kernel_rfl) (by rw [hops]; kernel_rfl) (by rw [hops]; kernel_rfl) (fun c a w h => HQP.out c a _ _ w h) (Or.inl ⟨by rw [hops]; kernel_rfl, by intro w hwS; obtain ⟨q0, q1, q2, r0, r1, r2, qz, rz⟩ := HALL.out w (hb2.trans (hwS.mono hb2.size)); go_simp⟩) hw ?_
    simp only [Act.put, List.setIfInBounds_toArray, List.set_cons_zero, List.set_cons_succ]
    refine wpAnyH_take (i := 8) (oi := { dst := some 19, op := Go.Op.move (Go.Operand.tmp 1), type := 3, pos := "scene.go:51", after := #[], guard := none }) (v := .int .i64 n) (by rw [hops]; kernel_rfl) (by rw [hops]; kernel_rfl) (by rw [hops]; kernel_rfl) (by rw [hops]; kernel_rfl) (fun c a w h => HQP.out c a _ _ w h) (Or.inl ⟨by rw [hops]; kernel_rfl, by intro w _; go_simp⟩) hw ?_
    simp only [Act.put, List.setIfInBounds_toArray, List.set_cons_zero, List.set_cons_succ]
    refine wpAnyH_ready (rs := [2, 9]) (by rw [hops]; kernel_rfl) (by simp) ?_
    refine AllReadyH.cons (o := { dst := some 13, op := Go.Op.call { callee := Go.Callee.value (Go.Operand.func 56), args := #[Go.Operand.tmp 12], argTypes := #[22] }, type := 3, pos := "scene.go:51", after := #[{ on := 1, ground := Go.Ground.data }], guard := none }) (by rw [hops]; kernel_rfl) (fun K hK => ?_) ?_
    · rw [if_pos (by rw [hops]; kernel_rfl)]
      go_simp
      refine (HMI.out _ (HB1.out.trans (hb2.mono HB1.out.size) |>.trans (hw.mono (HB1.out.trans (hb2.mono HB1.out.size)).size))).mono ?_
      rintro en w5 ⟨rfl, hb5⟩
      have hb5 : Below w'.heap.size w' w5 := by rw [← hb5]; exact Below.refl _ _
      exact hK.out _ _ (hw.trans (hb5.mono hw.size)) (fun hwn => S0_1_2_4_5_8.out w5 hwn)
    refine AllReadyH.cons (o := { dst := some 20, op := Go.Op.buildSlice 22 1 #[(0, Go.Operand.tmp 19)], type := 22, pos := "scene.go:51", after := #[{ on := 8, ground := Go.Ground.data }], guard := none }) (by rw [hops]; kernel_rfl) (fun K hK => ?_) ?_
    · rw [if_pos (by rw [hops]; kernel_rfl)]
      go_simp
      have hal : Below w'.heap.size w' (w'.alloc (.cells #[.int .i64 n] 3)) := (Below.refl _ _).alloc (Nat.le_refl _) _
      exact hK.out _ _ (hw.trans (hal.mono hw.size)) (fun hwn => S0_1_4_5_8_9.out (w'.alloc (.cells #[.int .i64 n] 3)) w'.heap.size hwn (by go_simp))
    exact AllReadyH.nil
  have hsz : ops.size = 12 := by rw [hops]; rfl
  refine wp_region_held_drew (S := fun w' => Below w2.heap.size w2 w') (by kernel_rfl) (Below.drew (Below.refl _ _)) (fun hw0 => ?_)
  rw [hsz]
  exact S.out _ hw0
end Go.Proofs.Ytjnggchljilooaa.Sc
