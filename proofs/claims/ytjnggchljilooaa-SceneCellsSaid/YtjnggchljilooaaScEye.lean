/-
  WALKS (layer 7, scene): the program's ValidEye.
-/
import Derived.Test.YtjnggchljilooaaScSeen
namespace Go.Proofs.Ytjnggchljilooaa.Sc
open Go Go.RowKit Go.Sort

set_option maxRecDepth 100000 in
set_option maxHeartbeats 4000000 in
theorem ValidEye_in (wd dp ex eb eh : Int) (g : Option Addr) (M c : Nat) (Q : Bool) (w : World)
    (HV : Kp (∀ W, Below w.heap.size w W → Calls Try.prog 16 #[.agg #[.int .i64 wd, .int .i64 dp, .slice g M c]] W fun e w' => e = .returned (.bool true) ∧ Below W.heap.size W w'))
    (HEY : Kp (∀ W B, W.cell? ⟨B, 0, none⟩ = some (.int .i64 wd) → Calls Try.prog 76 (#[.agg #[.int .i64 ex, .int .i64 eb, .int .i64 eh]] ++ #[.pointer (some ⟨B, 0, none⟩)]) W fun e w' => e = .returned (.bool Q) ∧ Below W.heap.size W w')) :
    Calls Try.prog 18 #[.agg #[.int .i64 wd, .int .i64 dp, .slice g M c], .agg #[.int .i64 ex, .int .i64 eb, .int .i64 eh]] w fun e w' => e = .returned (.bool Q) ∧ Below w.heap.size w w' := by
  have HEO := Kp.mk (fun W => eyeOf_any wd dp (.slice g M c) W)
  go_enter Try.func18, Try.ntmps18
  go_wp2
  try simp only [Nat.add_assoc, Nat.reduceAdd]
  obtain ⟨W1, hW1⟩ : ∃ W, (w.alloc (.cells #[.int .i64 wd, .int .i64 dp, .slice g M c] 24)).alloc (.cells #[.int .i64 ex, .int .i64 eb, .int .i64 eh] 26) = W := ⟨_, rfl⟩
  obtain ⟨hb1, hall⟩ := boxes_start hW1
  rw [hW1]
  obtain ⟨B, hB⟩ : ∃ B, w.heap.size = B := ⟨_, rfl⟩
  rw [hB] at hall
  have HB1 := Kp.mk hb1
  have HALL := Kp.mk hall
  try simp only [hB]
  clear hW1 hb1 hall hB
  refine wp_region_noPanic ?_
  refine region_nm ?_
  intro ops Qp hops hQp
  have HQP : Kp (∀ c a d v w, Qp (.panic c) (Act.put a d v) w → Qp (.panic c) a w) := ⟨by subst hQp; intro c a d v w h; exact h⟩
  have HFIN : Kp (∀ (w' : World) (b4 : Nat), Below W1.heap.size W1 w' → Qp .normal { tmps := #[.agg #[.int .i64 wd, .int .i64 dp, .slice g M c], .agg #[.int .i64 ex, .int .i64 eb, .int .i64 eh], .pointer (some ⟨B, 0, none⟩), .pointer (some ⟨B + 1, 0, none⟩), .bool Q, .agg #[.int .i64 wd, .int .i64 dp, .slice g M c], .bool true, .bool true, .agg #[.int .i64 wd, .int .i64 dp, .slice g M c], .func (.func 76) #[] #[.pointer (some ⟨b4, 0, none⟩)], .agg #[.int .i64 ex, .int .i64 eb, .int .i64 eh], .bool Q, .bool Q], defers := [] } w') := by
    refine ⟨?_⟩
    intro w' b4 hw
    have HBW := Kp.mk (HB1.out.trans (hw.mono HB1.out.size))
    clear HQP hops hw
    subst hQp
    refine NoPanic.normal ?_
    go_wp2
    go_ret
    exact ⟨rfl, HBW.out⟩
  have S0_1_2_3_4_5_6 : Kp (∀ (w' : World) (b4 : Nat), Below W1.heap.size W1 w' → w'.cell? ⟨b4, 0, none⟩ = some (.int .i64 wd) → w'.cell? ⟨b4, 1, none⟩ = some (.int .i64 dp) → w'.cell? ⟨b4, 2, none⟩ = some (.slice g M c) → wpAnyH Try.prog .any ops Qp (fun w' => Below W1.heap.size W1 w') 2 #[true, true, true, true, true, true, true, false, false] { tmps := #[.agg #[.int .i64 wd, .int .i64 dp, .slice g M c], .agg #[.int .i64 ex, .int .i64 eb, .int .i64 eh], .pointer (some ⟨B, 0, none⟩), .pointer (some ⟨B + 1, 0, none⟩), .bool false, .agg #[.int .i64 wd, .int .i64 dp, .slice g M c], .bool true, .bool true, .agg #[.int .i64 wd, .int .i64 dp, .slice g M c], .func (.func 76) #[] #[.pointer (some ⟨b4, 0, none⟩)], .agg #[.int .i64 ex, .int .i64 eb, .int .i64 eh], .bool Q, undef], defers := [] } w') := by
    refine ⟨?_⟩
    intro w' b4 hw f4_0 f4_1 f4_2
    refine wpAnyH_take (i := 7) (oi := { dst := some 12, op := Go.Op.pick (Go.Operand.tmp 7) (Go.Operand.tmp 11) (Go.Operand.const (Go.Value.bool false)), type := 4, pos := "scene.go:23", after := #[{ on := 2, ground := Go.Ground.data }, { on := 6, ground := Go.Ground.data }], guard := none }) (v := .bool Q) (by rw [hops]; kernel_rfl) (by rw [hops]; kernel_rfl) (by rw [hops]; kernel_rfl) (by rw [hops]; kernel_rfl) (fun c a w h => HQP.out c a _ _ w h) (Or.inl ⟨by rw [hops]; kernel_rfl, by intro w _; go_simp⟩) hw ?_
    simp only [Act.put, List.setIfInBounds_toArray, List.set_cons_zero, List.set_cons_succ]
    refine wpAnyH_take (i := 8) (oi := { dst := some 4, op := Go.Op.assign (Go.Operand.tmp 12), type := 4, pos := "scene.go:23", after := #[{ on := 7, ground := Go.Ground.data }, { on := 6, ground := Go.Ground.chain }, { on := 0, ground := Go.Ground.phase }, { on := 1, ground := Go.Ground.phase }, { on := 2, ground := Go.Ground.phase }, { on := 3, ground := Go.Ground.phase }, { on := 4, ground := Go.Ground.phase }, { on := 5, ground := Go.Ground.phase }, { on := 6, ground := Go.Ground.phase }, { on := 7, ground := Go.Ground.phase }], guard := none }) (v := .bool Q) (by rw [hops]; kernel_rfl) (by rw [hops]; kernel_rfl) (by rw [hops]; kernel_rfl) (by rw [hops]; kernel_rfl) (fun c a w h => HQP.out c a _ _ w h) (Or.inl ⟨by rw [hops]; kernel_rfl, by intro w _; go_simp⟩) hw ?_
    simp only [Act.put, List.setIfInBounds_toArray, List.set_cons_zero, List.set_cons_succ]
    refine wpAnyH_done (by rw [hops]; kernel_rfl) ?_ _
    exact HFIN.out w' b4 hw
  have S0_1_2_3_4_5 : Kp (∀ (w' : World) (b4 : Nat), Below W1.heap.size W1 w' → w'.cell? ⟨b4, 0, none⟩ = some (.int .i64 wd) → w'.cell? ⟨b4, 1, none⟩ = some (.int .i64 dp) → w'.cell? ⟨b4, 2, none⟩ = some (.slice g M c) → wpAnyH Try.prog .any ops Qp (fun w' => Below W1.heap.size W1 w') 3 #[true, true, true, true, true, true, false, false, false] { tmps := #[.agg #[.int .i64 wd, .int .i64 dp, .slice g M c], .agg #[.int .i64 ex, .int .i64 eb, .int .i64 eh], .pointer (some ⟨B, 0, none⟩), .pointer (some ⟨B + 1, 0, none⟩), .bool false, .agg #[.int .i64 wd, .int .i64 dp, .slice g M c], .bool true, .bool true, .agg #[.int .i64 wd, .int .i64 dp, .slice g M c], .func (.func 76) #[] #[.pointer (some ⟨b4, 0, none⟩)], .agg #[.int .i64 ex, .int .i64 eb, .int .i64 eh], undef, undef], defers := [] } w') := by
    refine ⟨?_⟩
    intro w' b4 hw f4_0 f4_1 f4_2
    refine wpAnyH_ready (rs := [6]) (by rw [hops]; kernel_rfl) (by simp) ?_
    refine AllReadyH.cons (o := { dst := some 11, op := Go.Op.call { callee := Go.Callee.value (Go.Operand.tmp 9), args := #[Go.Operand.tmp 10], argTypes := #[26] }, type := 4, pos := "scene.go:23", after := #[{ on := 4, ground := Go.Ground.data }, { on := 5, ground := Go.Ground.data }, { on := 4, ground := Go.Ground.chain }, { on := 2, ground := Go.Ground.guard }], guard := some (2, true) }) (by rw [hops]; kernel_rfl) (fun K hK => ?_) ?_
    · rw [if_pos (by rw [hops]; kernel_rfl)]
      go_simp
      refine (HEY.out _ _ f4_0).mono ?_
      rintro en w5 ⟨rfl, hb5⟩
      exact hK.out _ _ (hw.trans (hb5.mono hw.size)) (fun hwn => S0_1_2_3_4_5_6.out w5 b4 hwn ((hb5.cell (p := ⟨b4, 0, none⟩) (World.block_lt_of_cell? _ _ f4_0)).trans f4_0) ((hb5.cell (p := ⟨b4, 1, none⟩) (World.block_lt_of_cell? _ _ f4_1)).trans f4_1) ((hb5.cell (p := ⟨b4, 2, none⟩) (World.block_lt_of_cell? _ _ f4_2)).trans f4_2))
    exact AllReadyH.nil
  have S0_1 : Kp (∀ (w' : World), Below W1.heap.size W1 w' → wpAnyH Try.prog .any ops Qp (fun w' => Below W1.heap.size W1 w') 7 #[true, true, false, false, false, false, false, false, false] { tmps := #[.agg #[.int .i64 wd, .int .i64 dp, .slice g M c], .agg #[.int .i64 ex, .int .i64 eb, .int .i64 eh], .pointer (some ⟨B, 0, none⟩), .pointer (some ⟨B + 1, 0, none⟩), .bool false, .agg #[.int .i64 wd, .int .i64 dp, .slice g M c], .bool true, undef, undef, undef, undef, undef, undef], defers := [] } w') := by
    refine ⟨?_⟩
    intro w' hw
    refine wpAnyH_take (i := 2) (oi := { dst := some 7, op := Go.Op.move (Go.Operand.tmp 6), type := 4, pos := "scene.go:23", after := #[{ on := 1, ground := Go.Ground.data }, { on := 1, ground := Go.Ground.chain }], guard := none }) (v := .bool true) (by rw [hops]; kernel_rfl) (by rw [hops]; kernel_rfl) (by rw [hops]; kernel_rfl) (by rw [hops]; kernel_rfl) (fun c a w h => HQP.out c a _ _ w h) (Or.inl ⟨by rw [hops]; kernel_rfl, by intro w _; go_simp⟩) hw ?_
    simp only [Act.put, List.setIfInBounds_toArray, List.set_cons_zero, List.set_cons_succ]
    refine wpAnyH_take (i := 3) (oi := { dst := some 8, op := Go.Op.load 24 (Go.Operand.tmp 2), type := 24, pos := "scene.go:23", after := #[{ on := 2, ground := Go.Ground.guard }], guard := some (2, true) }) (v := .agg #[.int .i64 wd, .int .i64 dp, .slice g M c]) (by rw [hops]; kernel_rfl) (by rw [hops]; kernel_rfl) (by rw [hops]; kernel_rfl) (by rw [hops]; kernel_rfl) (fun c a w h => HQP.out c a _ _ w h) (Or.inl ⟨by rw [hops]; kernel_rfl, by intro w hwS; obtain ⟨q0, q1, q2, q3, q4, q5⟩ := HALL.out w hwS; go_simp⟩) hw ?_
    simp only [Act.put, List.setIfInBounds_toArray, List.set_cons_zero, List.set_cons_succ]
    refine wpAnyH_take (i := 5) (oi := { dst := some 10, op := Go.Op.load 26 (Go.Operand.tmp 3), type := 26, pos := "scene.go:23", after := #[{ on := 2, ground := Go.Ground.guard }], guard := some (2, true) }) (v := .agg #[.int .i64 ex, .int .i64 eb, .int .i64 eh]) (by rw [hops]; kernel_rfl) (by rw [hops]; kernel_rfl) (by rw [hops]; kernel_rfl) (by rw [hops]; kernel_rfl) (fun c a w h => HQP.out c a _ _ w h) (Or.inl ⟨by rw [hops]; kernel_rfl, by intro w hwS; obtain ⟨q0, q1, q2, q3, q4, q5⟩ := HALL.out w hwS; go_simp⟩) hw ?_
    simp only [Act.put, List.setIfInBounds_toArray, List.set_cons_zero, List.set_cons_succ]
    refine wpAnyH_ready (rs := [4]) (by rw [hops]; kernel_rfl) (by simp) ?_
    refine AllReadyH.cons (o := { dst := some 9, op := Go.Op.call { callee := Go.Callee.value (Go.Operand.func 55), args := #[Go.Operand.tmp 8], argTypes := #[24] }, type := 71, pos := "scene.go:23", after := #[{ on := 3, ground := Go.Ground.data }, { on := 2, ground := Go.Ground.chain }, { on := 2, ground := Go.Ground.guard }], guard := some (2, true) }) (by rw [hops]; kernel_rfl) (fun K hK => ?_) ?_
    · rw [if_pos (by rw [hops]; kernel_rfl)]
      go_simp
      refine (HEO.out _).mono ?_
      rintro en w5 ⟨rfl, rfl⟩
      have hal : Below w'.heap.size w' (w'.alloc (.cells #[.int .i64 wd, .int .i64 dp, .slice g M c] 24)) := (Below.refl _ _).alloc (Nat.le_refl _) _
      exact hK.out _ _ (hw.trans (hal.mono hw.size)) (fun hwn => S0_1_2_3_4_5.out (w'.alloc (.cells #[.int .i64 wd, .int .i64 dp, .slice g M c] 24)) w'.heap.size hwn (by go_simp) (by go_simp) (by go_simp))
    exact AllReadyH.nil
  have S : Kp (∀ (w' : World), Below W1.heap.size W1 w' → wpAnyH Try.prog .any ops Qp (fun w' => Below W1.heap.size W1 w') 9 #[false, false, false, false, false, false, false, false, false] { tmps := #[.agg #[.int .i64 wd, .int .i64 dp, .slice g M c], .agg #[.int .i64 ex, .int .i64 eb, .int .i64 eh], .pointer (some ⟨B, 0, none⟩), .pointer (some ⟨B + 1, 0, none⟩), .bool false, undef, undef, undef, undef, undef, undef, undef, undef], defers := [] } w') := by
    refine ⟨?_⟩
    intro w' hw
    refine wpAnyH_take (i := 0) (oi := { dst := some 5, op := Go.Op.load 24 (Go.Operand.tmp 2), type := 24, pos := "scene.go:23", after := #[], guard := none }) (v := .agg #[.int .i64 wd, .int .i64 dp, .slice g M c]) (by rw [hops]; kernel_rfl) (by rw [hops]; kernel_rfl) (by rw [hops]; kernel_rfl) (by rw [hops]; kernel_rfl) (fun c a w h => HQP.out c a _ _ w h) (Or.inl ⟨by rw [hops]; kernel_rfl, by intro w hwS; obtain ⟨q0, q1, q2, q3, q4, q5⟩ := HALL.out w hwS; go_simp⟩) hw ?_
    simp only [Act.put, List.setIfInBounds_toArray, List.set_cons_zero, List.set_cons_succ]
    refine wpAnyH_ready (rs := [1]) (by rw [hops]; kernel_rfl) (by simp) ?_
    refine AllReadyH.cons (o := { dst := some 6, op := Go.Op.call { callee := Go.Callee.value (Go.Operand.func 16), args := #[Go.Operand.tmp 5], argTypes := #[24] }, type := 4, pos := "scene.go:23", after := #[{ on := 0, ground := Go.Ground.data }], guard := none }) (by rw [hops]; kernel_rfl) (fun K hK => ?_) ?_
    · rw [if_pos (by rw [hops]; kernel_rfl)]
      go_simp
      refine (HV.out _ (HB1.out.trans (hw.mono HB1.out.size))).mono ?_
      rintro en w5 ⟨rfl, hb5⟩
      exact hK.out _ _ (hw.trans (hb5.mono hw.size)) (fun hwn => S0_1.out w5 hwn)
    exact AllReadyH.nil
  have hsz : ops.size = 9 := by rw [hops]; rfl
  refine wp_region_held_drew (S := fun w' => Below W1.heap.size W1 w') (by kernel_rfl) (Below.drew (Below.refl _ _)) (fun hw0 => ?_)
  rw [hsz]
  exact S.out _ hw0
set_option maxRecDepth 100000 in
set_option maxHeartbeats 4000000 in
theorem ValidEye_no (wd dp ex eb eh : Int) (g : Option Addr) (M c : Nat) (Q : Bool) (w : World)
    (HV : Kp (∀ W, Below w.heap.size w W → Calls Try.prog 16 #[.agg #[.int .i64 wd, .int .i64 dp, .slice g M c]] W fun e w' => e = .returned (.bool false) ∧ Below W.heap.size W w')) :
    Calls Try.prog 18 #[.agg #[.int .i64 wd, .int .i64 dp, .slice g M c], .agg #[.int .i64 ex, .int .i64 eb, .int .i64 eh]] w fun e w' => e = .returned (.bool false) ∧ Below w.heap.size w w' := by
  have HEO := Kp.mk (fun W => eyeOf_any wd dp (.slice g M c) W)
  go_enter Try.func18, Try.ntmps18
  go_wp2
  try simp only [Nat.add_assoc, Nat.reduceAdd]
  obtain ⟨W1, hW1⟩ : ∃ W, (w.alloc (.cells #[.int .i64 wd, .int .i64 dp, .slice g M c] 24)).alloc (.cells #[.int .i64 ex, .int .i64 eb, .int .i64 eh] 26) = W := ⟨_, rfl⟩
  obtain ⟨hb1, hall⟩ := boxes_start hW1
  rw [hW1]
  obtain ⟨B, hB⟩ : ∃ B, w.heap.size = B := ⟨_, rfl⟩
  rw [hB] at hall
  have HB1 := Kp.mk hb1
  have HALL := Kp.mk hall
  try simp only [hB]
  clear hW1 hb1 hall hB
  refine wp_region_noPanic ?_
  refine region_nm ?_
  intro ops Qp hops hQp
  have HQP : Kp (∀ c a d v w, Qp (.panic c) (Act.put a d v) w → Qp (.panic c) a w) := ⟨by subst hQp; intro c a d v w h; exact h⟩
  have HFIN : Kp (∀ (w' : World), Below W1.heap.size W1 w' → Qp .normal { tmps := #[.agg #[.int .i64 wd, .int .i64 dp, .slice g M c], .agg #[.int .i64 ex, .int .i64 eb, .int .i64 eh], .pointer (some ⟨B, 0, none⟩), .pointer (some ⟨B + 1, 0, none⟩), .bool false, .agg #[.int .i64 wd, .int .i64 dp, .slice g M c], .bool false, .bool false, undef, undef, undef, undef, .bool false], defers := [] } w') := by
    refine ⟨?_⟩
    intro w' hw
    have HBW := Kp.mk (HB1.out.trans (hw.mono HB1.out.size))
    clear HQP hops hw
    subst hQp
    refine NoPanic.normal ?_
    go_wp2
    go_ret
    exact ⟨rfl, HBW.out⟩
  have S0_1 : Kp (∀ (w' : World), Below W1.heap.size W1 w' → wpAnyH Try.prog .any ops Qp (fun w' => Below W1.heap.size W1 w') 7 #[true, true, false, false, false, false, false, false, false] { tmps := #[.agg #[.int .i64 wd, .int .i64 dp, .slice g M c], .agg #[.int .i64 ex, .int .i64 eb, .int .i64 eh], .pointer (some ⟨B, 0, none⟩), .pointer (some ⟨B + 1, 0, none⟩), .bool false, .agg #[.int .i64 wd, .int .i64 dp, .slice g M c], .bool false, undef, undef, undef, undef, undef, undef], defers := [] } w') := by
    refine ⟨?_⟩
    intro w' hw
    refine wpAnyH_take (i := 2) (oi := { dst := some 7, op := Go.Op.move (Go.Operand.tmp 6), type := 4, pos := "scene.go:23", after := #[{ on := 1, ground := Go.Ground.data }, { on := 1, ground := Go.Ground.chain }], guard := none }) (v := .bool false) (by rw [hops]; kernel_rfl) (by rw [hops]; kernel_rfl) (by rw [hops]; kernel_rfl) (by rw [hops]; kernel_rfl) (fun c a w h => HQP.out c a _ _ w h) (Or.inl ⟨by rw [hops]; kernel_rfl, by intro w _; go_simp⟩) hw ?_
    simp only [Act.put, List.setIfInBounds_toArray, List.set_cons_zero, List.set_cons_succ]
    refine wpAnyH_take (i := 3) (oi := { dst := some 8, op := Go.Op.load 24 (Go.Operand.tmp 2), type := 24, pos := "scene.go:23", after := #[{ on := 2, ground := Go.Ground.guard }], guard := some (2, true) }) (v := undef) (by rw [hops]; kernel_rfl) (by rw [hops]; kernel_rfl) (by rw [hops]; kernel_rfl) (by rw [hops]; kernel_rfl) (fun c a w h => HQP.out c a _ _ w h) (Or.inr ⟨by rw [hops]; kernel_rfl, rfl⟩) hw ?_
    simp only [Act.put, List.setIfInBounds_toArray, List.set_cons_zero, List.set_cons_succ]
    refine wpAnyH_take (i := 4) (oi := { dst := some 9, op := Go.Op.call { callee := Go.Callee.value (Go.Operand.func 55), args := #[Go.Operand.tmp 8], argTypes := #[24] }, type := 71, pos := "scene.go:23", after := #[{ on := 3, ground := Go.Ground.data }, { on := 2, ground := Go.Ground.chain }, { on := 2, ground := Go.Ground.guard }], guard := some (2, true) }) (v := undef) (by rw [hops]; kernel_rfl) (by rw [hops]; kernel_rfl) (by rw [hops]; kernel_rfl) (by rw [hops]; kernel_rfl) (fun c a w h => HQP.out c a _ _ w h) (Or.inr ⟨by rw [hops]; kernel_rfl, rfl⟩) hw ?_
    simp only [Act.put, List.setIfInBounds_toArray, List.set_cons_zero, List.set_cons_succ]
    refine wpAnyH_take (i := 5) (oi := { dst := some 10, op := Go.Op.load 26 (Go.Operand.tmp 3), type := 26, pos := "scene.go:23", after := #[{ on := 2, ground := Go.Ground.guard }], guard := some (2, true) }) (v := undef) (by rw [hops]; kernel_rfl) (by rw [hops]; kernel_rfl) (by rw [hops]; kernel_rfl) (by rw [hops]; kernel_rfl) (fun c a w h => HQP.out c a _ _ w h) (Or.inr ⟨by rw [hops]; kernel_rfl, rfl⟩) hw ?_
    simp only [Act.put, List.setIfInBounds_toArray, List.set_cons_zero, List.set_cons_succ]
    refine wpAnyH_take (i := 6) (oi := { dst := some 11, op := Go.Op.call { callee := Go.Callee.value (Go.Operand.tmp 9), args := #[Go.Operand.tmp 10], argTypes := #[26] }, type := 4, pos := "scene.go:23", after := #[{ on := 4, ground := Go.Ground.data }, { on := 5, ground := Go.Ground.data }, { on := 4, ground := Go.Ground.chain }, { on := 2, ground := Go.Ground.guard }], guard := some (2, true) }) (v := undef) (by rw [hops]; kernel_rfl) (by rw [hops]; kernel_rfl) (by rw [hops]; kernel_rfl) (by rw [hops]; kernel_rfl) (fun c a w h => HQP.out c a _ _ w h) (Or.inr ⟨by rw [hops]; kernel_rfl, rfl⟩) hw ?_
    simp only [Act.put, List.setIfInBounds_toArray, List.set_cons_zero, List.set_cons_succ]
    refine wpAnyH_take (i := 7) (oi := { dst := some 12, op := Go.Op.pick (Go.Operand.tmp 7) (Go.Operand.tmp 11) (Go.Operand.const (Go.Value.bool false)), type := 4, pos := "scene.go:23", after := #[{ on := 2, ground := Go.Ground.data }, { on := 6, ground := Go.Ground.data }], guard := none }) (v := .bool false) (by rw [hops]; kernel_rfl) (by rw [hops]; kernel_rfl) (by rw [hops]; kernel_rfl) (by rw [hops]; kernel_rfl) (fun c a w h => HQP.out c a _ _ w h) (Or.inl ⟨by rw [hops]; kernel_rfl, by intro w _; go_simp⟩) hw ?_
    simp only [Act.put, List.setIfInBounds_toArray, List.set_cons_zero, List.set_cons_succ]
    refine wpAnyH_take (i := 8) (oi := { dst := some 4, op := Go.Op.assign (Go.Operand.tmp 12), type := 4, pos := "scene.go:23", after := #[{ on := 7, ground := Go.Ground.data }, { on := 6, ground := Go.Ground.chain }, { on := 0, ground := Go.Ground.phase }, { on := 1, ground := Go.Ground.phase }, { on := 2, ground := Go.Ground.phase }, { on := 3, ground := Go.Ground.phase }, { on := 4, ground := Go.Ground.phase }, { on := 5, ground := Go.Ground.phase }, { on := 6, ground := Go.Ground.phase }, { on := 7, ground := Go.Ground.phase }], guard := none }) (v := .bool false) (by rw [hops]; kernel_rfl) (by rw [hops]; kernel_rfl) (by rw [hops]; kernel_rfl) (by rw [hops]; kernel_rfl) (fun c a w h => HQP.out c a _ _ w h) (Or.inl ⟨by rw [hops]; kernel_rfl, by intro w _; go_simp⟩) hw ?_
    simp only [Act.put, List.setIfInBounds_toArray, List.set_cons_zero, List.set_cons_succ]
    refine wpAnyH_done (by rw [hops]; kernel_rfl) ?_ _
    exact HFIN.out w' hw
  have S : Kp (∀ (w' : World), Below W1.heap.size W1 w' → wpAnyH Try.prog .any ops Qp (fun w' => Below W1.heap.size W1 w') 9 #[false, false, false, false, false, false, false, false, false] { tmps := #[.agg #[.int .i64 wd, .int .i64 dp, .slice g M c], .agg #[.int .i64 ex, .int .i64 eb, .int .i64 eh], .pointer (some ⟨B, 0, none⟩), .pointer (some ⟨B + 1, 0, none⟩), .bool false, undef, undef, undef, undef, undef, undef, undef, undef], defers := [] } w') := by
    refine ⟨?_⟩
    intro w' hw
    refine wpAnyH_take (i := 0) (oi := { dst := some 5, op := Go.Op.load 24 (Go.Operand.tmp 2), type := 24, pos := "scene.go:23", after := #[], guard := none }) (v := .agg #[.int .i64 wd, .int .i64 dp, .slice g M c]) (by rw [hops]; kernel_rfl) (by rw [hops]; kernel_rfl) (by rw [hops]; kernel_rfl) (by rw [hops]; kernel_rfl) (fun c a w h => HQP.out c a _ _ w h) (Or.inl ⟨by rw [hops]; kernel_rfl, by intro w hwS; obtain ⟨q0, q1, q2, q3, q4, q5⟩ := HALL.out w hwS; go_simp⟩) hw ?_
    simp only [Act.put, List.setIfInBounds_toArray, List.set_cons_zero, List.set_cons_succ]
    refine wpAnyH_ready (rs := [1]) (by rw [hops]; kernel_rfl) (by simp) ?_
    refine AllReadyH.cons (o := { dst := some 6, op := Go.Op.call { callee := Go.Callee.value (Go.Operand.func 16), args := #[Go.Operand.tmp 5], argTypes := #[24] }, type := 4, pos := "scene.go:23", after := #[{ on := 0, ground := Go.Ground.data }], guard := none }) (by rw [hops]; kernel_rfl) (fun K hK => ?_) ?_
    · rw [if_pos (by rw [hops]; kernel_rfl)]
      go_simp
      refine (HV.out _ (HB1.out.trans (hw.mono HB1.out.size))).mono ?_
      rintro en w5 ⟨rfl, hb5⟩
      exact hK.out _ _ (hw.trans (hb5.mono hw.size)) (fun hwn => S0_1.out w5 hwn)
    exact AllReadyH.nil
  have hsz : ops.size = 9 := by rw [hops]; rfl
  refine wp_region_held_drew (S := fun w' => Below W1.heap.size W1 w') (by kernel_rfl) (Below.drew (Below.refl _ _)) (fun hw0 => ?_)
  rw [hsz]
  exact S.out _ hw0
theorem ValidEye_any (wd dp : Int) (v : Value) (L : List Int) (e : Ey) (w : World) (hv : IS w v L) (hl : L.length ≤ 9223372036854775807) :
    Calls Try.prog 18 #[.agg #[.int .i64 wd, .int .i64 dp, v], .agg #[.int .i64 e.x, .int .i64 e.b, .int .i64 e.h]] w fun en w' => en = .returned (.bool (gdB wd dp L && eyB wd e)) ∧ Below w.heap.size w w' := by
  have HV : Kp (∀ W, Below w.heap.size w W → Calls Try.prog 16 #[.agg #[.int .i64 wd, .int .i64 dp, v]] W fun e w' => e = .returned (.bool (gdB wd dp L)) ∧ Below W.heap.size W w') := ⟨fun W hW => Valid_any wd dp v L W (hv.below hW) hl⟩
  obtain ⟨g, c, rfl⟩ := hv.shape
  obtain ⟨ex, eb, eh⟩ := e
  cases hg : gdB wd dp L with
  | true =>
    rw [hg] at HV
    obtain ⟨⟨a1, a2⟩, -⟩ := gdB_iff hg
    exact ValidEye_in wd dp ex eb eh g L.length c (eyB wd ⟨ex, eb, eh⟩) w HV ⟨fun W B hB => eye1_any B wd ⟨ex, eb, eh⟩ W hB a1 a2⟩
  | false =>
    rw [hg] at HV
    exact ValidEye_no wd dp ex eb eh g L.length c false w HV
end Go.Proofs.Ytjnggchljilooaa.Sc
