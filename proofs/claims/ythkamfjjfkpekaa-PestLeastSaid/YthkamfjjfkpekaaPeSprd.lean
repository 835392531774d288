/-
  WALKS (layer 8, pest): Spread of the program.
-/
import Derived.Test.YthkamfjjfkpekaaPeComes
namespace Go.Proofs.Ythkamfjjfkpekaa.Pe
open Go Go.RowKit Go.Proofs Go.Sort

set_option maxRecDepth 100000 in
set_option maxHeartbeats 4000000 in
theorem Spread_asc (R x y day : Int) (g : Option Addr) (M c : Nat) (gu : Option Addr) (nu cu : Nat) (P D : Bool) (ER T : Int) (ol : List Dr) (w : World)
    (HAD : Kp (∀ W, Below w.heap.size w W → Calls Try.prog 49 #[.agg #[.int .i64 R, .slice g M c, .int .i64 x, .int .i64 y], .slice gu nu cu] W fun e w' => e = .returned (.bool P) ∧ Below W.heap.size W w'))
    (HAS : Kp (∀ W, Below w.heap.size w W → Calls Try.prog 50 #[.slice gu nu cu] W fun e w' => e = .returned (.bool true) ∧ Below W.heap.size W w'))
    (HWI : Kp (∀ W u, IS W u [day] → Calls Try.prog 51 #[.int .i64 0, .int .i64 100, u] W fun e w' => e = .returned (.bool D) ∧ Below W.heap.size W w'))
    (HCK : Kp (∀ W, Below w.heap.size w W → Calls Try.prog 48 #[.agg #[.int .i64 R, .slice g M c, .int .i64 x, .int .i64 y], .bool P, .bool D] W fun e w' => e = .returned (.int .i64 ER) ∧ Below W.heap.size W w'))
    (HOP : Kp (ER = 0 → ∀ W, Below w.heap.size w W → Calls Try.prog 53 #[.agg #[.int .i64 R, .slice g M c, .int .i64 x, .int .i64 y], .slice gu nu cu] W fun e w' => ∃ r, e = .returned r ∧ DS w' r ol ∧ Below W.heap.size W w'))
    (HON : Kp (ER = 0 → ∀ W r, DS W r ol → Calls Try.prog 52 #[.int .i64 day, r, .int .i64 x] W fun e w' => e = .returned (.int .i64 T) ∧ Below W.heap.size W w')) :
    Calls Try.prog 13 #[.agg #[.int .i64 R, .slice g M c, .int .i64 x, .int .i64 y], .slice gu nu cu, .int .i64 day] w fun e w' => e = .returned (numE ER T) ∧ Below w.heap.size w w' := by
  go_enter Try.func13, Try.ntmps13
  go_wp2_with fail
  obtain ⟨W1, hW1⟩ : ∃ W, w.alloc (.cells #[.int .i64 R, .slice g M c, .int .i64 x, .int .i64 y] 24) = W := ⟨_, rfl⟩
  obtain ⟨hb1, hall⟩ := houseBox hW1
  try rw [hW1]
  obtain ⟨B, hB⟩ : ∃ B, w.heap.size = B := ⟨_, rfl⟩
  rw [hB] at hall
  have HB1 := Kp.mk hb1
  have HALL := Kp.mk hall
  try simp only [hB]
  clear hW1 hb1 hall hB
  refine wp_region_noPanic ?_
  refine region_nm ?_
  intro ops Qp hops hQp
  have HQP : Kp (∀ c a d v w, Qp (.panic c) (Act.put a d v) w → Qp (.panic c) a w) := ⟨by subst hQp; intro c a d v w h; exact h⟩
  have HFIN : Kp (∀ (w2 : World) (b8 : Nat), Below W1.heap.size W1 w2 → (w2.cell? ⟨b8, 0, none⟩ = some (.int .i64 day)) → Qp .normal { tmps := #[.agg #[.int .i64 R, .slice g M c, .int .i64 x, .int .i64 y], .slice gu nu cu, .int .i64 day, .pointer (some ⟨B, 0, none⟩), undef, undef, .int .i64 0, .int .i64 0, .int .i64 ER, .agg #[.int .i64 R, .slice g M c, .int .i64 x, .int .i64 y], .agg #[.int .i64 R, .slice g M c, .int .i64 x, .int .i64 y], .slice gu nu cu, .bool P, .slice gu nu cu, .bool true, .bool true, .int .i64 day, .slice (some ⟨b8, 0, none⟩) 1 1, .bool D, .bool D, .int .i64 ER, undef, undef, undef, undef, undef, undef, undef, undef, undef, undef], defers := [] } w2) := by
    refine ⟨?_⟩
    intro w2 b8 hw f8_0
    have HBW := Kp.mk (HB1.out.trans (hw.mono HB1.out.size))
    have HWB := Kp.mk hw
    clear HQP hops hw
    subst hQp
    refine NoPanic.normal ?_
    have HALL1 := HALL
    have HALL : Kp (∀ w', Below w2.heap.size w2 w' → w'.cell? ⟨B, 0, none⟩ = some (.int .i64 R) ∧ w'.cell? ⟨B, 1, none⟩ = some (.slice g M c) ∧ w'.cell? ⟨B, 2, none⟩ = some (.int .i64 x) ∧ w'.cell? ⟨B, 3, none⟩ = some (.int .i64 y)) := ⟨fun w' h => HALL1.out w' (HWB.out.trans (h.mono HWB.out.size))⟩
    have HBQ := HBW
    clear HALL1 HBW HWB
    by_cases hE : ER = 0
    · subst hE
      go_wp2_with fail
      refine wp_region_noPanic ?_
      refine region_nm ?_
      intro ops Qp hops hQp
      have HQP : Kp (∀ c a d v w, Qp (.panic c) (Act.put a d v) w → Qp (.panic c) a w) := ⟨by subst hQp; intro c a d v w h; exact h⟩
      have HFIN4 : Kp (∀ (w' : World) (r : Value), Below w2.heap.size w2 w' → (DS w' r ol) → Qp .normal { tmps := #[.agg #[.int .i64 R, .slice g M c, .int .i64 x, .int .i64 y], .slice gu nu cu, .int .i64 day, .pointer (some ⟨B, 0, none⟩), undef, undef, .int .i64 T, .int .i64 0, .int .i64 0, .agg #[.int .i64 R, .slice g M c, .int .i64 x, .int .i64 y], .agg #[.int .i64 R, .slice g M c, .int .i64 x, .int .i64 y], .slice gu nu cu, .bool P, .slice gu nu cu, .bool true, .bool true, .int .i64 day, .slice (some ⟨b8, 0, none⟩) 1 1, .bool D, .bool D, .int .i64 0, .int .i64 0, .bool false, undef, .int .i64 day, .agg #[.int .i64 R, .slice g M c, .int .i64 x, .int .i64 y], .slice gu nu cu, r, .pointer (some ⟨B, 2, none⟩), .int .i64 x, .int .i64 T], defers := [] } w') := by
        refine ⟨?_⟩
        intro w' r hw hr
        have HBW := Kp.mk (HBQ.out.trans (hw.mono HBQ.out.size))
        have HWB := Kp.mk hw
        clear HQP hops hw
        subst hQp
        refine NoPanic.normal ?_
        go_wp2
        go_ret2
        exact ⟨by unfold numE; rw [if_pos rfl]; rfl, HBW.out⟩
      have S0_1_2_3_4_5_6 : Kp (∀ (w' : World) (r : Value), Below w2.heap.size w2 w' → (DS w' r ol) → wpAnyH Try.prog .any ops Qp (fun w' => Below w2.heap.size w2 w') 2 #[true, true, true, true, true, true, true, false, false] { tmps := #[.agg #[.int .i64 R, .slice g M c, .int .i64 x, .int .i64 y], .slice gu nu cu, .int .i64 day, .pointer (some ⟨B, 0, none⟩), undef, undef, .int .i64 0, .int .i64 0, .int .i64 0, .agg #[.int .i64 R, .slice g M c, .int .i64 x, .int .i64 y], .agg #[.int .i64 R, .slice g M c, .int .i64 x, .int .i64 y], .slice gu nu cu, .bool P, .slice gu nu cu, .bool true, .bool true, .int .i64 day, .slice (some ⟨b8, 0, none⟩) 1 1, .bool D, .bool D, .int .i64 0, .int .i64 0, .bool false, undef, .int .i64 day, .agg #[.int .i64 R, .slice g M c, .int .i64 x, .int .i64 y], .slice gu nu cu, r, .pointer (some ⟨B, 2, none⟩), .int .i64 x, .int .i64 T], defers := [] } w') := by
        refine ⟨?_⟩
        intro w' r hw hr
        refine wpAnyH_take (i := 7) (oi := { dst := some 6, op := Go.Op.assign (Go.Operand.tmp 30), type := 3, pos := "spread.go:16", after := #[{ on := 6, ground := Go.Ground.data }, { on := 6, ground := Go.Ground.chain }, { on := 0, ground := Go.Ground.phase }, { on := 1, ground := Go.Ground.phase }, { on := 2, ground := Go.Ground.phase }, { on := 3, ground := Go.Ground.phase }, { on := 4, ground := Go.Ground.phase }, { on := 5, ground := Go.Ground.phase }, { on := 6, ground := Go.Ground.phase }], guard := none }) (v := .int .i64 T) (by rw [hops]; kernel_rfl) (by rw [hops]; kernel_rfl) (by rw [hops]; kernel_rfl) (by rw [hops]; kernel_rfl) (fun c a w h => HQP.out c a _ _ w h) (Or.inl ⟨by rw [hops]; kernel_rfl, by intro w _; go_simp⟩) hw ?_
        simp only [Act.put, List.setIfInBounds_toArray, List.set_cons_zero, List.set_cons_succ]
        refine wpAnyH_take (i := 8) (oi := { dst := some 7, op := Go.Op.assign (Go.Operand.const (Go.Value.int Go.IntKind.i64 0)), type := 28, pos := "spread.go:16", after := #[{ on := 7, ground := Go.Ground.chain }, { on := 0, ground := Go.Ground.phase }, { on := 1, ground := Go.Ground.phase }, { on := 2, ground := Go.Ground.phase }, { on := 3, ground := Go.Ground.phase }, { on := 4, ground := Go.Ground.phase }, { on := 5, ground := Go.Ground.phase }, { on := 6, ground := Go.Ground.phase }, { on := 7, ground := Go.Ground.phase }], guard := none }) (v := .int .i64 0) (by rw [hops]; kernel_rfl) (by rw [hops]; kernel_rfl) (by rw [hops]; kernel_rfl) (by rw [hops]; kernel_rfl) (fun c a w h => HQP.out c a _ _ w h) (Or.inl ⟨by rw [hops]; kernel_rfl, by intro w _; go_simp⟩) hw ?_
        simp only [Act.put, List.setIfInBounds_toArray, List.set_cons_zero, List.set_cons_succ]
        refine wpAnyH_done (by rw [hops]; kernel_rfl) ?_ _
        exact HFIN4.out w' r hw hr
      have S0_1_2_3_4_5 : Kp (∀ (w' : World) (r : Value), Below w2.heap.size w2 w' → (DS w' r ol) → wpAnyH Try.prog .any ops Qp (fun w' => Below w2.heap.size w2 w') 3 #[true, true, true, true, true, true, false, false, false] { tmps := #[.agg #[.int .i64 R, .slice g M c, .int .i64 x, .int .i64 y], .slice gu nu cu, .int .i64 day, .pointer (some ⟨B, 0, none⟩), undef, undef, .int .i64 0, .int .i64 0, .int .i64 0, .agg #[.int .i64 R, .slice g M c, .int .i64 x, .int .i64 y], .agg #[.int .i64 R, .slice g M c, .int .i64 x, .int .i64 y], .slice gu nu cu, .bool P, .slice gu nu cu, .bool true, .bool true, .int .i64 day, .slice (some ⟨b8, 0, none⟩) 1 1, .bool D, .bool D, .int .i64 0, .int .i64 0, .bool false, undef, .int .i64 day, .agg #[.int .i64 R, .slice g M c, .int .i64 x, .int .i64 y], .slice gu nu cu, r, .pointer (some ⟨B, 2, none⟩), .int .i64 x, undef], defers := [] } w') := by
        refine ⟨?_⟩
        intro w' r hw hr
        refine wpAnyH_ready (rs := [6]) (by rw [hops]; kernel_rfl) (by simp) ?_
        refine AllReadyH.cons (o := { dst := some 30, op := Go.Op.call { callee := Go.Callee.value (Go.Operand.func 52), args := #[Go.Operand.tmp 24, Go.Operand.tmp 27, Go.Operand.tmp 29], argTypes := #[3, 22, 3] }, type := 3, pos := "spread.go:16", after := #[{ on := 0, ground := Go.Ground.data }, { on := 3, ground := Go.Ground.data }, { on := 5, ground := Go.Ground.data }, { on := 3, ground := Go.Ground.chain }], guard := none }) (by rw [hops]; kernel_rfl) (fun K hK => ?_) ?_
        · rw [if_pos (by rw [hops]; kernel_rfl)]
          go_simp
          refine (HON.out (by simp) _ _ hr).mono ?_
          rintro en w5 ⟨rfl, hb5⟩
          exact hK.out _ _ (hw.trans (hb5.mono hw.size)) (fun hwn => S0_1_2_3_4_5_6.out w5 r hwn (hr.below hb5) )
        exact AllReadyH.nil
      have S : Kp (∀ (w' : World), Below w2.heap.size w2 w' → wpAnyH Try.prog .any ops Qp (fun w' => Below w2.heap.size w2 w') 9 #[false, false, false, false, false, false, false, false, false] { tmps := #[.agg #[.int .i64 R, .slice g M c, .int .i64 x, .int .i64 y], .slice gu nu cu, .int .i64 day, .pointer (some ⟨B, 0, none⟩), undef, undef, .int .i64 0, .int .i64 0, .int .i64 0, .agg #[.int .i64 R, .slice g M c, .int .i64 x, .int .i64 y], .agg #[.int .i64 R, .slice g M c, .int .i64 x, .int .i64 y], .slice gu nu cu, .bool P, .slice gu nu cu, .bool true, .bool true, .int .i64 day, .slice (some ⟨b8, 0, none⟩) 1 1, .bool D, .bool D, .int .i64 0, .int .i64 0, .bool false, undef, undef, undef, undef, undef, undef, undef, undef], defers := [] } w') := by
        refine ⟨?_⟩
        intro w' hw
        refine wpAnyH_take (i := 0) (oi := { dst := some 24, op := Go.Op.move (Go.Operand.tmp 2), type := 3, pos := "spread.go:16", after := #[], guard := none }) (v := .int .i64 day) (by rw [hops]; kernel_rfl) (by rw [hops]; kernel_rfl) (by rw [hops]; kernel_rfl) (by rw [hops]; kernel_rfl) (fun c a w h => HQP.out c a _ _ w h) (Or.inl ⟨by rw [hops]; kernel_rfl, by intro w _; go_simp⟩) hw ?_
        simp only [Act.put, List.setIfInBounds_toArray, List.set_cons_zero, List.set_cons_succ]
        refine wpAnyH_take (i := 1) (oi := { dst := some 25, op := Go.Op.load 24 (Go.Operand.tmp 3), type := 24, pos := "spread.go:16", after := #[], guard := none }) (v := .agg #[.int .i64 R, .slice g M c, .int .i64 x, .int .i64 y]) (by rw [hops]; kernel_rfl) (by rw [hops]; kernel_rfl) (by rw [hops]; kernel_rfl) (by rw [hops]; kernel_rfl) (fun c a w h => HQP.out c a _ _ w h) (Or.inl ⟨by rw [hops]; kernel_rfl, by intro w hwS; obtain ⟨q0, q1, q2, q3⟩ := HALL.out w hwS; go_simp⟩) hw ?_
        simp only [Act.put, List.setIfInBounds_toArray, List.set_cons_zero, List.set_cons_succ]
        refine wpAnyH_take (i := 2) (oi := { dst := some 26, op := Go.Op.move (Go.Operand.tmp 1), type := 25, pos := "spread.go:16", after := #[], guard := none }) (v := .slice gu nu cu) (by rw [hops]; kernel_rfl) (by rw [hops]; kernel_rfl) (by rw [hops]; kernel_rfl) (by rw [hops]; kernel_rfl) (fun c a w h => HQP.out c a _ _ w h) (Or.inl ⟨by rw [hops]; kernel_rfl, by intro w _; go_simp⟩) hw ?_
        simp only [Act.put, List.setIfInBounds_toArray, List.set_cons_zero, List.set_cons_succ]
        refine wpAnyH_take (i := 4) (oi := { dst := some 28, op := Go.Op.fieldAddr 24 (Go.Operand.tmp 3) 2, type := 0, pos := "spread.go:16", after := #[], guard := none }) (v := .pointer (some ⟨B, 2, none⟩)) (by rw [hops]; kernel_rfl) (by rw [hops]; kernel_rfl) (by rw [hops]; kernel_rfl) (by rw [hops]; kernel_rfl) (fun c a w h => HQP.out c a _ _ w h) (Or.inl ⟨by rw [hops]; kernel_rfl, by intro w _; go_simp⟩) hw ?_
        simp only [Act.put, List.setIfInBounds_toArray, List.set_cons_zero, List.set_cons_succ]
        refine wpAnyH_take (i := 5) (oi := { dst := some 29, op := Go.Op.load 3 (Go.Operand.tmp 28), type := 3, pos := "spread.go:16", after := #[{ on := 4, ground := Go.Ground.data }], guard := none }) (v := .int .i64 x) (by rw [hops]; kernel_rfl) (by rw [hops]; kernel_rfl) (by rw [hops]; kernel_rfl) (by rw [hops]; kernel_rfl) (fun c a w h => HQP.out c a _ _ w h) (Or.inl ⟨by rw [hops]; kernel_rfl, by intro w hwS; obtain ⟨q0, q1, q2, q3⟩ := HALL.out w hwS; go_simp⟩) hw ?_
        simp only [Act.put, List.setIfInBounds_toArray, List.set_cons_zero, List.set_cons_succ]
        refine wpAnyH_ready (rs := [3]) (by rw [hops]; kernel_rfl) (by simp) ?_
        refine AllReadyH.cons (o := { dst := some 27, op := Go.Op.call { callee := Go.Callee.value (Go.Operand.func 53), args := #[Go.Operand.tmp 25, Go.Operand.tmp 26], argTypes := #[24, 25] }, type := 22, pos := "spread.go:16", after := #[{ on := 1, ground := Go.Ground.data }, { on := 2, ground := Go.Ground.data }], guard := none }) (by rw [hops]; kernel_rfl) (fun K hK => ?_) ?_
        · rw [if_pos (by rw [hops]; kernel_rfl)]
          go_simp
          refine (HOP.out (by simp) _ (HBQ.out.trans (hw.mono HBQ.out.size))).mono ?_
          rintro en w5 ⟨r, rfl, hr, hb5⟩
          exact hK.out _ _ (hw.trans (hb5.mono hw.size)) (fun hwn => S0_1_2_3_4_5.out w5 r hwn hr )
        exact AllReadyH.nil
      have hsz : ops.size = 9 := by rw [hops]; rfl
      refine wp_region_held_drew (S := fun w' => Below w2.heap.size w2 w') (by kernel_rfl) (Below.drew (Below.refl _ _)) (fun hw0 => ?_)
      rw [hsz]
      exact S.out _ hw0
    · have i1 : (ER == (0 : Int)) = false := by simp [hE]
      have i2 : (ER != (0 : Int)) = true := by simp [hE]
      have HE := Kp.mk hE
      clear hE HOP HON
      go_wp2
      go_ret2
      exact ⟨by unfold numE; rw [if_neg HE.out]; rfl, HBQ.out⟩
  have S0_1_2_3_4_5_6_7_8_9_10_11 : Kp (∀ (w' : World) (b8 : Nat), Below W1.heap.size W1 w' → (w'.cell? ⟨b8, 0, none⟩ = some (.int .i64 day)) → wpAnyH Try.prog .any ops Qp (fun w' => Below W1.heap.size W1 w') 1 #[true, true, true, true, true, true, true, true, true, true, true, true, false] { tmps := #[.agg #[.int .i64 R, .slice g M c, .int .i64 x, .int .i64 y], .slice gu nu cu, .int .i64 day, .pointer (some ⟨B, 0, none⟩), undef, undef, .int .i64 0, .int .i64 0, undef, .agg #[.int .i64 R, .slice g M c, .int .i64 x, .int .i64 y], .agg #[.int .i64 R, .slice g M c, .int .i64 x, .int .i64 y], .slice gu nu cu, .bool P, .slice gu nu cu, .bool true, .bool true, .int .i64 day, .slice (some ⟨b8, 0, none⟩) 1 1, .bool D, .bool D, .int .i64 ER, undef, undef, undef, undef, undef, undef, undef, undef, undef, undef], defers := [] } w') := by
    refine ⟨?_⟩
    intro w' b8 hw f8_0
    refine wpAnyH_take (i := 12) (oi := { dst := some 8, op := Go.Op.assign (Go.Operand.tmp 20), type := 28, pos := "spread.go:13", after := #[{ on := 11, ground := Go.Ground.data }, { on := 11, ground := Go.Ground.chain }, { on := 0, ground := Go.Ground.phase }, { on := 1, ground := Go.Ground.phase }, { on := 2, ground := Go.Ground.phase }, { on := 3, ground := Go.Ground.phase }, { on := 4, ground := Go.Ground.phase }, { on := 5, ground := Go.Ground.phase }, { on := 6, ground := Go.Ground.phase }, { on := 7, ground := Go.Ground.phase }, { on := 8, ground := Go.Ground.phase }, { on := 9, ground := Go.Ground.phase }, { on := 10, ground := Go.Ground.phase }, { on := 11, ground := Go.Ground.phase }], guard := none }) (v := .int .i64 ER) (by rw [hops]; kernel_rfl) (by rw [hops]; kernel_rfl) (by rw [hops]; kernel_rfl) (by rw [hops]; kernel_rfl) (fun c a w h => HQP.out c a _ _ w h) (Or.inl ⟨by rw [hops]; kernel_rfl, by intro w _; go_simp⟩) hw ?_
    simp only [Act.put, List.setIfInBounds_toArray, List.set_cons_zero, List.set_cons_succ]
    refine wpAnyH_done (by rw [hops]; kernel_rfl) ?_ _
    exact HFIN.out w' b8 hw f8_0
  have S0_1_2_3_4_5_6_7_8_9 : Kp (∀ (w' : World) (b8 : Nat), Below W1.heap.size W1 w' → (w'.cell? ⟨b8, 0, none⟩ = some (.int .i64 day)) → wpAnyH Try.prog .any ops Qp (fun w' => Below W1.heap.size W1 w') 3 #[true, true, true, true, true, true, true, true, true, true, false, false, false] { tmps := #[.agg #[.int .i64 R, .slice g M c, .int .i64 x, .int .i64 y], .slice gu nu cu, .int .i64 day, .pointer (some ⟨B, 0, none⟩), undef, undef, .int .i64 0, .int .i64 0, undef, .agg #[.int .i64 R, .slice g M c, .int .i64 x, .int .i64 y], .agg #[.int .i64 R, .slice g M c, .int .i64 x, .int .i64 y], .slice gu nu cu, .bool P, .slice gu nu cu, .bool true, .bool true, .int .i64 day, .slice (some ⟨b8, 0, none⟩) 1 1, .bool D, undef, undef, undef, undef, undef, undef, undef, undef, undef, undef, undef, undef], defers := [] } w') := by
    refine ⟨?_⟩
    intro w' b8 hw f8_0
    refine wpAnyH_take (i := 10) (oi := { dst := some 19, op := Go.Op.pick (Go.Operand.tmp 15) (Go.Operand.tmp 18) (Go.Operand.const (Go.Value.bool false)), type := 4, pos := "spread.go:13", after := #[{ on := 6, ground := Go.Ground.data }, { on := 9, ground := Go.Ground.data }], guard := none }) (v := .bool D) (by rw [hops]; kernel_rfl) (by rw [hops]; kernel_rfl) (by rw [hops]; kernel_rfl) (by rw [hops]; kernel_rfl) (fun c a w h => HQP.out c a _ _ w h) (Or.inl ⟨by rw [hops]; kernel_rfl, by intro w _; go_simp⟩) hw ?_
    simp only [Act.put, List.setIfInBounds_toArray, List.set_cons_zero, List.set_cons_succ]
    refine wpAnyH_ready (rs := [11]) (by rw [hops]; kernel_rfl) (by simp) ?_
    refine AllReadyH.cons (o := { dst := some 20, op := Go.Op.call { callee := Go.Callee.value (Go.Operand.func 48), args := #[Go.Operand.tmp 9, Go.Operand.tmp 12, Go.Operand.tmp 19], argTypes := #[24, 4, 4] }, type := 28, pos := "spread.go:13", after := #[{ on := 0, ground := Go.Ground.data }, { on := 3, ground := Go.Ground.data }, { on := 10, ground := Go.Ground.data }, { on := 9, ground := Go.Ground.chain }], guard := none }) (by rw [hops]; kernel_rfl) (fun K hK => ?_) ?_
    · rw [if_pos (by rw [hops]; kernel_rfl)]
      go_simp
      refine (HCK.out _ (HB1.out.trans (hw.mono HB1.out.size))).mono ?_
      rintro en w5 ⟨rfl, hb5⟩
      exact hK.out _ _ (hw.trans (hb5.mono hw.size)) (fun hwn => S0_1_2_3_4_5_6_7_8_9_10_11.out w5 b8 hwn ((hb5.cell (p := ⟨b8, 0, none⟩) (World.block_lt_of_cell? _ _ f8_0)).trans f8_0) )
    exact AllReadyH.nil
  have S0_1_2_3_4_5_6_7_8 : Kp (∀ (w' : World) (b8 : Nat), Below W1.heap.size W1 w' → (w'.cell? ⟨b8, 0, none⟩ = some (.int .i64 day)) → wpAnyH Try.prog .any ops Qp (fun w' => Below W1.heap.size W1 w') 4 #[true, true, true, true, true, true, true, true, true, false, false, false, false] { tmps := #[.agg #[.int .i64 R, .slice g M c, .int .i64 x, .int .i64 y], .slice gu nu cu, .int .i64 day, .pointer (some ⟨B, 0, none⟩), undef, undef, .int .i64 0, .int .i64 0, undef, .agg #[.int .i64 R, .slice g M c, .int .i64 x, .int .i64 y], .agg #[.int .i64 R, .slice g M c, .int .i64 x, .int .i64 y], .slice gu nu cu, .bool P, .slice gu nu cu, .bool true, .bool true, .int .i64 day, .slice (some ⟨b8, 0, none⟩) 1 1, undef, undef, undef, undef, undef, undef, undef, undef, undef, undef, undef, undef, undef], defers := [] } w') := by
    refine ⟨?_⟩
    intro w' b8 hw f8_0
    refine wpAnyH_ready (rs := [9]) (by rw [hops]; kernel_rfl) (by simp) ?_
    refine AllReadyH.cons (o := { dst := some 18, op := Go.Op.call { callee := Go.Callee.value (Go.Operand.func 51), args := #[Go.Operand.const (Go.Value.int Go.IntKind.i64 0), Go.Operand.const (Go.Value.int Go.IntKind.i64 100), Go.Operand.tmp 17], argTypes := #[3, 3, 25] }, type := 4, pos := "spread.go:13", after := #[{ on := 8, ground := Go.Ground.data }, { on := 6, ground := Go.Ground.chain }, { on := 6, ground := Go.Ground.guard }], guard := some (6, true) }) (by rw [hops]; kernel_rfl) (fun K hK => ?_) ?_
    · rw [if_pos (by rw [hops]; kernel_rfl)]
      go_simp
      refine (HWI.out w' _ (is_one f8_0)).mono ?_
      rintro en w5 ⟨rfl, hb5⟩
      exact hK.out _ _ (hw.trans (hb5.mono hw.size)) (fun hwn => S0_1_2_3_4_5_6_7_8_9.out w5 b8 hwn ((hb5.cell (p := ⟨b8, 0, none⟩) (World.block_lt_of_cell? _ _ f8_0)).trans f8_0) )
    exact AllReadyH.nil
  have S0_1_2_3_4_5 : Kp (∀ (w' : World), Below W1.heap.size W1 w' → wpAnyH Try.prog .any ops Qp (fun w' => Below W1.heap.size W1 w') 7 #[true, true, true, true, true, true, false, false, false, false, false, false, false] { tmps := #[.agg #[.int .i64 R, .slice g M c, .int .i64 x, .int .i64 y], .slice gu nu cu, .int .i64 day, .pointer (some ⟨B, 0, none⟩), undef, undef, .int .i64 0, .int .i64 0, undef, .agg #[.int .i64 R, .slice g M c, .int .i64 x, .int .i64 y], .agg #[.int .i64 R, .slice g M c, .int .i64 x, .int .i64 y], .slice gu nu cu, .bool P, .slice gu nu cu, .bool true, undef, undef, undef, undef, undef, undef, undef, undef, undef, undef, undef, undef, undef, undef, undef, undef], defers := [] } w') := by
    refine ⟨?_⟩
    intro w' hw
    refine wpAnyH_take (i := 6) (oi := { dst := some 15, op := Go.Op.move (Go.Operand.tmp 14), type := 4, pos := "spread.go:13", after := #[{ on := 5, ground := Go.Ground.data }, { on := 5, ground := Go.Ground.chain }], guard := none }) (v := .bool true) (by rw [hops]; kernel_rfl) (by rw [hops]; kernel_rfl) (by rw [hops]; kernel_rfl) (by rw [hops]; kernel_rfl) (fun c a w h => HQP.out c a _ _ w h) (Or.inl ⟨by rw [hops]; kernel_rfl, by intro w _; go_simp⟩) hw ?_
    simp only [Act.put, List.setIfInBounds_toArray, List.set_cons_zero, List.set_cons_succ]
    refine wpAnyH_take (i := 7) (oi := { dst := some 16, op := Go.Op.move (Go.Operand.tmp 2), type := 3, pos := "spread.go:13", after := #[{ on := 6, ground := Go.Ground.guard }], guard := some (6, true) }) (v := .int .i64 day) (by rw [hops]; kernel_rfl) (by rw [hops]; kernel_rfl) (by rw [hops]; kernel_rfl) (by rw [hops]; kernel_rfl) (fun c a w h => HQP.out c a _ _ w h) (Or.inl ⟨by rw [hops]; kernel_rfl, by intro w _; go_simp⟩) hw ?_
    simp only [Act.put, List.setIfInBounds_toArray, List.set_cons_zero, List.set_cons_succ]
    refine wpAnyH_ready (rs := [8]) (by rw [hops]; kernel_rfl) (by simp) ?_
    refine AllReadyH.cons (o := { dst := some 17, op := Go.Op.buildSlice 25 1 #[(0, Go.Operand.tmp 16)], type := 25, pos := "spread.go:13", after := #[{ on := 7, ground := Go.Ground.data }, { on := 6, ground := Go.Ground.guard }], guard := some (6, true) }) (by rw [hops]; kernel_rfl) (fun K hK => ?_) ?_
    · rw [if_pos (by rw [hops]; kernel_rfl)]
      go_simp
      have hal : Below w'.heap.size w' (w'.alloc (.cells #[.int .i64 day] 3)) := (Below.refl _ _).alloc (Nat.le_refl _) _
      exact hK.out _ _ (hw.trans (hal.mono hw.size)) (fun hwn => S0_1_2_3_4_5_6_7_8.out (w'.alloc (.cells #[.int .i64 day] 3)) w'.heap.size hwn (by go_simp) )
    exact AllReadyH.nil
  have S0_1_2_3_4 : Kp (∀ (w' : World), Below W1.heap.size W1 w' → wpAnyH Try.prog .any ops Qp (fun w' => Below W1.heap.size W1 w') 8 #[true, true, true, true, true, false, false, false, false, false, false, false, false] { tmps := #[.agg #[.int .i64 R, .slice g M c, .int .i64 x, .int .i64 y], .slice gu nu cu, .int .i64 day, .pointer (some ⟨B, 0, none⟩), undef, undef, .int .i64 0, .int .i64 0, undef, .agg #[.int .i64 R, .slice g M c, .int .i64 x, .int .i64 y], .agg #[.int .i64 R, .slice g M c, .int .i64 x, .int .i64 y], .slice gu nu cu, .bool P, .slice gu nu cu, undef, undef, undef, undef, undef, undef, undef, undef, undef, undef, undef, undef, undef, undef, undef, undef, undef], defers := [] } w') := by
    refine ⟨?_⟩
    intro w' hw
    refine wpAnyH_ready (rs := [5]) (by rw [hops]; kernel_rfl) (by simp) ?_
    refine AllReadyH.cons (o := { dst := some 14, op := Go.Op.call { callee := Go.Callee.value (Go.Operand.func 50), args := #[Go.Operand.tmp 13], argTypes := #[25] }, type := 4, pos := "spread.go:13", after := #[{ on := 4, ground := Go.Ground.data }, { on := 3, ground := Go.Ground.chain }], guard := none }) (by rw [hops]; kernel_rfl) (fun K hK => ?_) ?_
    · rw [if_pos (by rw [hops]; kernel_rfl)]
      go_simp
      refine (HAS.out _ (HB1.out.trans (hw.mono HB1.out.size))).mono ?_
      rintro en w5 ⟨rfl, hb5⟩
      exact hK.out _ _ (hw.trans (hb5.mono hw.size)) (fun hwn => S0_1_2_3_4_5.out w5 hwn )
    exact AllReadyH.nil
  have S : Kp (∀ (w' : World), Below W1.heap.size W1 w' → wpAnyH Try.prog .any ops Qp (fun w' => Below W1.heap.size W1 w') 13 #[false, false, false, false, false, false, false, false, false, false, false, false, false] { tmps := #[.agg #[.int .i64 R, .slice g M c, .int .i64 x, .int .i64 y], .slice gu nu cu, .int .i64 day, .pointer (some ⟨B, 0, none⟩), undef, undef, .int .i64 0, .int .i64 0, undef, undef, undef, undef, undef, undef, undef, undef, undef, undef, undef, undef, undef, undef, undef, undef, undef, undef, undef, undef, undef, undef, undef], defers := [] } w') := by
    refine ⟨?_⟩
    intro w' hw
    refine wpAnyH_take (i := 0) (oi := { dst := some 9, op := Go.Op.load 24 (Go.Operand.tmp 3), type := 24, pos := "spread.go:13", after := #[], guard := none }) (v := .agg #[.int .i64 R, .slice g M c, .int .i64 x, .int .i64 y]) (by rw [hops]; kernel_rfl) (by rw [hops]; kernel_rfl) (by rw [hops]; kernel_rfl) (by rw [hops]; kernel_rfl) (fun c a w h => HQP.out c a _ _ w h) (Or.inl ⟨by rw [hops]; kernel_rfl, by intro w hwS; obtain ⟨q0, q1, q2, q3⟩ := HALL.out w hwS; go_simp⟩) hw ?_
    simp only [Act.put, List.setIfInBounds_toArray, List.set_cons_zero, List.set_cons_succ]
    refine wpAnyH_take (i := 1) (oi := { dst := some 10, op := Go.Op.load 24 (Go.Operand.tmp 3), type := 24, pos := "spread.go:13", after := #[], guard := none }) (v := .agg #[.int .i64 R, .slice g M c, .int .i64 x, .int .i64 y]) (by rw [hops]; kernel_rfl) (by rw [hops]; kernel_rfl) (by rw [hops]; kernel_rfl) (by rw [hops]; kernel_rfl) (fun c a w h => HQP.out c a _ _ w h) (Or.inl ⟨by rw [hops]; kernel_rfl, by intro w hwS; obtain ⟨q0, q1, q2, q3⟩ := HALL.out w hwS; go_simp⟩) hw ?_
    simp only [Act.put, List.setIfInBounds_toArray, List.set_cons_zero, List.set_cons_succ]
    refine wpAnyH_take (i := 2) (oi := { dst := some 11, op := Go.Op.move (Go.Operand.tmp 1), type := 25, pos := "spread.go:13", after := #[], guard := none }) (v := .slice gu nu cu) (by rw [hops]; kernel_rfl) (by rw [hops]; kernel_rfl) (by rw [hops]; kernel_rfl) (by rw [hops]; kernel_rfl) (fun c a w h => HQP.out c a _ _ w h) (Or.inl ⟨by rw [hops]; kernel_rfl, by intro w _; go_simp⟩) hw ?_
    simp only [Act.put, List.setIfInBounds_toArray, List.set_cons_zero, List.set_cons_succ]
    refine wpAnyH_take (i := 4) (oi := { dst := some 13, op := Go.Op.move (Go.Operand.tmp 1), type := 25, pos := "spread.go:13", after := #[], guard := none }) (v := .slice gu nu cu) (by rw [hops]; kernel_rfl) (by rw [hops]; kernel_rfl) (by rw [hops]; kernel_rfl) (by rw [hops]; kernel_rfl) (fun c a w h => HQP.out c a _ _ w h) (Or.inl ⟨by rw [hops]; kernel_rfl, by intro w _; go_simp⟩) hw ?_
    simp only [Act.put, List.setIfInBounds_toArray, List.set_cons_zero, List.set_cons_succ]
    refine wpAnyH_ready (rs := [3]) (by rw [hops]; kernel_rfl) (by simp) ?_
    refine AllReadyH.cons (o := { dst := some 12, op := Go.Op.call { callee := Go.Callee.value (Go.Operand.func 49), args := #[Go.Operand.tmp 10, Go.Operand.tmp 11], argTypes := #[24, 25] }, type := 4, pos := "spread.go:13", after := #[{ on := 1, ground := Go.Ground.data }, { on := 2, ground := Go.Ground.data }], guard := none }) (by rw [hops]; kernel_rfl) (fun K hK => ?_) ?_
    · rw [if_pos (by rw [hops]; kernel_rfl)]
      go_simp
      refine (HAD.out _ (HB1.out.trans (hw.mono HB1.out.size))).mono ?_
      rintro en w5 ⟨rfl, hb5⟩
      exact hK.out _ _ (hw.trans (hb5.mono hw.size)) (fun hwn => S0_1_2_3_4.out w5 hwn )
    exact AllReadyH.nil
  have hsz : ops.size = 13 := by rw [hops]; rfl
  refine wp_region_held_drew (S := fun w' => Below W1.heap.size W1 w') (by kernel_rfl) (Below.drew (Below.refl _ _)) (fun hw0 => ?_)
  rw [hsz]
  exact S.out _ hw0
set_option maxRecDepth 100000 in
set_option maxHeartbeats 4000000 in
theorem Spread_no (R x y day : Int) (g : Option Addr) (M c : Nat) (gu : Option Addr) (nu cu : Nat) (P D : Bool) (ER T : Int) (ol : List Dr) (w : World)
    (HAD : Kp (∀ W, Below w.heap.size w W → Calls Try.prog 49 #[.agg #[.int .i64 R, .slice g M c, .int .i64 x, .int .i64 y], .slice gu nu cu] W fun e w' => e = .returned (.bool P) ∧ Below W.heap.size W w'))
    (HAS : Kp (∀ W, Below w.heap.size w W → Calls Try.prog 50 #[.slice gu nu cu] W fun e w' => e = .returned (.bool false) ∧ Below W.heap.size W w'))
    (HWI : Kp (∀ W u, IS W u [day] → Calls Try.prog 51 #[.int .i64 0, .int .i64 100, u] W fun e w' => e = .returned (.bool D) ∧ Below W.heap.size W w'))
    (HCK : Kp (∀ W, Below w.heap.size w W → Calls Try.prog 48 #[.agg #[.int .i64 R, .slice g M c, .int .i64 x, .int .i64 y], .bool P, .bool false] W fun e w' => e = .returned (.int .i64 ER) ∧ Below W.heap.size W w'))
    (HOP : Kp (ER = 0 → ∀ W, Below w.heap.size w W → Calls Try.prog 53 #[.agg #[.int .i64 R, .slice g M c, .int .i64 x, .int .i64 y], .slice gu nu cu] W fun e w' => ∃ r, e = .returned r ∧ DS w' r ol ∧ Below W.heap.size W w'))
    (HON : Kp (ER = 0 → ∀ W r, DS W r ol → Calls Try.prog 52 #[.int .i64 day, r, .int .i64 x] W fun e w' => e = .returned (.int .i64 T) ∧ Below W.heap.size W w')) :
    Calls Try.prog 13 #[.agg #[.int .i64 R, .slice g M c, .int .i64 x, .int .i64 y], .slice gu nu cu, .int .i64 day] w fun e w' => e = .returned (numE ER T) ∧ Below w.heap.size w w' := by
  go_enter Try.func13, Try.ntmps13
  go_wp2_with fail
  obtain ⟨W1, hW1⟩ : ∃ W, w.alloc (.cells #[.int .i64 R, .slice g M c, .int .i64 x, .int .i64 y] 24) = W := ⟨_, rfl⟩
  obtain ⟨hb1, hall⟩ := houseBox hW1
  try rw [hW1]
  obtain ⟨B, hB⟩ : ∃ B, w.heap.size = B := ⟨_, rfl⟩
  rw [hB] at hall
  have HB1 := Kp.mk hb1
  have HALL := Kp.mk hall
  try simp only [hB]
  clear hW1 hb1 hall hB
  refine wp_region_noPanic ?_
  refine region_nm ?_
  intro ops Qp hops hQp
  have HQP : Kp (∀ c a d v w, Qp (.panic c) (Act.put a d v) w → Qp (.panic c) a w) := ⟨by subst hQp; intro c a d v w h; exact h⟩
  have HFIN : Kp (∀ (w2 : World), Below W1.heap.size W1 w2 → Qp .normal { tmps := #[.agg #[.int .i64 R, .slice g M c, .int .i64 x, .int .i64 y], .slice gu nu cu, .int .i64 day, .pointer (some ⟨B, 0, none⟩), undef, undef, .int .i64 0, .int .i64 0, .int .i64 ER, .agg #[.int .i64 R, .slice g M c, .int .i64 x, .int .i64 y], .agg #[.int .i64 R, .slice g M c, .int .i64 x, .int .i64 y], .slice gu nu cu, .bool P, .slice gu nu cu, .bool false, .bool false, undef, undef, undef, .bool false, .int .i64 ER, undef, undef, undef, undef, undef, undef, undef, undef, undef, undef], defers := [] } w2) := by
    refine ⟨?_⟩
    intro w2 hw 
    have HBW := Kp.mk (HB1.out.trans (hw.mono HB1.out.size))
    have HWB := Kp.mk hw
    clear HQP hops hw
    subst hQp
    refine NoPanic.normal ?_
    have HALL1 := HALL
    have HALL : Kp (∀ w', Below w2.heap.size w2 w' → w'.cell? ⟨B, 0, none⟩ = some (.int .i64 R) ∧ w'.cell? ⟨B, 1, none⟩ = some (.slice g M c) ∧ w'.cell? ⟨B, 2, none⟩ = some (.int .i64 x) ∧ w'.cell? ⟨B, 3, none⟩ = some (.int .i64 y)) := ⟨fun w' h => HALL1.out w' (HWB.out.trans (h.mono HWB.out.size))⟩
    have HBQ := HBW
    clear HALL1 HBW HWB
    by_cases hE : ER = 0
    · subst hE
      go_wp2_with fail
      refine wp_region_noPanic ?_
      refine region_nm ?_
      intro ops Qp hops hQp
      have HQP : Kp (∀ c a d v w, Qp (.panic c) (Act.put a d v) w → Qp (.panic c) a w) := ⟨by subst hQp; intro c a d v w h; exact h⟩
      have HFIN4 : Kp (∀ (w' : World) (r : Value), Below w2.heap.size w2 w' → (DS w' r ol) → Qp .normal { tmps := #[.agg #[.int .i64 R, .slice g M c, .int .i64 x, .int .i64 y], .slice gu nu cu, .int .i64 day, .pointer (some ⟨B, 0, none⟩), undef, undef, .int .i64 T, .int .i64 0, .int .i64 0, .agg #[.int .i64 R, .slice g M c, .int .i64 x, .int .i64 y], .agg #[.int .i64 R, .slice g M c, .int .i64 x, .int .i64 y], .slice gu nu cu, .bool P, .slice gu nu cu, .bool false, .bool false, undef, undef, undef, .bool false, .int .i64 0, .int .i64 0, .bool false, undef, .int .i64 day, .agg #[.int .i64 R, .slice g M c, .int .i64 x, .int .i64 y], .slice gu nu cu, r, .pointer (some ⟨B, 2, none⟩), .int .i64 x, .int .i64 T], defers := [] } w') := by
        refine ⟨?_⟩
        intro w' r hw hr
        have HBW := Kp.mk (HBQ.out.trans (hw.mono HBQ.out.size))
        have HWB := Kp.mk hw
        clear HQP hops hw
        subst hQp
        refine NoPanic.normal ?_
        go_wp2
        go_ret2
        exact ⟨by unfold numE; rw [if_pos rfl]; rfl, HBW.out⟩
      have S0_1_2_3_4_5_6 : Kp (∀ (w' : World) (r : Value), Below w2.heap.size w2 w' → (DS w' r ol) → wpAnyH Try.prog .any ops Qp (fun w' => Below w2.heap.size w2 w') 2 #[true, true, true, true, true, true, true, false, false] { tmps := #[.agg #[.int .i64 R, .slice g M c, .int .i64 x, .int .i64 y], .slice gu nu cu, .int .i64 day, .pointer (some ⟨B, 0, none⟩), undef, undef, .int .i64 0, .int .i64 0, .int .i64 0, .agg #[.int .i64 R, .slice g M c, .int .i64 x, .int .i64 y], .agg #[.int .i64 R, .slice g M c, .int .i64 x, .int .i64 y], .slice gu nu cu, .bool P, .slice gu nu cu, .bool false, .bool false, undef, undef, undef, .bool false, .int .i64 0, .int .i64 0, .bool false, undef, .int .i64 day, .agg #[.int .i64 R, .slice g M c, .int .i64 x, .int .i64 y], .slice gu nu cu, r, .pointer (some ⟨B, 2, none⟩), .int .i64 x, .int .i64 T], defers := [] } w') := by
        refine ⟨?_⟩
        intro w' r hw hr
        refine wpAnyH_take (i := 7) (oi := { dst := some 6, op := Go.Op.assign (Go.Operand.tmp 30), type := 3, pos := "spread.go:16", after := #[{ on := 6, ground := Go.Ground.data }, { on := 6, ground := Go.Ground.chain }, { on := 0, ground := Go.Ground.phase }, { on := 1, ground := Go.Ground.phase }, { on := 2, ground := Go.Ground.phase }, { on := 3, ground := Go.Ground.phase }, { on := 4, ground := Go.Ground.phase }, { on := 5, ground := Go.Ground.phase }, { on := 6, ground := Go.Ground.phase }], guard := none }) (v := .int .i64 T) (by rw [hops]; kernel_rfl) (by rw [hops]; kernel_rfl) (by rw [hops]; kernel_rfl) (by rw [hops]; kernel_rfl) (fun c a w h => HQP.out c a _ _ w h) (Or.inl ⟨by rw [hops]; kernel_rfl, by intro w _; go_simp⟩) hw ?_
        simp only [Act.put, List.setIfInBounds_toArray, List.set_cons_zero, List.set_cons_succ]
        refine wpAnyH_take (i := 8) (oi := { dst := some 7, op := Go.Op.assign (Go.Operand.const (Go.Value.int Go.IntKind.i64 0)), type := 28, pos := "spread.go:16", after := #[{ on := 7, ground := Go.Ground.chain }, { on := 0, ground := Go.Ground.phase }, { on := 1, ground := Go.Ground.phase }, { on := 2, ground := Go.Ground.phase }, { on := 3, ground := Go.Ground.phase }, { on := 4, ground := Go.Ground.phase }, { on := 5, ground := Go.Ground.phase }, { on := 6, ground := Go.Ground.phase }, { on := 7, ground := Go.Ground.phase }], guard := none }) (v := .int .i64 0) (by rw [hops]; kernel_rfl) (by rw [hops]; kernel_rfl) (by rw [hops]; kernel_rfl) (by rw [hops]; kernel_rfl) (fun c a w h => HQP.out c a _ _ w h) (Or.inl ⟨by rw [hops]; kernel_rfl, by intro w _; go_simp⟩) hw ?_
        simp only [Act.put, List.setIfInBounds_toArray, List.set_cons_zero, List.set_cons_succ]
        refine wpAnyH_done (by rw [hops]; kernel_rfl) ?_ _
        exact HFIN4.out w' r hw hr
      have S0_1_2_3_4_5 : Kp (∀ (w' : World) (r : Value), Below w2.heap.size w2 w' → (DS w' r ol) → wpAnyH Try.prog .any ops Qp (fun w' => Below w2.heap.size w2 w') 3 #[true, true, true, true, true, true, false, false, false] { tmps := #[.agg #[.int .i64 R, .slice g M c, .int .i64 x, .int .i64 y], .slice gu nu cu, .int .i64 day, .pointer (some ⟨B, 0, none⟩), undef, undef, .int .i64 0, .int .i64 0, .int .i64 0, .agg #[.int .i64 R, .slice g M c, .int .i64 x, .int .i64 y], .agg #[.int .i64 R, .slice g M c, .int .i64 x, .int .i64 y], .slice gu nu cu, .bool P, .slice gu nu cu, .bool false, .bool false, undef, undef, undef, .bool false, .int .i64 0, .int .i64 0, .bool false, undef, .int .i64 day, .agg #[.int .i64 R, .slice g M c, .int .i64 x, .int .i64 y], .slice gu nu cu, r, .pointer (some ⟨B, 2, none⟩), .int .i64 x, undef], defers := [] } w') := by
        refine ⟨?_⟩
        intro w' r hw hr
        refine wpAnyH_ready (rs := [6]) (by rw [hops]; kernel_rfl) (by simp) ?_
        refine AllReadyH.cons (o := { dst := some 30, op := Go.Op.call { callee := Go.Callee.value (Go.Operand.func 52), args := #[Go.Operand.tmp 24, Go.Operand.tmp 27, Go.Operand.tmp 29], argTypes := #[3, 22, 3] }, type := 3, pos := "spread.go:16", after := #[{ on := 0, ground := Go.Ground.data }, { on := 3, ground := Go.Ground.data }, { on := 5, ground := Go.Ground.data }, { on := 3, ground := Go.Ground.chain }], guard := none }) (by rw [hops]; kernel_rfl) (fun K hK => ?_) ?_
        · rw [if_pos (by rw [hops]; kernel_rfl)]
          go_simp
          refine (HON.out (by simp) _ _ hr).mono ?_
          rintro en w5 ⟨rfl, hb5⟩
          exact hK.out _ _ (hw.trans (hb5.mono hw.size)) (fun hwn => S0_1_2_3_4_5_6.out w5 r hwn (hr.below hb5) )
        exact AllReadyH.nil
      have S : Kp (∀ (w' : World), Below w2.heap.size w2 w' → wpAnyH Try.prog .any ops Qp (fun w' => Below w2.heap.size w2 w') 9 #[false, false, false, false, false, false, false, false, false] { tmps := #[.agg #[.int .i64 R, .slice g M c, .int .i64 x, .int .i64 y], .slice gu nu cu, .int .i64 day, .pointer (some ⟨B, 0, none⟩), undef, undef, .int .i64 0, .int .i64 0, .int .i64 0, .agg #[.int .i64 R, .slice g M c, .int .i64 x, .int .i64 y], .agg #[.int .i64 R, .slice g M c, .int .i64 x, .int .i64 y], .slice gu nu cu, .bool P, .slice gu nu cu, .bool false, .bool false, undef, undef, undef, .bool false, .int .i64 0, .int .i64 0, .bool false, undef, undef, undef, undef, undef, undef, undef, undef], defers := [] } w') := by
        refine ⟨?_⟩
        intro w' hw
        refine wpAnyH_take (i := 0) (oi := { dst := some 24, op := Go.Op.move (Go.Operand.tmp 2), type := 3, pos := "spread.go:16", after := #[], guard := none }) (v := .int .i64 day) (by rw [hops]; kernel_rfl) (by rw [hops]; kernel_rfl) (by rw [hops]; kernel_rfl) (by rw [hops]; kernel_rfl) (fun c a w h => HQP.out c a _ _ w h) (Or.inl ⟨by rw [hops]; kernel_rfl, by intro w _; go_simp⟩) hw ?_
        simp only [Act.put, List.setIfInBounds_toArray, List.set_cons_zero, List.set_cons_succ]
        refine wpAnyH_take (i := 1) (oi := { dst := some 25, op := Go.Op.load 24 (Go.Operand.tmp 3), type := 24, pos := "spread.go:16", after := #[], guard := none }) (v := .agg #[.int .i64 R, .slice g M c, .int .i64 x, .int .i64 y]) (by rw [hops]; kernel_rfl) (by rw [hops]; kernel_rfl) (by rw [hops]; kernel_rfl) (by rw [hops]; kernel_rfl) (fun c a w h => HQP.out c a _ _ w h) (Or.inl ⟨by rw [hops]; kernel_rfl, by intro w hwS; obtain ⟨q0, q1, q2, q3⟩ := HALL.out w hwS; go_simp⟩) hw ?_
        simp only [Act.put, List.setIfInBounds_toArray, List.set_cons_zero, List.set_cons_succ]
        refine wpAnyH_take (i := 2) (oi := { dst := some 26, op := Go.Op.move (Go.Operand.tmp 1), type := 25, pos := "spread.go:16", after := #[], guard := none }) (v := .slice gu nu cu) (by rw [hops]; kernel_rfl) (by rw [hops]; kernel_rfl) (by rw [hops]; kernel_rfl) (by rw [hops]; kernel_rfl) (fun c a w h => HQP.out c a _ _ w h) (Or.inl ⟨by rw [hops]; kernel_rfl, by intro w _; go_simp⟩) hw ?_
        simp only [Act.put, List.setIfInBounds_toArray, List.set_cons_zero, List.set_cons_succ]
        refine wpAnyH_take (i := 4) (oi := { dst := some 28, op := Go.Op.fieldAddr 24 (Go.Operand.tmp 3) 2, type := 0, pos := "spread.go:16", after := #[], guard := none }) (v := .pointer (some ⟨B, 2, none⟩)) (by rw [hops]; kernel_rfl) (by rw [hops]; kernel_rfl) (by rw [hops]; kernel_rfl) (by rw [hops]; kernel_rfl) (fun c a w h => HQP.out c a _ _ w h) (Or.inl ⟨by rw [hops]; kernel_rfl, by intro w _; go_simp⟩) hw ?_
        simp only [Act.put, List.setIfInBounds_toArray, List.set_cons_zero, List.set_cons_succ]
        refine wpAnyH_take (i := 5) (oi := { dst := some 29, op := Go.Op.load 3 (Go.Operand.tmp 28), type := 3, pos := "spread.go:16", after := #[{ on := 4, ground := Go.Ground.data }], guard := none }) (v := .int .i64 x) (by rw [hops]; kernel_rfl) (by rw [hops]; kernel_rfl) (by rw [hops]; kernel_rfl) (by rw [hops]; kernel_rfl) (fun c a w h => HQP.out c a _ _ w h) (Or.inl ⟨by rw [hops]; kernel_rfl, by intro w hwS; obtain ⟨q0, q1, q2, q3⟩ := HALL.out w hwS; go_simp⟩) hw ?_
        simp only [Act.put, List.setIfInBounds_toArray, List.set_cons_zero, List.set_cons_succ]
        refine wpAnyH_ready (rs := [3]) (by rw [hops]; kernel_rfl) (by simp) ?_
        refine AllReadyH.cons (o := { dst := some 27, op := Go.Op.call { callee := Go.Callee.value (Go.Operand.func 53), args := #[Go.Operand.tmp 25, Go.Operand.tmp 26], argTypes := #[24, 25] }, type := 22, pos := "spread.go:16", after := #[{ on := 1, ground := Go.Ground.data }, { on := 2, ground := Go.Ground.data }], guard := none }) (by rw [hops]; kernel_rfl) (fun K hK => ?_) ?_
        · rw [if_pos (by rw [hops]; kernel_rfl)]
          go_simp
          refine (HOP.out (by simp) _ (HBQ.out.trans (hw.mono HBQ.out.size))).mono ?_
          rintro en w5 ⟨r, rfl, hr, hb5⟩
          exact hK.out _ _ (hw.trans (hb5.mono hw.size)) (fun hwn => S0_1_2_3_4_5.out w5 r hwn hr )
        exact AllReadyH.nil
      have hsz : ops.size = 9 := by rw [hops]; rfl
      refine wp_region_held_drew (S := fun w' => Below w2.heap.size w2 w') (by kernel_rfl) (Below.drew (Below.refl _ _)) (fun hw0 => ?_)
      rw [hsz]
      exact S.out _ hw0
    · have i1 : (ER == (0 : Int)) = false := by simp [hE]
      have i2 : (ER != (0 : Int)) = true := by simp [hE]
      have HE := Kp.mk hE
      clear hE HOP HON
      go_wp2
      go_ret2
      exact ⟨by unfold numE; rw [if_neg HE.out]; rfl, HBQ.out⟩
  have S0_1_2_3_4_5_6_7_8_9_10_11 : Kp (∀ (w' : World), Below W1.heap.size W1 w' → wpAnyH Try.prog .any ops Qp (fun w' => Below W1.heap.size W1 w') 1 #[true, true, true, true, true, true, true, true, true, true, true, true, false] { tmps := #[.agg #[.int .i64 R, .slice g M c, .int .i64 x, .int .i64 y], .slice gu nu cu, .int .i64 day, .pointer (some ⟨B, 0, none⟩), undef, undef, .int .i64 0, .int .i64 0, undef, .agg #[.int .i64 R, .slice g M c, .int .i64 x, .int .i64 y], .agg #[.int .i64 R, .slice g M c, .int .i64 x, .int .i64 y], .slice gu nu cu, .bool P, .slice gu nu cu, .bool false, .bool false, undef, undef, undef, .bool false, .int .i64 ER, undef, undef, undef, undef, undef, undef, undef, undef, undef, undef], defers := [] } w') := by
    refine ⟨?_⟩
    intro w' hw
    refine wpAnyH_take (i := 12) (oi := { dst := some 8, op := Go.Op.assign (Go.Operand.tmp 20), type := 28, pos := "spread.go:13", after := #[{ on := 11, ground := Go.Ground.data }, { on := 11, ground := Go.Ground.chain }, { on := 0, ground := Go.Ground.phase }, { on := 1, ground := Go.Ground.phase }, { on := 2, ground := Go.Ground.phase }, { on := 3, ground := Go.Ground.phase }, { on := 4, ground := Go.Ground.phase }, { on := 5, ground := Go.Ground.phase }, { on := 6, ground := Go.Ground.phase }, { on := 7, ground := Go.Ground.phase }, { on := 8, ground := Go.Ground.phase }, { on := 9, ground := Go.Ground.phase }, { on := 10, ground := Go.Ground.phase }, { on := 11, ground := Go.Ground.phase }], guard := none }) (v := .int .i64 ER) (by rw [hops]; kernel_rfl) (by rw [hops]; kernel_rfl) (by rw [hops]; kernel_rfl) (by rw [hops]; kernel_rfl) (fun c a w h => HQP.out c a _ _ w h) (Or.inl ⟨by rw [hops]; kernel_rfl, by intro w _; go_simp⟩) hw ?_
    simp only [Act.put, List.setIfInBounds_toArray, List.set_cons_zero, List.set_cons_succ]
    refine wpAnyH_done (by rw [hops]; kernel_rfl) ?_ _
    exact HFIN.out w' hw 
  have S0_1_2_3_4_5 : Kp (∀ (w' : World), Below W1.heap.size W1 w' → wpAnyH Try.prog .any ops Qp (fun w' => Below W1.heap.size W1 w') 7 #[true, true, true, true, true, true, false, false, false, false, false, false, false] { tmps := #[.agg #[.int .i64 R, .slice g M c, .int .i64 x, .int .i64 y], .slice gu nu cu, .int .i64 day, .pointer (some ⟨B, 0, none⟩), undef, undef, .int .i64 0, .int .i64 0, undef, .agg #[.int .i64 R, .slice g M c, .int .i64 x, .int .i64 y], .agg #[.int .i64 R, .slice g M c, .int .i64 x, .int .i64 y], .slice gu nu cu, .bool P, .slice gu nu cu, .bool false, undef, undef, undef, undef, undef, undef, undef, undef, undef, undef, undef, undef, undef, undef, undef, undef], defers := [] } w') := by
    refine ⟨?_⟩
    intro w' hw
    refine wpAnyH_take (i := 6) (oi := { dst := some 15, op := Go.Op.move (Go.Operand.tmp 14), type := 4, pos := "spread.go:13", after := #[{ on := 5, ground := Go.Ground.data }, { on := 5, ground := Go.Ground.chain }], guard := none }) (v := .bool false) (by rw [hops]; kernel_rfl) (by rw [hops]; kernel_rfl) (by rw [hops]; kernel_rfl) (by rw [hops]; kernel_rfl) (fun c a w h => HQP.out c a _ _ w h) (Or.inl ⟨by rw [hops]; kernel_rfl, by intro w _; go_simp⟩) hw ?_
    simp only [Act.put, List.setIfInBounds_toArray, List.set_cons_zero, List.set_cons_succ]
    refine wpAnyH_take (i := 7) (oi := { dst := some 16, op := Go.Op.move (Go.Operand.tmp 2), type := 3, pos := "spread.go:13", after := #[{ on := 6, ground := Go.Ground.guard }], guard := some (6, true) }) (v := undef) (by rw [hops]; kernel_rfl) (by rw [hops]; kernel_rfl) (by rw [hops]; kernel_rfl) (by rw [hops]; kernel_rfl) (fun c a w h => HQP.out c a _ _ w h) (Or.inr ⟨by rw [hops]; kernel_rfl, rfl⟩) hw ?_
    simp only [Act.put, List.setIfInBounds_toArray, List.set_cons_zero, List.set_cons_succ]
    refine wpAnyH_take (i := 8) (oi := { dst := some 17, op := Go.Op.buildSlice 25 1 #[(0, Go.Operand.tmp 16)], type := 25, pos := "spread.go:13", after := #[{ on := 7, ground := Go.Ground.data }, { on := 6, ground := Go.Ground.guard }], guard := some (6, true) }) (v := undef) (by rw [hops]; kernel_rfl) (by rw [hops]; kernel_rfl) (by rw [hops]; kernel_rfl) (by rw [hops]; kernel_rfl) (fun c a w h => HQP.out c a _ _ w h) (Or.inr ⟨by rw [hops]; kernel_rfl, rfl⟩) hw ?_
    simp only [Act.put, List.setIfInBounds_toArray, List.set_cons_zero, List.set_cons_succ]
    refine wpAnyH_take (i := 9) (oi := { dst := some 18, op := Go.Op.call { callee := Go.Callee.value (Go.Operand.func 51), args := #[Go.Operand.const (Go.Value.int Go.IntKind.i64 0), Go.Operand.const (Go.Value.int Go.IntKind.i64 100), Go.Operand.tmp 17], argTypes := #[3, 3, 25] }, type := 4, pos := "spread.go:13", after := #[{ on := 8, ground := Go.Ground.data }, { on := 6, ground := Go.Ground.chain }, { on := 6, ground := Go.Ground.guard }], guard := some (6, true) }) (v := undef) (by rw [hops]; kernel_rfl) (by rw [hops]; kernel_rfl) (by rw [hops]; kernel_rfl) (by rw [hops]; kernel_rfl) (fun c a w h => HQP.out c a _ _ w h) (Or.inr ⟨by rw [hops]; kernel_rfl, rfl⟩) hw ?_
    simp only [Act.put, List.setIfInBounds_toArray, List.set_cons_zero, List.set_cons_succ]
    refine wpAnyH_take (i := 10) (oi := { dst := some 19, op := Go.Op.pick (Go.Operand.tmp 15) (Go.Operand.tmp 18) (Go.Operand.const (Go.Value.bool false)), type := 4, pos := "spread.go:13", after := #[{ on := 6, ground := Go.Ground.data }, { on := 9, ground := Go.Ground.data }], guard := none }) (v := .bool false) (by rw [hops]; kernel_rfl) (by rw [hops]; kernel_rfl) (by rw [hops]; kernel_rfl) (by rw [hops]; kernel_rfl) (fun c a w h => HQP.out c a _ _ w h) (Or.inl ⟨by rw [hops]; kernel_rfl, by intro w _; go_simp⟩) hw ?_
    simp only [Act.put, List.setIfInBounds_toArray, List.set_cons_zero, List.set_cons_succ]
    refine wpAnyH_ready (rs := [11]) (by rw [hops]; kernel_rfl) (by simp) ?_
    refine AllReadyH.cons (o := { dst := some 20, op := Go.Op.call { callee := Go.Callee.value (Go.Operand.func 48), args := #[Go.Operand.tmp 9, Go.Operand.tmp 12, Go.Operand.tmp 19], argTypes := #[24, 4, 4] }, type := 28, pos := "spread.go:13", after := #[{ on := 0, ground := Go.Ground.data }, { on := 3, ground := Go.Ground.data }, { on := 10, ground := Go.Ground.data }, { on := 9, ground := Go.Ground.chain }], guard := none }) (by rw [hops]; kernel_rfl) (fun K hK => ?_) ?_
    · rw [if_pos (by rw [hops]; kernel_rfl)]
      go_simp
      refine (HCK.out _ (HB1.out.trans (hw.mono HB1.out.size))).mono ?_
      rintro en w5 ⟨rfl, hb5⟩
      exact hK.out _ _ (hw.trans (hb5.mono hw.size)) (fun hwn => S0_1_2_3_4_5_6_7_8_9_10_11.out w5 hwn )
    exact AllReadyH.nil
  have S0_1_2_3_4 : Kp (∀ (w' : World), Below W1.heap.size W1 w' → wpAnyH Try.prog .any ops Qp (fun w' => Below W1.heap.size W1 w') 8 #[true, true, true, true, true, false, false, false, false, false, false, false, false] { tmps := #[.agg #[.int .i64 R, .slice g M c, .int .i64 x, .int .i64 y], .slice gu nu cu, .int .i64 day, .pointer (some ⟨B, 0, none⟩), undef, undef, .int .i64 0, .int .i64 0, undef, .agg #[.int .i64 R, .slice g M c, .int .i64 x, .int .i64 y], .agg #[.int .i64 R, .slice g M c, .int .i64 x, .int .i64 y], .slice gu nu cu, .bool P, .slice gu nu cu, undef, undef, undef, undef, undef, undef, undef, undef, undef, undef, undef, undef, undef, undef, undef, undef, undef], defers := [] } w') := by
    refine ⟨?_⟩
    intro w' hw
    refine wpAnyH_ready (rs := [5]) (by rw [hops]; kernel_rfl) (by simp) ?_
    refine AllReadyH.cons (o := { dst := some 14, op := Go.Op.call { callee := Go.Callee.value (Go.Operand.func 50), args := #[Go.Operand.tmp 13], argTypes := #[25] }, type := 4, pos := "spread.go:13", after := #[{ on := 4, ground := Go.Ground.data }, { on := 3, ground := Go.Ground.chain }], guard := none }) (by rw [hops]; kernel_rfl) (fun K hK => ?_) ?_
    · rw [if_pos (by rw [hops]; kernel_rfl)]
      go_simp
      refine (HAS.out _ (HB1.out.trans (hw.mono HB1.out.size))).mono ?_
      rintro en w5 ⟨rfl, hb5⟩
      exact hK.out _ _ (hw.trans (hb5.mono hw.size)) (fun hwn => S0_1_2_3_4_5.out w5 hwn )
    exact AllReadyH.nil
  have S : Kp (∀ (w' : World), Below W1.heap.size W1 w' → wpAnyH Try.prog .any ops Qp (fun w' => Below W1.heap.size W1 w') 13 #[false, false, false, false, false, false, false, false, false, false, false, false, false] { tmps := #[.agg #[.int .i64 R, .slice g M c, .int .i64 x, .int .i64 y], .slice gu nu cu, .int .i64 day, .pointer (some ⟨B, 0, none⟩), undef, undef, .int .i64 0, .int .i64 0, undef, undef, undef, undef, undef, undef, undef, undef, undef, undef, undef, undef, undef, undef, undef, undef, undef, undef, undef, undef, undef, undef, undef], defers := [] } w') := by
    refine ⟨?_⟩
    intro w' hw
    refine wpAnyH_take (i := 0) (oi := { dst := some 9, op := Go.Op.load 24 (Go.Operand.tmp 3), type := 24, pos := "spread.go:13", after := #[], guard := none }) (v := .agg #[.int .i64 R, .slice g M c, .int .i64 x, .int .i64 y]) (by rw [hops]; kernel_rfl) (by rw [hops]; kernel_rfl) (by rw [hops]; kernel_rfl) (by rw [hops]; kernel_rfl) (fun c a w h => HQP.out c a _ _ w h) (Or.inl ⟨by rw [hops]; kernel_rfl, by intro w hwS; obtain ⟨q0, q1, q2, q3⟩ := HALL.out w hwS; go_simp⟩) hw ?_
    simp only [Act.put, List.setIfInBounds_toArray, List.set_cons_zero, List.set_cons_succ]
    refine wpAnyH_take (i := 1) (oi := { dst := some 10, op := Go.Op.load 24 (Go.Operand.tmp 3), type := 24, pos := "spread.go:13", after := #[], guard := none }) (v := .agg #[.int .i64 R, .slice g M c, .int .i64 x, .int .i64 y]) (by rw [hops]; kernel_rfl) (by rw [hops]; kernel_rfl) (by rw [hops]; kernel_rfl) (by rw [hops]; kernel_rfl) (fun c a w h => HQP.out c a _ _ w h) (Or.inl ⟨by rw [hops]; kernel_rfl, by intro w hwS; obtain ⟨q0, q1, q2, q3⟩ := HALL.out w hwS; go_simp⟩) hw ?_
    simp only [Act.put, List.setIfInBounds_toArray, List.set_cons_zero, List.set_cons_succ]
    refine wpAnyH_take (i := 2) (oi := { dst := some 11, op := Go.Op.move (Go.Operand.tmp 1), type := 25, pos := "spread.go:13", after := #[], guard := none }) (v := .slice gu nu cu) (by rw [hops]; kernel_rfl) (by rw [hops]; kernel_rfl) (by rw [hops]; kernel_rfl) (by rw [hops]; kernel_rfl) (fun c a w h => HQP.out c a _ _ w h) (Or.inl ⟨by rw [hops]; kernel_rfl, by intro w _; go_simp⟩) hw ?_
    simp only [Act.put, List.setIfInBounds_toArray, List.set_cons_zero, List.set_cons_succ]
    refine wpAnyH_take (i := 4) (oi := { dst := some 13, op := Go.Op.move (Go.Operand.tmp 1), type := 25, pos := "spread.go:13", after := #[], guard := none }) (v := .slice gu nu cu) (by rw [hops]; kernel_rfl) (by rw [hops]; kernel_rfl) (by rw [hops]; kernel_rfl) (by rw [hops]; kernel_rfl) (fun c a w h => HQP.out c a _ _ w h) (Or.inl ⟨by rw [hops]; kernel_rfl, by intro w _; go_simp⟩) hw ?_
    simp only [Act.put, List.setIfInBounds_toArray, List.set_cons_zero, List.set_cons_succ]
    refine wpAnyH_ready (rs := [3]) (by rw [hops]; kernel_rfl) (by simp) ?_
    refine AllReadyH.cons (o := { dst := some 12, op := Go.Op.call { callee := Go.Callee.value (Go.Operand.func 49), args := #[Go.Operand.tmp 10, Go.Operand.tmp 11], argTypes := #[24, 25] }, type := 4, pos := "spread.go:13", after := #[{ on := 1, ground := Go.Ground.data }, { on := 2, ground := Go.Ground.data }], guard := none }) (by rw [hops]; kernel_rfl) (fun K hK => ?_) ?_
    · rw [if_pos (by rw [hops]; kernel_rfl)]
      go_simp
      refine (HAD.out _ (HB1.out.trans (hw.mono HB1.out.size))).mono ?_
      rintro en w5 ⟨rfl, hb5⟩
      exact hK.out _ _ (hw.trans (hb5.mono hw.size)) (fun hwn => S0_1_2_3_4.out w5 hwn )
    exact AllReadyH.nil
  have hsz : ops.size = 13 := by rw [hops]; rfl
  refine wp_region_held_drew (S := fun w' => Below W1.heap.size W1 w') (by kernel_rfl) (Below.drew (Below.refl _ _)) (fun hw0 => ?_)
  rw [hsz]
  exact S.out _ hw0
/-- The error of a house, some of its doors and a day. -/
def sprE (R : Int) (ds : List Dr) (x y : Int) (sl : List Int) (day : Int) : Int := chkE (valB R ds x y) (allIn 0 ((ds.length : Int) - 1) sl) (ascF sl sl.length && inB 0 100 day)
/-- Where pests are on a day. -/
def sprT (ds : List Dr) (x : Int) (sl : List Int) (day : Int) : Nat := spreadF (openF ds sl ds.length) x.toNat day.toNat
theorem Spread_any (R x y day : Int) (v u : Value) (ds : List Dr) (sl : List Int) (w : World) (hv : DS w v ds) (hl : ds.length ≤ 9223372036854775807) (hu : IS w u sl) (hsl : sl.length ≤ 9223372036854775807) :
    Calls Try.prog 13 #[.agg #[.int .i64 R, v, .int .i64 x, .int .i64 y], u, .int .i64 day] w fun e w' => e = .returned (numE (sprE R ds x y sl day) (sprT ds x sl day : Nat)) ∧ Below w.heap.size w w' := by
  have HWI : Kp (∀ W u, IS W u [day] → Calls Try.prog 51 #[.int .i64 0, .int .i64 100, u] W fun e w' => e = .returned (.bool (inB 0 100 day)) ∧ Below W.heap.size W w') := ⟨fun W u hu => by
    have := within_any 0 100 u [day] W hu (by simp)
    rw [allIn_one] at this
    exact this.mono fun e w' ⟨he, hw⟩ => ⟨he, hw ▸ Below.refl _ _⟩⟩
  have HON : Kp (sprE R ds x y sl day = 0 → ∀ W r, DS W r (openF ds sl ds.length) → Calls Try.prog 52 #[.int .i64 day, r, .int .i64 x] W fun e w' => e = .returned (.int .i64 (sprT ds x sl day : Nat)) ∧ Below W.heap.size W w') := ⟨fun h W r hr => by
    have hk := valB_ok (chkE_zero h).1
    have := on_any R.toNat day r (openF ds sl ds.length) x.toNat W hr (by have := openF_len ds sl ds.length; have := hk.len; omega) (by have := hk.rooms; omega) (by have := hk.rooms; omega) (open_at sl hk.at_) hk.inf.2
    rwa [Int.toNat_of_nonneg hk.inf.1] at this⟩
  have HOP : Kp (sprE R ds x y sl day = 0 → ∀ W, Below w.heap.size w W → Calls Try.prog 53 #[.agg #[.int .i64 R, v, .int .i64 x, .int .i64 y], u] W fun e w' => ∃ r, e = .returned r ∧ DS w' r (openF ds sl ds.length) ∧ Below W.heap.size W w') := ⟨fun h W hW => by
    have hk := valB_ok (chkE_zero h).1
    exact open_ds (hv.below hW) (hu.below hW) (by have := hk.len; omega) hsl⟩
  obtain ⟨g, c, rfl⟩ := hv.shape
  obtain ⟨gu, cu, rfl⟩ := hu.shape
  cases hq : ascF sl sl.length with
  | true =>
    refine Spread_asc R x y day g ds.length c gu sl.length cu (allIn 0 ((ds.length : Int) - 1) sl) (inB 0 100 day) _ _ _ w ⟨fun W hW => areDoors_any R x y g ds.length c _ sl W hl (hu.below hW) hsl⟩ ⟨fun W hW => hq ▸ isAscending_any _ sl W (hu.below hW) hsl⟩ HWI ⟨fun W hW => ?_⟩ HOP HON
    have := checked_any R x y _ ds (allIn 0 ((ds.length : Int) - 1) sl) (inB 0 100 day) W (hv.below hW) hl
    unfold sprE
    rw [hq, Bool.true_and]
    exact this
  | false =>
    refine Spread_no R x y day g ds.length c gu sl.length cu (allIn 0 ((ds.length : Int) - 1) sl) (inB 0 100 day) _ _ _ w ⟨fun W hW => areDoors_any R x y g ds.length c _ sl W hl (hu.below hW) hsl⟩ ⟨fun W hW => hq ▸ isAscending_any _ sl W (hu.below hW) hsl⟩ HWI ⟨fun W hW => ?_⟩ HOP HON
    have := checked_any R x y _ ds (allIn 0 ((ds.length : Int) - 1) sl) false W (hv.below hW) hl
    unfold sprE
    rw [hq, Bool.false_and]
    exact this
end Go.Proofs.Ythkamfjjfkpekaa.Pe
