/-
  WALKS (layer 7, scene): what hides a point, by the program.
-/
import Derived.Test.YtjnggchljilooaaScHide
import Derived.Deep.RegionHeld3
namespace Go.Proofs.Ytjnggchljilooaa.Sc
open Go Go.RowKit Go.Sort

/-- A drawn region, its operations and what follows behind names. -/
theorem region_nm {id : Nat} {P : Program} {ops : Array Oper} {Q : Exit → Act → World → Prop} {a : Act} {w : World} (h : ∀ ops' Q', ops' = ops → Q' = Q → (Code.region id ops' true).wp P Q' a w) : (Code.region id ops true).wp P Q a w := h ops Q rfl rfl
/-- A ground and an eye, boxed. -/
theorem boxes_start {w W1 : World} {wd dp ex eb eh : Int} {v : Value} {t1 t2 : TypeId} (h : (w.alloc (.cells #[.int .i64 wd, .int .i64 dp, v] t1)).alloc (.cells #[.int .i64 ex, .int .i64 eb, .int .i64 eh] t2) = W1) :
    Below w.heap.size w W1 ∧ ∀ w', Below W1.heap.size W1 w' → w'.cell? ⟨w.heap.size, 0, none⟩ = some (.int .i64 wd) ∧ w'.cell? ⟨w.heap.size, 1, none⟩ = some (.int .i64 dp) ∧ w'.cell? ⟨w.heap.size, 2, none⟩ = some v ∧ w'.cell? ⟨w.heap.size + 1, 0, none⟩ = some (.int .i64 ex) ∧ w'.cell? ⟨w.heap.size + 1, 1, none⟩ = some (.int .i64 eb) ∧ w'.cell? ⟨w.heap.size + 1, 2, none⟩ = some (.int .i64 eh) := by
  subst h
  refine ⟨by repeat (first | exact Below.refl _ _ | refine Below.alloc ?_ (by simp <;> omega) _ | refine bDrewN ?_ _ | refine Below.drew ?_), fun w' hb => ?_⟩
  exact ⟨(hb.cell (p := ⟨_, 0, none⟩) (by simp; omega)).trans (by go_simp), (hb.cell (p := ⟨_, 1, none⟩) (by simp; omega)).trans (by go_simp), (hb.cell (p := ⟨_, 2, none⟩) (by simp; omega)).trans (by go_simp), (hb.cell (p := ⟨_, 0, none⟩) (by simp)).trans (by go_simp), (hb.cell (p := ⟨_, 1, none⟩) (by simp)).trans (by go_simp), (hb.cell (p := ⟨_, 2, none⟩) (by simp)).trans (by go_simp)⟩
/-- What Hides answers. -/
def hidesV (E : Int) (o : Option (Int × Int)) : Value := if E = 0 then match o with
  | some (c, r) => .tuple #[.int .i64 c, .int .i64 r, .int .i64 0]
  | none => .tuple #[.int .i64 0, .int .i64 0, .int .i64 8]
  else .tuple #[.int .i64 0, .int .i64 0, .int .i64 E]
set_option maxRecDepth 100000 in
set_option maxHeartbeats 4000000 in
theorem Hides_in (wd dp ex eb eh x y h : Int) (g : Option Addr) (M c : Nat) (ER : Int) (Q : Bool) (o : Option (Int × Int)) (w : World)
    (HIC : Kp (∀ W, Calls Try.prog 47 #[.agg #[.int .i64 wd, .int .i64 dp, .slice g M c], .int .i64 x, .int .i64 y] W fun e w' => e = .returned (.bool true) ∧ Below W.heap.size W w'))
    (HWI : Kp (∀ W u, IS W u [h] → Calls Try.prog 51 #[.int .i64 0, .int .i64 3000, u] W fun e w' => e = .returned (.bool Q) ∧ W = w'))
    (HCK : Kp (∀ W u, Below w.heap.size w W → ES W u [⟨ex, eb, eh⟩] → Calls Try.prog 46 #[.bool Q, .agg #[.int .i64 wd, .int .i64 dp, .slice g M c], u] W fun e w' => e = .returned (.int .i64 ER) ∧ Below W.heap.size W w'))
    (HHD : Kp (ER = 0 → ∀ W, Below w.heap.size w W → Calls Try.prog 67 #[.agg #[.int .i64 wd, .int .i64 dp, .slice g M c, .int .i64 ex, .int .i64 eb, .int .i64 eh], .int .i64 x, .int .i64 y, .int .i64 h] W fun e w' => e = .returned (hidV o) ∧ Below W.heap.size W w')) :
    Calls Try.prog 31 #[.agg #[.int .i64 wd, .int .i64 dp, .slice g M c], .agg #[.int .i64 ex, .int .i64 eb, .int .i64 eh], .int .i64 x, .int .i64 y, .int .i64 h] w fun e w' => e = .returned (hidesV ER o) ∧ Below w.heap.size w w' := by
  go_enter Try.func31, Try.ntmps31
  go_wp2
  obtain ⟨W1, hW1⟩ : ∃ W, (w.alloc (.cells #[.int .i64 wd, .int .i64 dp, .slice g M c] 24)).alloc (.cells #[.int .i64 ex, .int .i64 eb, .int .i64 eh] 26) = W := ⟨_, rfl⟩
  obtain ⟨hb1, hall⟩ := boxes_start hW1
  rw [hW1]
  obtain ⟨B, hB⟩ : ∃ B, w.heap.size = B := ⟨_, rfl⟩
  rw [hB] at hall
  have HB1 := Kp.mk hb1
  have HALL := Kp.mk hall
  try simp only [hB]
  clear hW1 hb1 hall hB
  refine wp_region_noPanic ?_
  refine region_nm ?_
  intro ops Qp hops hQp
  have HQP : Kp (∀ c a d v w, Qp (.panic c) (Act.put a d v) w → Qp (.panic c) a w) := ⟨by subst hQp; intro c a d v w h; exact h⟩
  have HFIN : Kp (∀ (w' : World) (b6 b11 : Nat), Below W1.heap.size W1 w' → Qp .normal { tmps := #[.agg #[.int .i64 wd, .int .i64 dp, .slice g M c], .agg #[.int .i64 ex, .int .i64 eb, .int .i64 eh], .int .i64 x, .int .i64 y, .int .i64 h, .pointer (some ⟨B, 0, none⟩), .pointer (some ⟨B + 1, 0, none⟩), undef, undef, undef, .int .i64 0, .int .i64 0, .int .i64 0, .int .i64 ER, undef, .agg #[.int .i64 wd, .int .i64 dp, .slice g M c], .int .i64 x, .int .i64 y, .bool true, .bool true, .int .i64 h, .slice (some ⟨b6, 0, none⟩) 1 1, .bool Q, .bool Q, .agg #[.int .i64 wd, .int .i64 dp, .slice g M c], .agg #[.int .i64 ex, .int .i64 eb, .int .i64 eh], .slice (some ⟨b11, 0, none⟩) 1 1, .int .i64 ER, undef, undef, undef, undef, undef, undef, undef, undef, undef, undef, undef, undef, undef, undef, undef, undef, undef, undef], defers := [] } w') := by
    refine ⟨?_⟩
    intro w' b6 b11 hw
    obtain ⟨q0, q1, q2, q3, q4, q5⟩ := HALL.out w' hw
    have HBW := Kp.mk (HB1.out.trans (hw.mono HB1.out.size))
    clear HQP hops hw
    subst hQp
    refine NoPanic.normal ?_
    by_cases hE : ER = 0
    · subst hE
      have HHX := Kp.mk (HHD.out rfl w' HBW.out)
      cases o with
      | none =>
        go_wp2_with fail
        refine (HHX.out).mono ?_
        rintro en w6 ⟨rfl, hb6⟩
        have HB6 := Kp.mk (HBW.out.trans (hb6.mono HBW.out.size))
        clear hb6
        simp only [hidV]
        go_wp2
        go_ret3
        exact ⟨rfl, HB6.out⟩
      | some p =>
        obtain ⟨pc, pr⟩ := p
        go_wp2_with fail
        refine (HHX.out).mono ?_
        rintro en w6 ⟨rfl, hb6⟩
        have HB6 := Kp.mk (HBW.out.trans (hb6.mono HBW.out.size))
        clear hb6
        simp only [hidV]
        go_wp2
        go_ret3
        exact ⟨rfl, HB6.out⟩
    · have i1 : (ER == (0 : Int)) = false := by simp [hE]
      have i2 : (ER != (0 : Int)) = true := by simp [hE]
      have HV : Kp (hidesV ER o = .tuple #[.int .i64 0, .int .i64 0, .int .i64 ER]) := ⟨by unfold hidesV; rw [if_neg hE]⟩
      clear hE
      go_wp2
      go_ret3
      exact ⟨by rw [HV.out]; rfl, HBW.out⟩
  have S0_1_2_3_4_5_6_7_8_9_10_11_12 : Kp (∀ (w' : World) (b6 : Nat) (b11 : Nat), Below W1.heap.size W1 w' → w'.cell? ⟨b6, 0, none⟩ = some (.int .i64 h) → w'.cell? ⟨b11, 0, none⟩ = some (.int .i64 ex) → w'.cell? ⟨b11, 1, none⟩ = some (.int .i64 eb) → w'.cell? ⟨b11, 2, none⟩ = some (.int .i64 eh) → wpAnyH Try.prog .any ops Qp (fun w' => Below W1.heap.size W1 w') 1 #[true, true, true, true, true, true, true, true, true, true, true, true, true, false] { tmps := #[.agg #[.int .i64 wd, .int .i64 dp, .slice g M c], .agg #[.int .i64 ex, .int .i64 eb, .int .i64 eh], .int .i64 x, .int .i64 y, .int .i64 h, .pointer (some ⟨B, 0, none⟩), .pointer (some ⟨B + 1, 0, none⟩), undef, undef, undef, .int .i64 0, .int .i64 0, .int .i64 0, undef, undef, .agg #[.int .i64 wd, .int .i64 dp, .slice g M c], .int .i64 x, .int .i64 y, .bool true, .bool true, .int .i64 h, .slice (some ⟨b6, 0, none⟩) 1 1, .bool Q, .bool Q, .agg #[.int .i64 wd, .int .i64 dp, .slice g M c], .agg #[.int .i64 ex, .int .i64 eb, .int .i64 eh], .slice (some ⟨b11, 0, none⟩) 1 1, .int .i64 ER, undef, undef, undef, undef, undef, undef, undef, undef, undef, undef, undef, undef, undef, undef, undef, undef, undef, undef], defers := [] } w') := by
    refine ⟨?_⟩
    intro w' b6 b11 hw f6_0 f11_0 f11_1 f11_2
    refine wpAnyH_take (i := 13) (oi := { dst := some 13, op := Go.Op.assign (Go.Operand.tmp 27), type := 28, pos := "sight.go:51", after := #[{ on := 12, ground := Go.Ground.data }, { on := 12, ground := Go.Ground.chain }, { on := 0, ground := Go.Ground.phase }, { on := 1, ground := Go.Ground.phase }, { on := 2, ground := Go.Ground.phase }, { on := 3, ground := Go.Ground.phase }, { on := 4, ground := Go.Ground.phase }, { on := 5, ground := Go.Ground.phase }, { on := 6, ground := Go.Ground.phase }, { on := 7, ground := Go.Ground.phase }, { on := 8, ground := Go.Ground.phase }, { on := 9, ground := Go.Ground.phase }, { on := 10, ground := Go.Ground.phase }, { on := 11, ground := Go.Ground.phase }, { on := 12, ground := Go.Ground.phase }], guard := none }) (v := .int .i64 ER) (by rw [hops]; kernel_rfl) (by rw [hops]; kernel_rfl) (by rw [hops]; kernel_rfl) (by rw [hops]; kernel_rfl) (fun c a w h => HQP.out c a _ _ w h) (Or.inl ⟨by rw [hops]; kernel_rfl, by intro w _; go_simp⟩) hw ?_
    simp only [Act.put, List.setIfInBounds_toArray, List.set_cons_zero, List.set_cons_succ]
    refine wpAnyH_done (by rw [hops]; kernel_rfl) ?_ _
    exact HFIN.out w' b6 b11 hw
  have S0_1_2_3_4_5_6_7_8_9_10_11 : Kp (∀ (w' : World) (b6 : Nat) (b11 : Nat), Below W1.heap.size W1 w' → w'.cell? ⟨b6, 0, none⟩ = some (.int .i64 h) → w'.cell? ⟨b11, 0, none⟩ = some (.int .i64 ex) → w'.cell? ⟨b11, 1, none⟩ = some (.int .i64 eb) → w'.cell? ⟨b11, 2, none⟩ = some (.int .i64 eh) → wpAnyH Try.prog .any ops Qp (fun w' => Below W1.heap.size W1 w') 2 #[true, true, true, true, true, true, true, true, true, true, true, true, false, false] { tmps := #[.agg #[.int .i64 wd, .int .i64 dp, .slice g M c], .agg #[.int .i64 ex, .int .i64 eb, .int .i64 eh], .int .i64 x, .int .i64 y, .int .i64 h, .pointer (some ⟨B, 0, none⟩), .pointer (some ⟨B + 1, 0, none⟩), undef, undef, undef, .int .i64 0, .int .i64 0, .int .i64 0, undef, undef, .agg #[.int .i64 wd, .int .i64 dp, .slice g M c], .int .i64 x, .int .i64 y, .bool true, .bool true, .int .i64 h, .slice (some ⟨b6, 0, none⟩) 1 1, .bool Q, .bool Q, .agg #[.int .i64 wd, .int .i64 dp, .slice g M c], .agg #[.int .i64 ex, .int .i64 eb, .int .i64 eh], .slice (some ⟨b11, 0, none⟩) 1 1, undef, undef, undef, undef, undef, undef, undef, undef, undef, undef, undef, undef, undef, undef, undef, undef, undef, undef, undef], defers := [] } w') := by
    refine ⟨?_⟩
    intro w' b6 b11 hw f6_0 f11_0 f11_1 f11_2
    refine wpAnyH_ready (rs := [12]) (by rw [hops]; kernel_rfl) (by simp) ?_
    refine AllReadyH.cons (o := { dst := some 27, op := Go.Op.call { callee := Go.Callee.value (Go.Operand.func 46), args := #[Go.Operand.tmp 23, Go.Operand.tmp 24, Go.Operand.tmp 26], argTypes := #[4, 24, 49] }, type := 28, pos := "sight.go:51", after := #[{ on := 8, ground := Go.Ground.data }, { on := 9, ground := Go.Ground.data }, { on := 11, ground := Go.Ground.data }, { on := 7, ground := Go.Ground.chain }], guard := none }) (by rw [hops]; kernel_rfl) (fun K hK => ?_) ?_
    · rw [if_pos (by rw [hops]; kernel_rfl)]
      go_simp
      refine (HCK.out _ _ (HB1.out.trans (hw.mono HB1.out.size)) (es_one (e := ⟨ex, eb, eh⟩) f11_0 f11_1 f11_2)).mono ?_
      rintro en w5 ⟨rfl, hb5⟩
      exact hK.out _ _ (hw.trans (hb5.mono hw.size)) (fun hwn => S0_1_2_3_4_5_6_7_8_9_10_11_12.out w5 b6 b11 hwn ((hb5.cell (p := ⟨b6, 0, none⟩) (World.block_lt_of_cell? _ _ f6_0)).trans f6_0) ((hb5.cell (p := ⟨b11, 0, none⟩) (World.block_lt_of_cell? _ _ f11_0)).trans f11_0) ((hb5.cell (p := ⟨b11, 1, none⟩) (World.block_lt_of_cell? _ _ f11_1)).trans f11_1) ((hb5.cell (p := ⟨b11, 2, none⟩) (World.block_lt_of_cell? _ _ f11_2)).trans f11_2))
    exact AllReadyH.nil
  have S0_1_2_3_4_5_6_7_9_10 : Kp (∀ (w' : World) (b6 : Nat), Below W1.heap.size W1 w' → w'.cell? ⟨b6, 0, none⟩ = some (.int .i64 h) → wpAnyH Try.prog .any ops Qp (fun w' => Below W1.heap.size W1 w') 4 #[true, true, true, true, true, true, true, true, false, true, true, false, false, false] { tmps := #[.agg #[.int .i64 wd, .int .i64 dp, .slice g M c], .agg #[.int .i64 ex, .int .i64 eb, .int .i64 eh], .int .i64 x, .int .i64 y, .int .i64 h, .pointer (some ⟨B, 0, none⟩), .pointer (some ⟨B + 1, 0, none⟩), undef, undef, undef, .int .i64 0, .int .i64 0, .int .i64 0, undef, undef, .agg #[.int .i64 wd, .int .i64 dp, .slice g M c], .int .i64 x, .int .i64 y, .bool true, .bool true, .int .i64 h, .slice (some ⟨b6, 0, none⟩) 1 1, .bool Q, undef, .agg #[.int .i64 wd, .int .i64 dp, .slice g M c], .agg #[.int .i64 ex, .int .i64 eb, .int .i64 eh], undef, undef, undef, undef, undef, undef, undef, undef, undef, undef, undef, undef, undef, undef, undef, undef, undef, undef, undef, undef], defers := [] } w') := by
    refine ⟨?_⟩
    intro w' b6 hw f6_0
    refine wpAnyH_take (i := 8) (oi := { dst := some 23, op := Go.Op.pick (Go.Operand.tmp 19) (Go.Operand.tmp 22) (Go.Operand.const (Go.Value.bool false)), type := 4, pos := "sight.go:51", after := #[{ on := 4, ground := Go.Ground.data }, { on := 7, ground := Go.Ground.data }], guard := none }) (v := .bool Q) (by rw [hops]; kernel_rfl) (by rw [hops]; kernel_rfl) (by rw [hops]; kernel_rfl) (by rw [hops]; kernel_rfl) (fun c a w h => HQP.out c a _ _ w h) (Or.inl ⟨by rw [hops]; kernel_rfl, by intro w _; go_simp⟩) hw ?_
    simp only [Act.put, List.setIfInBounds_toArray, List.set_cons_zero, List.set_cons_succ]
    refine wpAnyH_ready (rs := [11]) (by rw [hops]; kernel_rfl) (by simp) ?_
    refine AllReadyH.cons (o := { dst := some 26, op := Go.Op.buildSlice 49 1 #[(0, Go.Operand.tmp 25)], type := 49, pos := "sight.go:51", after := #[{ on := 10, ground := Go.Ground.data }], guard := none }) (by rw [hops]; kernel_rfl) (fun K hK => ?_) ?_
    · rw [if_pos (by rw [hops]; kernel_rfl)]
      go_simp
      have hal : Below w'.heap.size w' (w'.alloc (.cells #[.int .i64 ex, .int .i64 eb, .int .i64 eh] 26)) := (Below.refl _ _).alloc (Nat.le_refl _) _
      exact hK.out _ _ (hw.trans (hal.mono hw.size)) (fun hwn => S0_1_2_3_4_5_6_7_8_9_10_11.out (w'.alloc (.cells #[.int .i64 ex, .int .i64 eb, .int .i64 eh] 26)) b6 w'.heap.size hwn ((hal.cell (p := ⟨b6, 0, none⟩) (World.block_lt_of_cell? _ _ f6_0)).trans f6_0) (by go_simp) (by go_simp) (by go_simp))
    exact AllReadyH.nil
  have S0_1_2_3_4_5_6_7_9_10_11 : Kp (∀ (w' : World) (b6 : Nat) (b11 : Nat), Below W1.heap.size W1 w' → w'.cell? ⟨b6, 0, none⟩ = some (.int .i64 h) → w'.cell? ⟨b11, 0, none⟩ = some (.int .i64 ex) → w'.cell? ⟨b11, 1, none⟩ = some (.int .i64 eb) → w'.cell? ⟨b11, 2, none⟩ = some (.int .i64 eh) → wpAnyH Try.prog .any ops Qp (fun w' => Below W1.heap.size W1 w') 3 #[true, true, true, true, true, true, true, true, false, true, true, true, false, false] { tmps := #[.agg #[.int .i64 wd, .int .i64 dp, .slice g M c], .agg #[.int .i64 ex, .int .i64 eb, .int .i64 eh], .int .i64 x, .int .i64 y, .int .i64 h, .pointer (some ⟨B, 0, none⟩), .pointer (some ⟨B + 1, 0, none⟩), undef, undef, undef, .int .i64 0, .int .i64 0, .int .i64 0, undef, undef, .agg #[.int .i64 wd, .int .i64 dp, .slice g M c], .int .i64 x, .int .i64 y, .bool true, .bool true, .int .i64 h, .slice (some ⟨b6, 0, none⟩) 1 1, .bool Q, undef, .agg #[.int .i64 wd, .int .i64 dp, .slice g M c], .agg #[.int .i64 ex, .int .i64 eb, .int .i64 eh], .slice (some ⟨b11, 0, none⟩) 1 1, undef, undef, undef, undef, undef, undef, undef, undef, undef, undef, undef, undef, undef, undef, undef, undef, undef, undef, undef], defers := [] } w') := by
    refine ⟨?_⟩
    intro w' b6 b11 hw f6_0 f11_0 f11_1 f11_2
    refine wpAnyH_take (i := 8) (oi := { dst := some 23, op := Go.Op.pick (Go.Operand.tmp 19) (Go.Operand.tmp 22) (Go.Operand.const (Go.Value.bool false)), type := 4, pos := "sight.go:51", after := #[{ on := 4, ground := Go.Ground.data }, { on := 7, ground := Go.Ground.data }], guard := none }) (v := .bool Q) (by rw [hops]; kernel_rfl) (by rw [hops]; kernel_rfl) (by rw [hops]; kernel_rfl) (by rw [hops]; kernel_rfl) (fun c a w h => HQP.out c a _ _ w h) (Or.inl ⟨by rw [hops]; kernel_rfl, by intro w _; go_simp⟩) hw ?_
    simp only [Act.put, List.setIfInBounds_toArray, List.set_cons_zero, List.set_cons_succ]
    refine wpAnyH_ready (rs := [12]) (by rw [hops]; kernel_rfl) (by simp) ?_
    refine AllReadyH.cons (o := { dst := some 27, op := Go.Op.call { callee := Go.Callee.value (Go.Operand.func 46), args := #[Go.Operand.tmp 23, Go.Operand.tmp 24, Go.Operand.tmp 26], argTypes := #[4, 24, 49] }, type := 28, pos := "sight.go:51", after := #[{ on := 8, ground := Go.Ground.data }, { on := 9, ground := Go.Ground.data }, { on := 11, ground := Go.Ground.data }, { on := 7, ground := Go.Ground.chain }], guard := none }) (by rw [hops]; kernel_rfl) (fun K hK => ?_) ?_
    · rw [if_pos (by rw [hops]; kernel_rfl)]
      go_simp
      refine (HCK.out _ _ (HB1.out.trans (hw.mono HB1.out.size)) (es_one (e := ⟨ex, eb, eh⟩) f11_0 f11_1 f11_2)).mono ?_
      rintro en w5 ⟨rfl, hb5⟩
      exact hK.out _ _ (hw.trans (hb5.mono hw.size)) (fun hwn => S0_1_2_3_4_5_6_7_8_9_10_11_12.out w5 b6 b11 hwn ((hb5.cell (p := ⟨b6, 0, none⟩) (World.block_lt_of_cell? _ _ f6_0)).trans f6_0) ((hb5.cell (p := ⟨b11, 0, none⟩) (World.block_lt_of_cell? _ _ f11_0)).trans f11_0) ((hb5.cell (p := ⟨b11, 1, none⟩) (World.block_lt_of_cell? _ _ f11_1)).trans f11_1) ((hb5.cell (p := ⟨b11, 2, none⟩) (World.block_lt_of_cell? _ _ f11_2)).trans f11_2))
    exact AllReadyH.nil
  have S0_1_2_3_4_5_6_9_10_11 : Kp (∀ (w' : World) (b6 : Nat) (b11 : Nat), Below W1.heap.size W1 w' → w'.cell? ⟨b6, 0, none⟩ = some (.int .i64 h) → w'.cell? ⟨b11, 0, none⟩ = some (.int .i64 ex) → w'.cell? ⟨b11, 1, none⟩ = some (.int .i64 eb) → w'.cell? ⟨b11, 2, none⟩ = some (.int .i64 eh) → wpAnyH Try.prog .any ops Qp (fun w' => Below W1.heap.size W1 w') 4 #[true, true, true, true, true, true, true, false, false, true, true, true, false, false] { tmps := #[.agg #[.int .i64 wd, .int .i64 dp, .slice g M c], .agg #[.int .i64 ex, .int .i64 eb, .int .i64 eh], .int .i64 x, .int .i64 y, .int .i64 h, .pointer (some ⟨B, 0, none⟩), .pointer (some ⟨B + 1, 0, none⟩), undef, undef, undef, .int .i64 0, .int .i64 0, .int .i64 0, undef, undef, .agg #[.int .i64 wd, .int .i64 dp, .slice g M c], .int .i64 x, .int .i64 y, .bool true, .bool true, .int .i64 h, .slice (some ⟨b6, 0, none⟩) 1 1, undef, undef, .agg #[.int .i64 wd, .int .i64 dp, .slice g M c], .agg #[.int .i64 ex, .int .i64 eb, .int .i64 eh], .slice (some ⟨b11, 0, none⟩) 1 1, undef, undef, undef, undef, undef, undef, undef, undef, undef, undef, undef, undef, undef, undef, undef, undef, undef, undef, undef], defers := [] } w') := by
    refine ⟨?_⟩
    intro w' b6 b11 hw f6_0 f11_0 f11_1 f11_2
    refine wpAnyH_ready (rs := [7]) (by rw [hops]; kernel_rfl) (by simp) ?_
    refine AllReadyH.cons (o := { dst := some 22, op := Go.Op.call { callee := Go.Callee.value (Go.Operand.func 51), args := #[Go.Operand.const (Go.Value.int Go.IntKind.i64 0), Go.Operand.const (Go.Value.int Go.IntKind.i64 3000), Go.Operand.tmp 21], argTypes := #[3, 3, 22] }, type := 4, pos := "sight.go:51", after := #[{ on := 6, ground := Go.Ground.data }, { on := 4, ground := Go.Ground.chain }, { on := 4, ground := Go.Ground.guard }], guard := some (4, true) }) (by rw [hops]; kernel_rfl) (fun K hK => ?_) ?_
    · rw [if_pos (by rw [hops]; kernel_rfl)]
      go_simp
      refine (HWI.out _ _ (is_one f6_0)).mono ?_
      rintro en w5 ⟨rfl, hb5⟩
      have hb5 : Below w'.heap.size w' w5 := by rw [← hb5]; exact Below.refl _ _
      exact hK.out _ _ (hw.trans (hb5.mono hw.size)) (fun hwn => S0_1_2_3_4_5_6_7_9_10_11.out w5 b6 b11 hwn ((hb5.cell (p := ⟨b6, 0, none⟩) (World.block_lt_of_cell? _ _ f6_0)).trans f6_0) ((hb5.cell (p := ⟨b11, 0, none⟩) (World.block_lt_of_cell? _ _ f11_0)).trans f11_0) ((hb5.cell (p := ⟨b11, 1, none⟩) (World.block_lt_of_cell? _ _ f11_1)).trans f11_1) ((hb5.cell (p := ⟨b11, 2, none⟩) (World.block_lt_of_cell? _ _ f11_2)).trans f11_2))
    exact AllReadyH.nil
  have S0_1_2_3_4_5_6_9_10 : Kp (∀ (w' : World) (b6 : Nat), Below W1.heap.size W1 w' → w'.cell? ⟨b6, 0, none⟩ = some (.int .i64 h) → wpAnyH Try.prog .any ops Qp (fun w' => Below W1.heap.size W1 w') 5 #[true, true, true, true, true, true, true, false, false, true, true, false, false, false] { tmps := #[.agg #[.int .i64 wd, .int .i64 dp, .slice g M c], .agg #[.int .i64 ex, .int .i64 eb, .int .i64 eh], .int .i64 x, .int .i64 y, .int .i64 h, .pointer (some ⟨B, 0, none⟩), .pointer (some ⟨B + 1, 0, none⟩), undef, undef, undef, .int .i64 0, .int .i64 0, .int .i64 0, undef, undef, .agg #[.int .i64 wd, .int .i64 dp, .slice g M c], .int .i64 x, .int .i64 y, .bool true, .bool true, .int .i64 h, .slice (some ⟨b6, 0, none⟩) 1 1, undef, undef, .agg #[.int .i64 wd, .int .i64 dp, .slice g M c], .agg #[.int .i64 ex, .int .i64 eb, .int .i64 eh], undef, undef, undef, undef, undef, undef, undef, undef, undef, undef, undef, undef, undef, undef, undef, undef, undef, undef, undef, undef], defers := [] } w') := by
    refine ⟨?_⟩
    intro w' b6 hw f6_0
    refine wpAnyH_ready (rs := [7, 11]) (by rw [hops]; kernel_rfl) (by simp) ?_
    refine AllReadyH.cons (o := { dst := some 22, op := Go.Op.call { callee := Go.Callee.value (Go.Operand.func 51), args := #[Go.Operand.const (Go.Value.int Go.IntKind.i64 0), Go.Operand.const (Go.Value.int Go.IntKind.i64 3000), Go.Operand.tmp 21], argTypes := #[3, 3, 22] }, type := 4, pos := "sight.go:51", after := #[{ on := 6, ground := Go.Ground.data }, { on := 4, ground := Go.Ground.chain }, { on := 4, ground := Go.Ground.guard }], guard := some (4, true) }) (by rw [hops]; kernel_rfl) (fun K hK => ?_) ?_
    · rw [if_pos (by rw [hops]; kernel_rfl)]
      go_simp
      refine (HWI.out _ _ (is_one f6_0)).mono ?_
      rintro en w5 ⟨rfl, hb5⟩
      have hb5 : Below w'.heap.size w' w5 := by rw [← hb5]; exact Below.refl _ _
      exact hK.out _ _ (hw.trans (hb5.mono hw.size)) (fun hwn => S0_1_2_3_4_5_6_7_9_10.out w5 b6 hwn ((hb5.cell (p := ⟨b6, 0, none⟩) (World.block_lt_of_cell? _ _ f6_0)).trans f6_0))
    refine AllReadyH.cons (o := { dst := some 26, op := Go.Op.buildSlice 49 1 #[(0, Go.Operand.tmp 25)], type := 49, pos := "sight.go:51", after := #[{ on := 10, ground := Go.Ground.data }], guard := none }) (by rw [hops]; kernel_rfl) (fun K hK => ?_) ?_
    · rw [if_pos (by rw [hops]; kernel_rfl)]
      go_simp
      have hal : Below w'.heap.size w' (w'.alloc (.cells #[.int .i64 ex, .int .i64 eb, .int .i64 eh] 26)) := (Below.refl _ _).alloc (Nat.le_refl _) _
      exact hK.out _ _ (hw.trans (hal.mono hw.size)) (fun hwn => S0_1_2_3_4_5_6_9_10_11.out (w'.alloc (.cells #[.int .i64 ex, .int .i64 eb, .int .i64 eh] 26)) b6 w'.heap.size hwn ((hal.cell (p := ⟨b6, 0, none⟩) (World.block_lt_of_cell? _ _ f6_0)).trans f6_0) (by go_simp) (by go_simp) (by go_simp))
    exact AllReadyH.nil
  have S0_1_2_3_4_5_9_10_11 : Kp (∀ (w' : World) (b11 : Nat), Below W1.heap.size W1 w' → w'.cell? ⟨b11, 0, none⟩ = some (.int .i64 ex) → w'.cell? ⟨b11, 1, none⟩ = some (.int .i64 eb) → w'.cell? ⟨b11, 2, none⟩ = some (.int .i64 eh) → wpAnyH Try.prog .any ops Qp (fun w' => Below W1.heap.size W1 w') 5 #[true, true, true, true, true, true, false, false, false, true, true, true, false, false] { tmps := #[.agg #[.int .i64 wd, .int .i64 dp, .slice g M c], .agg #[.int .i64 ex, .int .i64 eb, .int .i64 eh], .int .i64 x, .int .i64 y, .int .i64 h, .pointer (some ⟨B, 0, none⟩), .pointer (some ⟨B + 1, 0, none⟩), undef, undef, undef, .int .i64 0, .int .i64 0, .int .i64 0, undef, undef, .agg #[.int .i64 wd, .int .i64 dp, .slice g M c], .int .i64 x, .int .i64 y, .bool true, .bool true, .int .i64 h, undef, undef, undef, .agg #[.int .i64 wd, .int .i64 dp, .slice g M c], .agg #[.int .i64 ex, .int .i64 eb, .int .i64 eh], .slice (some ⟨b11, 0, none⟩) 1 1, undef, undef, undef, undef, undef, undef, undef, undef, undef, undef, undef, undef, undef, undef, undef, undef, undef, undef, undef], defers := [] } w') := by
    refine ⟨?_⟩
    intro w' b11 hw f11_0 f11_1 f11_2
    refine wpAnyH_ready (rs := [6]) (by rw [hops]; kernel_rfl) (by simp) ?_
    refine AllReadyH.cons (o := { dst := some 21, op := Go.Op.buildSlice 22 1 #[(0, Go.Operand.tmp 20)], type := 22, pos := "sight.go:51", after := #[{ on := 5, ground := Go.Ground.data }, { on := 4, ground := Go.Ground.guard }], guard := some (4, true) }) (by rw [hops]; kernel_rfl) (fun K hK => ?_) ?_
    · rw [if_pos (by rw [hops]; kernel_rfl)]
      go_simp
      have hal : Below w'.heap.size w' (w'.alloc (.cells #[.int .i64 h] 3)) := (Below.refl _ _).alloc (Nat.le_refl _) _
      exact hK.out _ _ (hw.trans (hal.mono hw.size)) (fun hwn => S0_1_2_3_4_5_6_9_10_11.out (w'.alloc (.cells #[.int .i64 h] 3)) w'.heap.size b11 hwn (by go_simp) ((hal.cell (p := ⟨b11, 0, none⟩) (World.block_lt_of_cell? _ _ f11_0)).trans f11_0) ((hal.cell (p := ⟨b11, 1, none⟩) (World.block_lt_of_cell? _ _ f11_1)).trans f11_1) ((hal.cell (p := ⟨b11, 2, none⟩) (World.block_lt_of_cell? _ _ f11_2)).trans f11_2))
    exact AllReadyH.nil
  have S0_1_2_3_9_10 : Kp (∀ (w' : World), Below W1.heap.size W1 w' → wpAnyH Try.prog .any ops Qp (fun w' => Below W1.heap.size W1 w') 8 #[true, true, true, true, false, false, false, false, false, true, true, false, false, false] { tmps := #[.agg #[.int .i64 wd, .int .i64 dp, .slice g M c], .agg #[.int .i64 ex, .int .i64 eb, .int .i64 eh], .int .i64 x, .int .i64 y, .int .i64 h, .pointer (some ⟨B, 0, none⟩), .pointer (some ⟨B + 1, 0, none⟩), undef, undef, undef, .int .i64 0, .int .i64 0, .int .i64 0, undef, undef, .agg #[.int .i64 wd, .int .i64 dp, .slice g M c], .int .i64 x, .int .i64 y, .bool true, undef, undef, undef, undef, undef, .agg #[.int .i64 wd, .int .i64 dp, .slice g M c], .agg #[.int .i64 ex, .int .i64 eb, .int .i64 eh], undef, undef, undef, undef, undef, undef, undef, undef, undef, undef, undef, undef, undef, undef, undef, undef, undef, undef, undef, undef], defers := [] } w') := by
    refine ⟨?_⟩
    intro w' hw
    refine wpAnyH_take (i := 4) (oi := { dst := some 19, op := Go.Op.move (Go.Operand.tmp 18), type := 4, pos := "sight.go:51", after := #[{ on := 3, ground := Go.Ground.data }, { on := 3, ground := Go.Ground.chain }], guard := none }) (v := .bool true) (by rw [hops]; kernel_rfl) (by rw [hops]; kernel_rfl) (by rw [hops]; kernel_rfl) (by rw [hops]; kernel_rfl) (fun c a w h => HQP.out c a _ _ w h) (Or.inl ⟨by rw [hops]; kernel_rfl, by intro w _; go_simp⟩) hw ?_
    simp only [Act.put, List.setIfInBounds_toArray, List.set_cons_zero, List.set_cons_succ]
    refine wpAnyH_take (i := 5) (oi := { dst := some 20, op := Go.Op.move (Go.Operand.tmp 4), type := 3, pos := "sight.go:51", after := #[{ on := 4, ground := Go.Ground.guard }], guard := some (4, true) }) (v := .int .i64 h) (by rw [hops]; kernel_rfl) (by rw [hops]; kernel_rfl) (by rw [hops]; kernel_rfl) (by rw [hops]; kernel_rfl) (fun c a w h => HQP.out c a _ _ w h) (Or.inl ⟨by rw [hops]; kernel_rfl, by intro w _; go_simp⟩) hw ?_
    simp only [Act.put, List.setIfInBounds_toArray, List.set_cons_zero, List.set_cons_succ]
    refine wpAnyH_ready (rs := [6, 11]) (by rw [hops]; kernel_rfl) (by simp) ?_
    refine AllReadyH.cons (o := { dst := some 21, op := Go.Op.buildSlice 22 1 #[(0, Go.Operand.tmp 20)], type := 22, pos := "sight.go:51", after := #[{ on := 5, ground := Go.Ground.data }, { on := 4, ground := Go.Ground.guard }], guard := some (4, true) }) (by rw [hops]; kernel_rfl) (fun K hK => ?_) ?_
    · rw [if_pos (by rw [hops]; kernel_rfl)]
      go_simp
      have hal : Below w'.heap.size w' (w'.alloc (.cells #[.int .i64 h] 3)) := (Below.refl _ _).alloc (Nat.le_refl _) _
      exact hK.out _ _ (hw.trans (hal.mono hw.size)) (fun hwn => S0_1_2_3_4_5_6_9_10.out (w'.alloc (.cells #[.int .i64 h] 3)) w'.heap.size hwn (by go_simp))
    refine AllReadyH.cons (o := { dst := some 26, op := Go.Op.buildSlice 49 1 #[(0, Go.Operand.tmp 25)], type := 49, pos := "sight.go:51", after := #[{ on := 10, ground := Go.Ground.data }], guard := none }) (by rw [hops]; kernel_rfl) (fun K hK => ?_) ?_
    · rw [if_pos (by rw [hops]; kernel_rfl)]
      go_simp
      have hal : Below w'.heap.size w' (w'.alloc (.cells #[.int .i64 ex, .int .i64 eb, .int .i64 eh] 26)) := (Below.refl _ _).alloc (Nat.le_refl _) _
      exact hK.out _ _ (hw.trans (hal.mono hw.size)) (fun hwn => S0_1_2_3_4_5_9_10_11.out (w'.alloc (.cells #[.int .i64 ex, .int .i64 eb, .int .i64 eh] 26)) w'.heap.size hwn (by go_simp) (by go_simp) (by go_simp))
    exact AllReadyH.nil
  have S0_1_2_3_9_10_11 : Kp (∀ (w' : World) (b11 : Nat), Below W1.heap.size W1 w' → w'.cell? ⟨b11, 0, none⟩ = some (.int .i64 ex) → w'.cell? ⟨b11, 1, none⟩ = some (.int .i64 eb) → w'.cell? ⟨b11, 2, none⟩ = some (.int .i64 eh) → wpAnyH Try.prog .any ops Qp (fun w' => Below W1.heap.size W1 w') 7 #[true, true, true, true, false, false, false, false, false, true, true, true, false, false] { tmps := #[.agg #[.int .i64 wd, .int .i64 dp, .slice g M c], .agg #[.int .i64 ex, .int .i64 eb, .int .i64 eh], .int .i64 x, .int .i64 y, .int .i64 h, .pointer (some ⟨B, 0, none⟩), .pointer (some ⟨B + 1, 0, none⟩), undef, undef, undef, .int .i64 0, .int .i64 0, .int .i64 0, undef, undef, .agg #[.int .i64 wd, .int .i64 dp, .slice g M c], .int .i64 x, .int .i64 y, .bool true, undef, undef, undef, undef, undef, .agg #[.int .i64 wd, .int .i64 dp, .slice g M c], .agg #[.int .i64 ex, .int .i64 eb, .int .i64 eh], .slice (some ⟨b11, 0, none⟩) 1 1, undef, undef, undef, undef, undef, undef, undef, undef, undef, undef, undef, undef, undef, undef, undef, undef, undef, undef, undef], defers := [] } w') := by
    refine ⟨?_⟩
    intro w' b11 hw f11_0 f11_1 f11_2
    refine wpAnyH_take (i := 4) (oi := { dst := some 19, op := Go.Op.move (Go.Operand.tmp 18), type := 4, pos := "sight.go:51", after := #[{ on := 3, ground := Go.Ground.data }, { on := 3, ground := Go.Ground.chain }], guard := none }) (v := .bool true) (by rw [hops]; kernel_rfl) (by rw [hops]; kernel_rfl) (by rw [hops]; kernel_rfl) (by rw [hops]; kernel_rfl) (fun c a w h => HQP.out c a _ _ w h) (Or.inl ⟨by rw [hops]; kernel_rfl, by intro w _; go_simp⟩) hw ?_
    simp only [Act.put, List.setIfInBounds_toArray, List.set_cons_zero, List.set_cons_succ]
    refine wpAnyH_take (i := 5) (oi := { dst := some 20, op := Go.Op.move (Go.Operand.tmp 4), type := 3, pos := "sight.go:51", after := #[{ on := 4, ground := Go.Ground.guard }], guard := some (4, true) }) (v := .int .i64 h) (by rw [hops]; kernel_rfl) (by rw [hops]; kernel_rfl) (by rw [hops]; kernel_rfl) (by rw [hops]; kernel_rfl) (fun c a w h => HQP.out c a _ _ w h) (Or.inl ⟨by rw [hops]; kernel_rfl, by intro w _; go_simp⟩) hw ?_
    simp only [Act.put, List.setIfInBounds_toArray, List.set_cons_zero, List.set_cons_succ]
    refine wpAnyH_ready (rs := [6]) (by rw [hops]; kernel_rfl) (by simp) ?_
    refine AllReadyH.cons (o := { dst := some 21, op := Go.Op.buildSlice 22 1 #[(0, Go.Operand.tmp 20)], type := 22, pos := "sight.go:51", after := #[{ on := 5, ground := Go.Ground.data }, { on := 4, ground := Go.Ground.guard }], guard := some (4, true) }) (by rw [hops]; kernel_rfl) (fun K hK => ?_) ?_
    · rw [if_pos (by rw [hops]; kernel_rfl)]
      go_simp
      have hal : Below w'.heap.size w' (w'.alloc (.cells #[.int .i64 h] 3)) := (Below.refl _ _).alloc (Nat.le_refl _) _
      exact hK.out _ _ (hw.trans (hal.mono hw.size)) (fun hwn => S0_1_2_3_4_5_6_9_10_11.out (w'.alloc (.cells #[.int .i64 h] 3)) w'.heap.size b11 hwn (by go_simp) ((hal.cell (p := ⟨b11, 0, none⟩) (World.block_lt_of_cell? _ _ f11_0)).trans f11_0) ((hal.cell (p := ⟨b11, 1, none⟩) (World.block_lt_of_cell? _ _ f11_1)).trans f11_1) ((hal.cell (p := ⟨b11, 2, none⟩) (World.block_lt_of_cell? _ _ f11_2)).trans f11_2))
    exact AllReadyH.nil
  have S0_1_2_9_10_11 : Kp (∀ (w' : World) (b11 : Nat), Below W1.heap.size W1 w' → w'.cell? ⟨b11, 0, none⟩ = some (.int .i64 ex) → w'.cell? ⟨b11, 1, none⟩ = some (.int .i64 eb) → w'.cell? ⟨b11, 2, none⟩ = some (.int .i64 eh) → wpAnyH Try.prog .any ops Qp (fun w' => Below W1.heap.size W1 w') 8 #[true, true, true, false, false, false, false, false, false, true, true, true, false, false] { tmps := #[.agg #[.int .i64 wd, .int .i64 dp, .slice g M c], .agg #[.int .i64 ex, .int .i64 eb, .int .i64 eh], .int .i64 x, .int .i64 y, .int .i64 h, .pointer (some ⟨B, 0, none⟩), .pointer (some ⟨B + 1, 0, none⟩), undef, undef, undef, .int .i64 0, .int .i64 0, .int .i64 0, undef, undef, .agg #[.int .i64 wd, .int .i64 dp, .slice g M c], .int .i64 x, .int .i64 y, undef, undef, undef, undef, undef, undef, .agg #[.int .i64 wd, .int .i64 dp, .slice g M c], .agg #[.int .i64 ex, .int .i64 eb, .int .i64 eh], .slice (some ⟨b11, 0, none⟩) 1 1, undef, undef, undef, undef, undef, undef, undef, undef, undef, undef, undef, undef, undef, undef, undef, undef, undef, undef, undef], defers := [] } w') := by
    refine ⟨?_⟩
    intro w' b11 hw f11_0 f11_1 f11_2
    refine wpAnyH_ready (rs := [3]) (by rw [hops]; kernel_rfl) (by simp) ?_
    refine AllReadyH.cons (o := { dst := some 18, op := Go.Op.call { callee := Go.Callee.value (Go.Operand.func 47), args := #[Go.Operand.tmp 15, Go.Operand.tmp 16, Go.Operand.tmp 17], argTypes := #[24, 3, 3] }, type := 4, pos := "sight.go:51", after := #[{ on := 0, ground := Go.Ground.data }, { on := 1, ground := Go.Ground.data }, { on := 2, ground := Go.Ground.data }], guard := none }) (by rw [hops]; kernel_rfl) (fun K hK => ?_) ?_
    · rw [if_pos (by rw [hops]; kernel_rfl)]
      go_simp
      refine (HIC.out _).mono ?_
      rintro en w5 ⟨rfl, hb5⟩
      exact hK.out _ _ (hw.trans (hb5.mono hw.size)) (fun hwn => S0_1_2_3_9_10_11.out w5 b11 hwn ((hb5.cell (p := ⟨b11, 0, none⟩) (World.block_lt_of_cell? _ _ f11_0)).trans f11_0) ((hb5.cell (p := ⟨b11, 1, none⟩) (World.block_lt_of_cell? _ _ f11_1)).trans f11_1) ((hb5.cell (p := ⟨b11, 2, none⟩) (World.block_lt_of_cell? _ _ f11_2)).trans f11_2))
    exact AllReadyH.nil
  have S : Kp (∀ (w' : World), Below W1.heap.size W1 w' → wpAnyH Try.prog .any ops Qp (fun w' => Below W1.heap.size W1 w') 14 #[false, false, false, false, false, false, false, false, false, false, false, false, false, false] { tmps := #[.agg #[.int .i64 wd, .int .i64 dp, .slice g M c], .agg #[.int .i64 ex, .int .i64 eb, .int .i64 eh], .int .i64 x, .int .i64 y, .int .i64 h, .pointer (some ⟨B, 0, none⟩), .pointer (some ⟨B + 1, 0, none⟩), undef, undef, undef, .int .i64 0, .int .i64 0, .int .i64 0, undef, undef, undef, undef, undef, undef, undef, undef, undef, undef, undef, undef, undef, undef, undef, undef, undef, undef, undef, undef, undef, undef, undef, undef, undef, undef, undef, undef, undef, undef, undef, undef, undef], defers := [] } w') := by
    refine ⟨?_⟩
    intro w' hw
    refine wpAnyH_take (i := 0) (oi := { dst := some 15, op := Go.Op.load 24 (Go.Operand.tmp 5), type := 24, pos := "sight.go:51", after := #[], guard := none }) (v := .agg #[.int .i64 wd, .int .i64 dp, .slice g M c]) (by rw [hops]; kernel_rfl) (by rw [hops]; kernel_rfl) (by rw [hops]; kernel_rfl) (by rw [hops]; kernel_rfl) (fun c a w h => HQP.out c a _ _ w h) (Or.inl ⟨by rw [hops]; kernel_rfl, by intro w hwS; obtain ⟨q0, q1, q2, q3, q4, q5⟩ := HALL.out w hwS; go_simp⟩) hw ?_
    simp only [Act.put, List.setIfInBounds_toArray, List.set_cons_zero, List.set_cons_succ]
    refine wpAnyH_take (i := 1) (oi := { dst := some 16, op := Go.Op.move (Go.Operand.tmp 2), type := 3, pos := "sight.go:51", after := #[], guard := none }) (v := .int .i64 x) (by rw [hops]; kernel_rfl) (by rw [hops]; kernel_rfl) (by rw [hops]; kernel_rfl) (by rw [hops]; kernel_rfl) (fun c a w h => HQP.out c a _ _ w h) (Or.inl ⟨by rw [hops]; kernel_rfl, by intro w _; go_simp⟩) hw ?_
    simp only [Act.put, List.setIfInBounds_toArray, List.set_cons_zero, List.set_cons_succ]
    refine wpAnyH_take (i := 2) (oi := { dst := some 17, op := Go.Op.move (Go.Operand.tmp 3), type := 3, pos := "sight.go:51", after := #[], guard := none }) (v := .int .i64 y) (by rw [hops]; kernel_rfl) (by rw [hops]; kernel_rfl) (by rw [hops]; kernel_rfl) (by rw [hops]; kernel_rfl) (fun c a w h => HQP.out c a _ _ w h) (Or.inl ⟨by rw [hops]; kernel_rfl, by intro w _; go_simp⟩) hw ?_
    simp only [Act.put, List.setIfInBounds_toArray, List.set_cons_zero, List.set_cons_succ]
    refine wpAnyH_take (i := 9) (oi := { dst := some 24, op := Go.Op.load 24 (Go.Operand.tmp 5), type := 24, pos := "sight.go:51", after := #[], guard := none }) (v := .agg #[.int .i64 wd, .int .i64 dp, .slice g M c]) (by rw [hops]; kernel_rfl) (by rw [hops]; kernel_rfl) (by rw [hops]; kernel_rfl) (by rw [hops]; kernel_rfl) (fun c a w h => HQP.out c a _ _ w h) (Or.inl ⟨by rw [hops]; kernel_rfl, by intro w hwS; obtain ⟨q0, q1, q2, q3, q4, q5⟩ := HALL.out w hwS; go_simp⟩) hw ?_
    simp only [Act.put, List.setIfInBounds_toArray, List.set_cons_zero, List.set_cons_succ]
    refine wpAnyH_take (i := 10) (oi := { dst := some 25, op := Go.Op.load 26 (Go.Operand.tmp 6), type := 26, pos := "sight.go:51", after := #[], guard := none }) (v := .agg #[.int .i64 ex, .int .i64 eb, .int .i64 eh]) (by rw [hops]; kernel_rfl) (by rw [hops]; kernel_rfl) (by rw [hops]; kernel_rfl) (by rw [hops]; kernel_rfl) (fun c a w h => HQP.out c a _ _ w h) (Or.inl ⟨by rw [hops]; kernel_rfl, by intro w hwS; obtain ⟨q0, q1, q2, q3, q4, q5⟩ := HALL.out w hwS; go_simp⟩) hw ?_
    simp only [Act.put, List.setIfInBounds_toArray, List.set_cons_zero, List.set_cons_succ]
    refine wpAnyH_ready (rs := [3, 11]) (by rw [hops]; kernel_rfl) (by simp) ?_
    refine AllReadyH.cons (o := { dst := some 18, op := Go.Op.call { callee := Go.Callee.value (Go.Operand.func 47), args := #[Go.Operand.tmp 15, Go.Operand.tmp 16, Go.Operand.tmp 17], argTypes := #[24, 3, 3] }, type := 4, pos := "sight.go:51", after := #[{ on := 0, ground := Go.Ground.data }, { on := 1, ground := Go.Ground.data }, { on := 2, ground := Go.Ground.data }], guard := none }) (by rw [hops]; kernel_rfl) (fun K hK => ?_) ?_
    · rw [if_pos (by rw [hops]; kernel_rfl)]
      go_simp
      refine (HIC.out _).mono ?_
      rintro en w5 ⟨rfl, hb5⟩
      exact hK.out _ _ (hw.trans (hb5.mono hw.size)) (fun hwn => S0_1_2_3_9_10.out w5 hwn)
    refine AllReadyH.cons (o := { dst := some 26, op := Go.Op.buildSlice 49 1 #[(0, Go.Operand.tmp 25)], type := 49, pos := "sight.go:51", after := #[{ on := 10, ground := Go.Ground.data }], guard := none }) (by rw [hops]; kernel_rfl) (fun K hK => ?_) ?_
    · rw [if_pos (by rw [hops]; kernel_rfl)]
      go_simp
      have hal : Below w'.heap.size w' (w'.alloc (.cells #[.int .i64 ex, .int .i64 eb, .int .i64 eh] 26)) := (Below.refl _ _).alloc (Nat.le_refl _) _
      exact hK.out _ _ (hw.trans (hal.mono hw.size)) (fun hwn => S0_1_2_9_10_11.out (w'.alloc (.cells #[.int .i64 ex, .int .i64 eb, .int .i64 eh] 26)) w'.heap.size hwn (by go_simp) (by go_simp) (by go_simp))
    exact AllReadyH.nil
  have hsz : ops.size = 14 := by rw [hops]; rfl
  refine wp_region_held_drew (S := fun w' => Below W1.heap.size W1 w') (by kernel_rfl) (Below.drew (Below.refl _ _)) (fun hw0 => ?_)
  rw [hsz]
  exact S.out _ hw0
set_option maxRecDepth 100000 in
set_option maxHeartbeats 4000000 in
theorem Hides_no (wd dp ex eb eh x y h : Int) (g : Option Addr) (M c : Nat) (ER : Int) (Q : Bool) (o : Option (Int × Int)) (w : World)
    (HIC : Kp (∀ W, Calls Try.prog 47 #[.agg #[.int .i64 wd, .int .i64 dp, .slice g M c], .int .i64 x, .int .i64 y] W fun e w' => e = .returned (.bool false) ∧ Below W.heap.size W w'))
    (HWI : Kp (∀ W u, IS W u [h] → Calls Try.prog 51 #[.int .i64 0, .int .i64 3000, u] W fun e w' => e = .returned (.bool Q) ∧ W = w'))
    (HCK : Kp (∀ W u, Below w.heap.size w W → ES W u [⟨ex, eb, eh⟩] → Calls Try.prog 46 #[.bool false, .agg #[.int .i64 wd, .int .i64 dp, .slice g M c], u] W fun e w' => e = .returned (.int .i64 ER) ∧ Below W.heap.size W w'))
    (HHD : Kp (ER = 0 → ∀ W, Below w.heap.size w W → Calls Try.prog 67 #[.agg #[.int .i64 wd, .int .i64 dp, .slice g M c, .int .i64 ex, .int .i64 eb, .int .i64 eh], .int .i64 x, .int .i64 y, .int .i64 h] W fun e w' => e = .returned (hidV o) ∧ Below W.heap.size W w')) :
    Calls Try.prog 31 #[.agg #[.int .i64 wd, .int .i64 dp, .slice g M c], .agg #[.int .i64 ex, .int .i64 eb, .int .i64 eh], .int .i64 x, .int .i64 y, .int .i64 h] w fun e w' => e = .returned (hidesV ER o) ∧ Below w.heap.size w w' := by
  go_enter Try.func31, Try.ntmps31
  go_wp2
  obtain ⟨W1, hW1⟩ : ∃ W, (w.alloc (.cells #[.int .i64 wd, .int .i64 dp, .slice g M c] 24)).alloc (.cells #[.int .i64 ex, .int .i64 eb, .int .i64 eh] 26) = W := ⟨_, rfl⟩
  obtain ⟨hb1, hall⟩ := boxes_start hW1
  rw [hW1]
  obtain ⟨B, hB⟩ : ∃ B, w.heap.size = B := ⟨_, rfl⟩
  rw [hB] at hall
  have HB1 := Kp.mk hb1
  have HALL := Kp.mk hall
  try simp only [hB]
  clear hW1 hb1 hall hB
  refine wp_region_noPanic ?_
  refine region_nm ?_
  intro ops Qp hops hQp
  have HQP : Kp (∀ c a d v w, Qp (.panic c) (Act.put a d v) w → Qp (.panic c) a w) := ⟨by subst hQp; intro c a d v w h; exact h⟩
  have HFIN : Kp (∀ (w' : World) (b11 : Nat), Below W1.heap.size W1 w' → Qp .normal { tmps := #[.agg #[.int .i64 wd, .int .i64 dp, .slice g M c], .agg #[.int .i64 ex, .int .i64 eb, .int .i64 eh], .int .i64 x, .int .i64 y, .int .i64 h, .pointer (some ⟨B, 0, none⟩), .pointer (some ⟨B + 1, 0, none⟩), undef, undef, undef, .int .i64 0, .int .i64 0, .int .i64 0, .int .i64 ER, undef, .agg #[.int .i64 wd, .int .i64 dp, .slice g M c], .int .i64 x, .int .i64 y, .bool false, .bool false, undef, undef, undef, .bool false, .agg #[.int .i64 wd, .int .i64 dp, .slice g M c], .agg #[.int .i64 ex, .int .i64 eb, .int .i64 eh], .slice (some ⟨b11, 0, none⟩) 1 1, .int .i64 ER, undef, undef, undef, undef, undef, undef, undef, undef, undef, undef, undef, undef, undef, undef, undef, undef, undef, undef], defers := [] } w') := by
    refine ⟨?_⟩
    intro w' b11 hw
    obtain ⟨q0, q1, q2, q3, q4, q5⟩ := HALL.out w' hw
    have HBW := Kp.mk (HB1.out.trans (hw.mono HB1.out.size))
    clear HQP hops hw
    subst hQp
    refine NoPanic.normal ?_
    by_cases hE : ER = 0
    · subst hE
      have HHX := Kp.mk (HHD.out rfl w' HBW.out)
      cases o with
      | none =>
        go_wp2_with fail
        refine (HHX.out).mono ?_
        rintro en w6 ⟨rfl, hb6⟩
        have HB6 := Kp.mk (HBW.out.trans (hb6.mono HBW.out.size))
        clear hb6
        simp only [hidV]
        go_wp2
        go_ret3
        exact ⟨rfl, HB6.out⟩
      | some p =>
        obtain ⟨pc, pr⟩ := p
        go_wp2_with fail
        refine (HHX.out).mono ?_
        rintro en w6 ⟨rfl, hb6⟩
        have HB6 := Kp.mk (HBW.out.trans (hb6.mono HBW.out.size))
        clear hb6
        simp only [hidV]
        go_wp2
        go_ret3
        exact ⟨rfl, HB6.out⟩
    · have i1 : (ER == (0 : Int)) = false := by simp [hE]
      have i2 : (ER != (0 : Int)) = true := by simp [hE]
      have HV : Kp (hidesV ER o = .tuple #[.int .i64 0, .int .i64 0, .int .i64 ER]) := ⟨by unfold hidesV; rw [if_neg hE]⟩
      clear hE
      go_wp2
      go_ret3
      exact ⟨by rw [HV.out]; rfl, HBW.out⟩
  have S0_1_2_3_4_5_6_7_8_9_10_11_12 : Kp (∀ (w' : World) (b11 : Nat), Below W1.heap.size W1 w' → w'.cell? ⟨b11, 0, none⟩ = some (.int .i64 ex) → w'.cell? ⟨b11, 1, none⟩ = some (.int .i64 eb) → w'.cell? ⟨b11, 2, none⟩ = some (.int .i64 eh) → wpAnyH Try.prog .any ops Qp (fun w' => Below W1.heap.size W1 w') 1 #[true, true, true, true, true, true, true, true, true, true, true, true, true, false] { tmps := #[.agg #[.int .i64 wd, .int .i64 dp, .slice g M c], .agg #[.int .i64 ex, .int .i64 eb, .int .i64 eh], .int .i64 x, .int .i64 y, .int .i64 h, .pointer (some ⟨B, 0, none⟩), .pointer (some ⟨B + 1, 0, none⟩), undef, undef, undef, .int .i64 0, .int .i64 0, .int .i64 0, undef, undef, .agg #[.int .i64 wd, .int .i64 dp, .slice g M c], .int .i64 x, .int .i64 y, .bool false, .bool false, undef, undef, undef, .bool false, .agg #[.int .i64 wd, .int .i64 dp, .slice g M c], .agg #[.int .i64 ex, .int .i64 eb, .int .i64 eh], .slice (some ⟨b11, 0, none⟩) 1 1, .int .i64 ER, undef, undef, undef, undef, undef, undef, undef, undef, undef, undef, undef, undef, undef, undef, undef, undef, undef, undef], defers := [] } w') := by
    refine ⟨?_⟩
    intro w' b11 hw f11_0 f11_1 f11_2
    refine wpAnyH_take (i := 13) (oi := { dst := some 13, op := Go.Op.assign (Go.Operand.tmp 27), type := 28, pos := "sight.go:51", after := #[{ on := 12, ground := Go.Ground.data }, { on := 12, ground := Go.Ground.chain }, { on := 0, ground := Go.Ground.phase }, { on := 1, ground := Go.Ground.phase }, { on := 2, ground := Go.Ground.phase }, { on := 3, ground := Go.Ground.phase }, { on := 4, ground := Go.Ground.phase }, { on := 5, ground := Go.Ground.phase }, { on := 6, ground := Go.Ground.phase }, { on := 7, ground := Go.Ground.phase }, { on := 8, ground := Go.Ground.phase }, { on := 9, ground := Go.Ground.phase }, { on := 10, ground := Go.Ground.phase }, { on := 11, ground := Go.Ground.phase }, { on := 12, ground := Go.Ground.phase }], guard := none }) (v := .int .i64 ER) (by rw [hops]; kernel_rfl) (by rw [hops]; kernel_rfl) (by rw [hops]; kernel_rfl) (by rw [hops]; kernel_rfl) (fun c a w h => HQP.out c a _ _ w h) (Or.inl ⟨by rw [hops]; kernel_rfl, by intro w _; go_simp⟩) hw ?_
    simp only [Act.put, List.setIfInBounds_toArray, List.set_cons_zero, List.set_cons_succ]
    refine wpAnyH_done (by rw [hops]; kernel_rfl) ?_ _
    exact HFIN.out w' b11 hw
  have S0_1_2_3_4_5_6_7_8_9_10_11 : Kp (∀ (w' : World) (b11 : Nat), Below W1.heap.size W1 w' → w'.cell? ⟨b11, 0, none⟩ = some (.int .i64 ex) → w'.cell? ⟨b11, 1, none⟩ = some (.int .i64 eb) → w'.cell? ⟨b11, 2, none⟩ = some (.int .i64 eh) → wpAnyH Try.prog .any ops Qp (fun w' => Below W1.heap.size W1 w') 2 #[true, true, true, true, true, true, true, true, true, true, true, true, false, false] { tmps := #[.agg #[.int .i64 wd, .int .i64 dp, .slice g M c], .agg #[.int .i64 ex, .int .i64 eb, .int .i64 eh], .int .i64 x, .int .i64 y, .int .i64 h, .pointer (some ⟨B, 0, none⟩), .pointer (some ⟨B + 1, 0, none⟩), undef, undef, undef, .int .i64 0, .int .i64 0, .int .i64 0, undef, undef, .agg #[.int .i64 wd, .int .i64 dp, .slice g M c], .int .i64 x, .int .i64 y, .bool false, .bool false, undef, undef, undef, .bool false, .agg #[.int .i64 wd, .int .i64 dp, .slice g M c], .agg #[.int .i64 ex, .int .i64 eb, .int .i64 eh], .slice (some ⟨b11, 0, none⟩) 1 1, undef, undef, undef, undef, undef, undef, undef, undef, undef, undef, undef, undef, undef, undef, undef, undef, undef, undef, undef], defers := [] } w') := by
    refine ⟨?_⟩
    intro w' b11 hw f11_0 f11_1 f11_2
    refine wpAnyH_ready (rs := [12]) (by rw [hops]; kernel_rfl) (by simp) ?_
    refine AllReadyH.cons (o := { dst := some 27, op := Go.Op.call { callee := Go.Callee.value (Go.Operand.func 46), args := #[Go.Operand.tmp 23, Go.Operand.tmp 24, Go.Operand.tmp 26], argTypes := #[4, 24, 49] }, type := 28, pos := "sight.go:51", after := #[{ on := 8, ground := Go.Ground.data }, { on := 9, ground := Go.Ground.data }, { on := 11, ground := Go.Ground.data }, { on := 7, ground := Go.Ground.chain }], guard := none }) (by rw [hops]; kernel_rfl) (fun K hK => ?_) ?_
    · rw [if_pos (by rw [hops]; kernel_rfl)]
      go_simp
      refine (HCK.out _ _ (HB1.out.trans (hw.mono HB1.out.size)) (es_one (e := ⟨ex, eb, eh⟩) f11_0 f11_1 f11_2)).mono ?_
      rintro en w5 ⟨rfl, hb5⟩
      exact hK.out _ _ (hw.trans (hb5.mono hw.size)) (fun hwn => S0_1_2_3_4_5_6_7_8_9_10_11_12.out w5 b11 hwn ((hb5.cell (p := ⟨b11, 0, none⟩) (World.block_lt_of_cell? _ _ f11_0)).trans f11_0) ((hb5.cell (p := ⟨b11, 1, none⟩) (World.block_lt_of_cell? _ _ f11_1)).trans f11_1) ((hb5.cell (p := ⟨b11, 2, none⟩) (World.block_lt_of_cell? _ _ f11_2)).trans f11_2))
    exact AllReadyH.nil
  have S0_1_2_3_9_10 : Kp (∀ (w' : World), Below W1.heap.size W1 w' → wpAnyH Try.prog .any ops Qp (fun w' => Below W1.heap.size W1 w') 8 #[true, true, true, true, false, false, false, false, false, true, true, false, false, false] { tmps := #[.agg #[.int .i64 wd, .int .i64 dp, .slice g M c], .agg #[.int .i64 ex, .int .i64 eb, .int .i64 eh], .int .i64 x, .int .i64 y, .int .i64 h, .pointer (some ⟨B, 0, none⟩), .pointer (some ⟨B + 1, 0, none⟩), undef, undef, undef, .int .i64 0, .int .i64 0, .int .i64 0, undef, undef, .agg #[.int .i64 wd, .int .i64 dp, .slice g M c], .int .i64 x, .int .i64 y, .bool false, undef, undef, undef, undef, undef, .agg #[.int .i64 wd, .int .i64 dp, .slice g M c], .agg #[.int .i64 ex, .int .i64 eb, .int .i64 eh], undef, undef, undef, undef, undef, undef, undef, undef, undef, undef, undef, undef, undef, undef, undef, undef, undef, undef, undef, undef], defers := [] } w') := by
    refine ⟨?_⟩
    intro w' hw
    refine wpAnyH_take (i := 4) (oi := { dst := some 19, op := Go.Op.move (Go.Operand.tmp 18), type := 4, pos := "sight.go:51", after := #[{ on := 3, ground := Go.Ground.data }, { on := 3, ground := Go.Ground.chain }], guard := none }) (v := .bool false) (by rw [hops]; kernel_rfl) (by rw [hops]; kernel_rfl) (by rw [hops]; kernel_rfl) (by rw [hops]; kernel_rfl) (fun c a w h => HQP.out c a _ _ w h) (Or.inl ⟨by rw [hops]; kernel_rfl, by intro w _; go_simp⟩) hw ?_
    simp only [Act.put, List.setIfInBounds_toArray, List.set_cons_zero, List.set_cons_succ]
    refine wpAnyH_take (i := 5) (oi := { dst := some 20, op := Go.Op.move (Go.Operand.tmp 4), type := 3, pos := "sight.go:51", after := #[{ on := 4, ground := Go.Ground.guard }], guard := some (4, true) }) (v := undef) (by rw [hops]; kernel_rfl) (by rw [hops]; kernel_rfl) (by rw [hops]; kernel_rfl) (by rw [hops]; kernel_rfl) (fun c a w h => HQP.out c a _ _ w h) (Or.inr ⟨by rw [hops]; kernel_rfl, rfl⟩) hw ?_
    simp only [Act.put, List.setIfInBounds_toArray, List.set_cons_zero, List.set_cons_succ]
    refine wpAnyH_take (i := 6) (oi := { dst := some 21, op := Go.Op.buildSlice 22 1 #[(0, Go.Operand.tmp 20)], type := 22, pos := "sight.go:51", after := #[{ on := 5, ground := Go.Ground.data }, { on := 4, ground := Go.Ground.guard }], guard := some (4, true) }) (v := undef) (by rw [hops]; kernel_rfl) (by rw [hops]; kernel_rfl) (by rw [hops]; kernel_rfl) (by rw [hops]; kernel_rfl) (fun c a w h => HQP.out c a _ _ w h) (Or.inr ⟨by rw [hops]; kernel_rfl, rfl⟩) hw ?_
    simp only [Act.put, List.setIfInBounds_toArray, List.set_cons_zero, List.set_cons_succ]
    refine wpAnyH_take (i := 7) (oi := { dst := some 22, op := Go.Op.call { callee := Go.Callee.value (Go.Operand.func 51), args := #[Go.Operand.const (Go.Value.int Go.IntKind.i64 0), Go.Operand.const (Go.Value.int Go.IntKind.i64 3000), Go.Operand.tmp 21], argTypes := #[3, 3, 22] }, type := 4, pos := "sight.go:51", after := #[{ on := 6, ground := Go.Ground.data }, { on := 4, ground := Go.Ground.chain }, { on := 4, ground := Go.Ground.guard }], guard := some (4, true) }) (v := undef) (by rw [hops]; kernel_rfl) (by rw [hops]; kernel_rfl) (by rw [hops]; kernel_rfl) (by rw [hops]; kernel_rfl) (fun c a w h => HQP.out c a _ _ w h) (Or.inr ⟨by rw [hops]; kernel_rfl, rfl⟩) hw ?_
    simp only [Act.put, List.setIfInBounds_toArray, List.set_cons_zero, List.set_cons_succ]
    refine wpAnyH_take (i := 8) (oi := { dst := some 23, op := Go.Op.pick (Go.Operand.tmp 19) (Go.Operand.tmp 22) (Go.Operand.const (Go.Value.bool false)), type := 4, pos := "sight.go:51", after := #[{ on := 4, ground := Go.Ground.data }, { on := 7, ground := Go.Ground.data }], guard := none }) (v := .bool false) (by rw [hops]; kernel_rfl) (by rw [hops]; kernel_rfl) (by rw [hops]; kernel_rfl) (by rw [hops]; kernel_rfl) (fun c a w h => HQP.out c a _ _ w h) (Or.inl ⟨by rw [hops]; kernel_rfl, by intro w _; go_simp⟩) hw ?_
    simp only [Act.put, List.setIfInBounds_toArray, List.set_cons_zero, List.set_cons_succ]
    refine wpAnyH_ready (rs := [11]) (by rw [hops]; kernel_rfl) (by simp) ?_
    refine AllReadyH.cons (o := { dst := some 26, op := Go.Op.buildSlice 49 1 #[(0, Go.Operand.tmp 25)], type := 49, pos := "sight.go:51", after := #[{ on := 10, ground := Go.Ground.data }], guard := none }) (by rw [hops]; kernel_rfl) (fun K hK => ?_) ?_
    · rw [if_pos (by rw [hops]; kernel_rfl)]
      go_simp
      have hal : Below w'.heap.size w' (w'.alloc (.cells #[.int .i64 ex, .int .i64 eb, .int .i64 eh] 26)) := (Below.refl _ _).alloc (Nat.le_refl _) _
      exact hK.out _ _ (hw.trans (hal.mono hw.size)) (fun hwn => S0_1_2_3_4_5_6_7_8_9_10_11.out (w'.alloc (.cells #[.int .i64 ex, .int .i64 eb, .int .i64 eh] 26)) w'.heap.size hwn (by go_simp) (by go_simp) (by go_simp))
    exact AllReadyH.nil
  have S0_1_2_3_9_10_11 : Kp (∀ (w' : World) (b11 : Nat), Below W1.heap.size W1 w' → w'.cell? ⟨b11, 0, none⟩ = some (.int .i64 ex) → w'.cell? ⟨b11, 1, none⟩ = some (.int .i64 eb) → w'.cell? ⟨b11, 2, none⟩ = some (.int .i64 eh) → wpAnyH Try.prog .any ops Qp (fun w' => Below W1.heap.size W1 w') 7 #[true, true, true, true, false, false, false, false, false, true, true, true, false, false] { tmps := #[.agg #[.int .i64 wd, .int .i64 dp, .slice g M c], .agg #[.int .i64 ex, .int .i64 eb, .int .i64 eh], .int .i64 x, .int .i64 y, .int .i64 h, .pointer (some ⟨B, 0, none⟩), .pointer (some ⟨B + 1, 0, none⟩), undef, undef, undef, .int .i64 0, .int .i64 0, .int .i64 0, undef, undef, .agg #[.int .i64 wd, .int .i64 dp, .slice g M c], .int .i64 x, .int .i64 y, .bool false, undef, undef, undef, undef, undef, .agg #[.int .i64 wd, .int .i64 dp, .slice g M c], .agg #[.int .i64 ex, .int .i64 eb, .int .i64 eh], .slice (some ⟨b11, 0, none⟩) 1 1, undef, undef, undef, undef, undef, undef, undef, undef, undef, undef, undef, undef, undef, undef, undef, undef, undef, undef, undef], defers := [] } w') := by
    refine ⟨?_⟩
    intro w' b11 hw f11_0 f11_1 f11_2
    refine wpAnyH_take (i := 4) (oi := { dst := some 19, op := Go.Op.move (Go.Operand.tmp 18), type := 4, pos := "sight.go:51", after := #[{ on := 3, ground := Go.Ground.data }, { on := 3, ground := Go.Ground.chain }], guard := none }) (v := .bool false) (by rw [hops]; kernel_rfl) (by rw [hops]; kernel_rfl) (by rw [hops]; kernel_rfl) (by rw [hops]; kernel_rfl) (fun c a w h => HQP.out c a _ _ w h) (Or.inl ⟨by rw [hops]; kernel_rfl, by intro w _; go_simp⟩) hw ?_
    simp only [Act.put, List.setIfInBounds_toArray, List.set_cons_zero, List.set_cons_succ]
    refine wpAnyH_take (i := 5) (oi := { dst := some 20, op := Go.Op.move (Go.Operand.tmp 4), type := 3, pos := "sight.go:51", after := #[{ on := 4, ground := Go.Ground.guard }], guard := some (4, true) }) (v := undef) (by rw [hops]; kernel_rfl) (by rw [hops]; kernel_rfl) (by rw [hops]; kernel_rfl) (by rw [hops]; kernel_rfl) (fun c a w h => HQP.out c a _ _ w h) (Or.inr ⟨by rw [hops]; kernel_rfl, rfl⟩) hw ?_
    simp only [Act.put, List.setIfInBounds_toArray, List.set_cons_zero, List.set_cons_succ]
    refine wpAnyH_take (i := 6) (oi := { dst := some 21, op := Go.Op.buildSlice 22 1 #[(0, Go.Operand.tmp 20)], type := 22, pos := "sight.go:51", after := #[{ on := 5, ground := Go.Ground.data }, { on := 4, ground := Go.Ground.guard }], guard := some (4, true) }) (v := undef) (by rw [hops]; kernel_rfl) (by rw [hops]; kernel_rfl) (by rw [hops]; kernel_rfl) (by rw [hops]; kernel_rfl) (fun c a w h => HQP.out c a _ _ w h) (Or.inr ⟨by rw [hops]; kernel_rfl, rfl⟩) hw ?_
    simp only [Act.put, List.setIfInBounds_toArray, List.set_cons_zero, List.set_cons_succ]
    refine wpAnyH_take (i := 7) (oi := { dst := some 22, op := Go.Op.call { callee := Go.Callee.value (Go.Operand.func 51), args := #[Go.Operand.const (Go.Value.int Go.IntKind.i64 0), Go.Operand.const (Go.Value.int Go.IntKind.i64 3000), Go.Operand.tmp 21], argTypes := #[3, 3, 22] }, type := 4, pos := "sight.go:51", after := #[{ on := 6, ground := Go.Ground.data }, { on := 4, ground := Go.Ground.chain }, { on := 4, ground := Go.Ground.guard }], guard := some (4, true) }) (v := undef) (by rw [hops]; kernel_rfl) (by rw [hops]; kernel_rfl) (by rw [hops]; kernel_rfl) (by rw [hops]; kernel_rfl) (fun c a w h => HQP.out c a _ _ w h) (Or.inr ⟨by rw [hops]; kernel_rfl, rfl⟩) hw ?_
    simp only [Act.put, List.setIfInBounds_toArray, List.set_cons_zero, List.set_cons_succ]
    refine wpAnyH_take (i := 8) (oi := { dst := some 23, op := Go.Op.pick (Go.Operand.tmp 19) (Go.Operand.tmp 22) (Go.Operand.const (Go.Value.bool false)), type := 4, pos := "sight.go:51", after := #[{ on := 4, ground := Go.Ground.data }, { on := 7, ground := Go.Ground.data }], guard := none }) (v := .bool false) (by rw [hops]; kernel_rfl) (by rw [hops]; kernel_rfl) (by rw [hops]; kernel_rfl) (by rw [hops]; kernel_rfl) (fun c a w h => HQP.out c a _ _ w h) (Or.inl ⟨by rw [hops]; kernel_rfl, by intro w _; go_simp⟩) hw ?_
    simp only [Act.put, List.setIfInBounds_toArray, List.set_cons_zero, List.set_cons_succ]
    refine wpAnyH_ready (rs := [12]) (by rw [hops]; kernel_rfl) (by simp) ?_
    refine AllReadyH.cons (o := { dst := some 27, op := Go.Op.call { callee := Go.Callee.value (Go.Operand.func 46), args := #[Go.Operand.tmp 23, Go.Operand.tmp 24, Go.Operand.tmp 26], argTypes := #[4, 24, 49] }, type := 28, pos := "sight.go:51", after := #[{ on := 8, ground := Go.Ground.data }, { on := 9, ground := Go.Ground.data }, { on := 11, ground := Go.Ground.data }, { on := 7, ground := Go.Ground.chain }], guard := none }) (by rw [hops]; kernel_rfl) (fun K hK => ?_) ?_
    · rw [if_pos (by rw [hops]; kernel_rfl)]
      go_simp
      refine (HCK.out _ _ (HB1.out.trans (hw.mono HB1.out.size)) (es_one (e := ⟨ex, eb, eh⟩) f11_0 f11_1 f11_2)).mono ?_
      rintro en w5 ⟨rfl, hb5⟩
      exact hK.out _ _ (hw.trans (hb5.mono hw.size)) (fun hwn => S0_1_2_3_4_5_6_7_8_9_10_11_12.out w5 b11 hwn ((hb5.cell (p := ⟨b11, 0, none⟩) (World.block_lt_of_cell? _ _ f11_0)).trans f11_0) ((hb5.cell (p := ⟨b11, 1, none⟩) (World.block_lt_of_cell? _ _ f11_1)).trans f11_1) ((hb5.cell (p := ⟨b11, 2, none⟩) (World.block_lt_of_cell? _ _ f11_2)).trans f11_2))
    exact AllReadyH.nil
  have S0_1_2_9_10_11 : Kp (∀ (w' : World) (b11 : Nat), Below W1.heap.size W1 w' → w'.cell? ⟨b11, 0, none⟩ = some (.int .i64 ex) → w'.cell? ⟨b11, 1, none⟩ = some (.int .i64 eb) → w'.cell? ⟨b11, 2, none⟩ = some (.int .i64 eh) → wpAnyH Try.prog .any ops Qp (fun w' => Below W1.heap.size W1 w') 8 #[true, true, true, false, false, false, false, false, false, true, true, true, false, false] { tmps := #[.agg #[.int .i64 wd, .int .i64 dp, .slice g M c], .agg #[.int .i64 ex, .int .i64 eb, .int .i64 eh], .int .i64 x, .int .i64 y, .int .i64 h, .pointer (some ⟨B, 0, none⟩), .pointer (some ⟨B + 1, 0, none⟩), undef, undef, undef, .int .i64 0, .int .i64 0, .int .i64 0, undef, undef, .agg #[.int .i64 wd, .int .i64 dp, .slice g M c], .int .i64 x, .int .i64 y, undef, undef, undef, undef, undef, undef, .agg #[.int .i64 wd, .int .i64 dp, .slice g M c], .agg #[.int .i64 ex, .int .i64 eb, .int .i64 eh], .slice (some ⟨b11, 0, none⟩) 1 1, undef, undef, undef, undef, undef, undef, undef, undef, undef, undef, undef, undef, undef, undef, undef, undef, undef, undef, undef], defers := [] } w') := by
    refine ⟨?_⟩
    intro w' b11 hw f11_0 f11_1 f11_2
    refine wpAnyH_ready (rs := [3]) (by rw [hops]; kernel_rfl) (by simp) ?_
    refine AllReadyH.cons (o := { dst := some 18, op := Go.Op.call { callee := Go.Callee.value (Go.Operand.func 47), args := #[Go.Operand.tmp 15, Go.Operand.tmp 16, Go.Operand.tmp 17], argTypes := #[24, 3, 3] }, type := 4, pos := "sight.go:51", after := #[{ on := 0, ground := Go.Ground.data }, { on := 1, ground := Go.Ground.data }, { on := 2, ground := Go.Ground.data }], guard := none }) (by rw [hops]; kernel_rfl) (fun K hK => ?_) ?_
    · rw [if_pos (by rw [hops]; kernel_rfl)]
      go_simp
      refine (HIC.out _).mono ?_
      rintro en w5 ⟨rfl, hb5⟩
      exact hK.out _ _ (hw.trans (hb5.mono hw.size)) (fun hwn => S0_1_2_3_9_10_11.out w5 b11 hwn ((hb5.cell (p := ⟨b11, 0, none⟩) (World.block_lt_of_cell? _ _ f11_0)).trans f11_0) ((hb5.cell (p := ⟨b11, 1, none⟩) (World.block_lt_of_cell? _ _ f11_1)).trans f11_1) ((hb5.cell (p := ⟨b11, 2, none⟩) (World.block_lt_of_cell? _ _ f11_2)).trans f11_2))
    exact AllReadyH.nil
  have S : Kp (∀ (w' : World), Below W1.heap.size W1 w' → wpAnyH Try.prog .any ops Qp (fun w' => Below W1.heap.size W1 w') 14 #[false, false, false, false, false, false, false, false, false, false, false, false, false, false] { tmps := #[.agg #[.int .i64 wd, .int .i64 dp, .slice g M c], .agg #[.int .i64 ex, .int .i64 eb, .int .i64 eh], .int .i64 x, .int .i64 y, .int .i64 h, .pointer (some ⟨B, 0, none⟩), .pointer (some ⟨B + 1, 0, none⟩), undef, undef, undef, .int .i64 0, .int .i64 0, .int .i64 0, undef, undef, undef, undef, undef, undef, undef, undef, undef, undef, undef, undef, undef, undef, undef, undef, undef, undef, undef, undef, undef, undef, undef, undef, undef, undef, undef, undef, undef, undef, undef, undef, undef], defers := [] } w') := by
    refine ⟨?_⟩
    intro w' hw
    refine wpAnyH_take (i := 0) (oi := { dst := some 15, op := Go.Op.load 24 (Go.Operand.tmp 5), type := 24, pos := "sight.go:51", after := #[], guard := none }) (v := .agg #[.int .i64 wd, .int .i64 dp, .slice g M c]) (by rw [hops]; kernel_rfl) (by rw [hops]; kernel_rfl) (by rw [hops]; kernel_rfl) (by rw [hops]; kernel_rfl) (fun c a w h => HQP.out c a _ _ w h) (Or.inl ⟨by rw [hops]; kernel_rfl, by intro w hwS; obtain ⟨q0, q1, q2, q3, q4, q5⟩ := HALL.out w hwS; go_simp⟩) hw ?_
    simp only [Act.put, List.setIfInBounds_toArray, List.set_cons_zero, List.set_cons_succ]
    refine wpAnyH_take (i := 1) (oi := { dst := some 16, op := Go.Op.move (Go.Operand.tmp 2), type := 3, pos := "sight.go:51", after := #[], guard := none }) (v := .int .i64 x) (by rw [hops]; kernel_rfl) (by rw [hops]; kernel_rfl) (by rw [hops]; kernel_rfl) (by rw [hops]; kernel_rfl) (fun c a w h => HQP.out c a _ _ w h) (Or.inl ⟨by rw [hops]; kernel_rfl, by intro w _; go_simp⟩) hw ?_
    simp only [Act.put, List.setIfInBounds_toArray, List.set_cons_zero, List.set_cons_succ]
    refine wpAnyH_take (i := 2) (oi := { dst := some 17, op := Go.Op.move (Go.Operand.tmp 3), type := 3, pos := "sight.go:51", after := #[], guard := none }) (v := .int .i64 y) (by rw [hops]; kernel_rfl) (by rw [hops]; kernel_rfl) (by rw [hops]; kernel_rfl) (by rw [hops]; kernel_rfl) (fun c a w h => HQP.out c a _ _ w h) (Or.inl ⟨by rw [hops]; kernel_rfl, by intro w _; go_simp⟩) hw ?_
    simp only [Act.put, List.setIfInBounds_toArray, List.set_cons_zero, List.set_cons_succ]
    refine wpAnyH_take (i := 9) (oi := { dst := some 24, op := Go.Op.load 24 (Go.Operand.tmp 5), type := 24, pos := "sight.go:51", after := #[], guard := none }) (v := .agg #[.int .i64 wd, .int .i64 dp, .slice g M c]) (by rw [hops]; kernel_rfl) (by rw [hops]; kernel_rfl) (by rw [hops]; kernel_rfl) (by rw [hops]; kernel_rfl) (fun c a w h => HQP.out c a _ _ w h) (Or.inl ⟨by rw [hops]; kernel_rfl, by intro w hwS; obtain ⟨q0, q1, q2, q3, q4, q5⟩ := HALL.out w hwS; go_simp⟩) hw ?_
    simp only [Act.put, List.setIfInBounds_toArray, List.set_cons_zero, List.set_cons_succ]
    refine wpAnyH_take (i := 10) (oi := { dst := some 25, op := Go.Op.load 26 (Go.Operand.tmp 6), type := 26, pos := "sight.go:51", after := #[], guard := none }) (v := .agg #[.int .i64 ex, .int .i64 eb, .int .i64 eh]) (by rw [hops]; kernel_rfl) (by rw [hops]; kernel_rfl) (by rw [hops]; kernel_rfl) (by rw [hops]; kernel_rfl) (fun c a w h => HQP.out c a _ _ w h) (Or.inl ⟨by rw [hops]; kernel_rfl, by intro w hwS; obtain ⟨q0, q1, q2, q3, q4, q5⟩ := HALL.out w hwS; go_simp⟩) hw ?_
    simp only [Act.put, List.setIfInBounds_toArray, List.set_cons_zero, List.set_cons_succ]
    refine wpAnyH_ready (rs := [3, 11]) (by rw [hops]; kernel_rfl) (by simp) ?_
    refine AllReadyH.cons (o := { dst := some 18, op := Go.Op.call { callee := Go.Callee.value (Go.Operand.func 47), args := #[Go.Operand.tmp 15, Go.Operand.tmp 16, Go.Operand.tmp 17], argTypes := #[24, 3, 3] }, type := 4, pos := "sight.go:51", after := #[{ on := 0, ground := Go.Ground.data }, { on := 1, ground := Go.Ground.data }, { on := 2, ground := Go.Ground.data }], guard := none }) (by rw [hops]; kernel_rfl) (fun K hK => ?_) ?_
    · rw [if_pos (by rw [hops]; kernel_rfl)]
      go_simp
      refine (HIC.out _).mono ?_
      rintro en w5 ⟨rfl, hb5⟩
      exact hK.out _ _ (hw.trans (hb5.mono hw.size)) (fun hwn => S0_1_2_3_9_10.out w5 hwn)
    refine AllReadyH.cons (o := { dst := some 26, op := Go.Op.buildSlice 49 1 #[(0, Go.Operand.tmp 25)], type := 49, pos := "sight.go:51", after := #[{ on := 10, ground := Go.Ground.data }], guard := none }) (by rw [hops]; kernel_rfl) (fun K hK => ?_) ?_
    · rw [if_pos (by rw [hops]; kernel_rfl)]
      go_simp
      have hal : Below w'.heap.size w' (w'.alloc (.cells #[.int .i64 ex, .int .i64 eb, .int .i64 eh] 26)) := (Below.refl _ _).alloc (Nat.le_refl _) _
      exact hK.out _ _ (hw.trans (hal.mono hw.size)) (fun hwn => S0_1_2_9_10_11.out (w'.alloc (.cells #[.int .i64 ex, .int .i64 eb, .int .i64 eh] 26)) w'.heap.size hwn (by go_simp) (by go_simp) (by go_simp))
    exact AllReadyH.nil
  have hsz : ops.size = 14 := by rw [hops]; rfl
  refine wp_region_held_drew (S := fun w' => Below W1.heap.size W1 w') (by kernel_rfl) (Below.drew (Below.refl _ _)) (fun hw0 => ?_)
  rw [hsz]
  exact S.out _ hw0
end Go.Proofs.Ytjnggchljilooaa.Sc
