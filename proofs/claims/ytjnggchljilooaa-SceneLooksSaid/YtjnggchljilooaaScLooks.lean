/-
  WALKS (layer 7, scene): how high something looks, by the program.
-/
import Derived.Test.YtjnggchljilooaaScSeen
import Derived.Test.YtjnggchljilooaaScRatio
namespace Go.Proofs.Ytjnggchljilooaa.Sc
open Go Go.RowKit Go.Sort

theorem boxesR_start {w W1 : World} {wd dp ex eb eh : Int} {v : Value} {t1 t2 t3 : TypeId} (h : ((w.alloc (.cells #[.int .i64 wd, .int .i64 dp, v] t1)).alloc (.cells #[.int .i64 ex, .int .i64 eb, .int .i64 eh] t2)).alloc (.cells #[.int .i64 0, .int .i64 0] t3) = W1) :
    Below w.heap.size w W1 ∧ ∀ w', Below W1.heap.size W1 w' → w'.cell? ⟨w.heap.size, 0, none⟩ = some (.int .i64 wd) ∧ w'.cell? ⟨w.heap.size, 1, none⟩ = some (.int .i64 dp) ∧ w'.cell? ⟨w.heap.size, 2, none⟩ = some v ∧ w'.cell? ⟨w.heap.size + 1, 0, none⟩ = some (.int .i64 ex) ∧ w'.cell? ⟨w.heap.size + 1, 1, none⟩ = some (.int .i64 eb) ∧ w'.cell? ⟨w.heap.size + 1, 2, none⟩ = some (.int .i64 eh) ∧ w'.cell? ⟨w.heap.size + 2, 0, none⟩ = some (.int .i64 0) ∧ w'.cell? ⟨w.heap.size + 2, 1, none⟩ = some (.int .i64 0) ∧ ∀ j, w'.frozen? ⟨w.heap.size + 2, j, none⟩ = false := by
  subst h
  refine ⟨by repeat (first | exact Below.refl _ _ | refine Below.alloc ?_ (by simp <;> omega) _ | refine bDrewN ?_ _ | refine Below.drew ?_), fun w' hb => ?_⟩
  exact ⟨(hb.cell (p := ⟨_, 0, none⟩) (by simp <;> omega)).trans (by go_simp), (hb.cell (p := ⟨_, 1, none⟩) (by simp <;> omega)).trans (by go_simp), (hb.cell (p := ⟨_, 2, none⟩) (by simp <;> omega)).trans (by go_simp), (hb.cell (p := ⟨_, 0, none⟩) (by simp <;> omega)).trans (by go_simp), (hb.cell (p := ⟨_, 1, none⟩) (by simp <;> omega)).trans (by go_simp), (hb.cell (p := ⟨_, 2, none⟩) (by simp <;> omega)).trans (by go_simp), (hb.cell (p := ⟨_, 0, none⟩) (by simp <;> omega)).trans (by go_simp), (hb.cell (p := ⟨_, 1, none⟩) (by simp <;> omega)).trans (by go_simp), fun j => (World.frozen?_of_block (a := ⟨_, j, none⟩) (hb.block _ (by simp <;> omega))).trans (by go_simp)⟩
/-- What Looks and Same answer. -/
def looksV (E : Int) (n d : Nat) : Value := if E = 0 then .tuple #[.agg #[.int .i64 (n / Nat.gcd n d : Nat), .int .i64 (d / Nat.gcd n d : Nat)], .int .i64 0] else .tuple #[.agg #[.int .i64 0, .int .i64 0], .int .i64 E]
set_option maxRecDepth 100000 in
set_option maxHeartbeats 4000000 in
theorem Looks_in (wd dp ex eb eh y h to : Int) (g : Option Addr) (M c : Nat) (ER : Int) (Q : Bool) (n d : Nat) (w : World)
    (HR1 : Kp (∀ W, Calls Try.prog 71 #[.agg #[.int .i64 wd, .int .i64 dp, .slice g M c], .int .i64 y] W fun e w' => e = .returned (.bool true) ∧ Below W.heap.size W w')) (HWI : Kp (∀ W u, IS W u [h] → Calls Try.prog 51 #[.int .i64 0, .int .i64 3000, u] W fun e w' => e = .returned (.bool Q) ∧ W = w'))
    (HCK : Kp (∀ W u, Below w.heap.size w W → ES W u [⟨ex, eb, eh⟩] → Calls Try.prog 46 #[.bool Q, .agg #[.int .i64 wd, .int .i64 dp, .slice g M c], u] W fun e w' => e = .returned (.int .i64 ER) ∧ Below W.heap.size W w'))
    (HND : Kp (ER = 0 → IntKind.i64.wrap (h * eb) = (n : Int) ∧ IntKind.i64.wrap (y + eb) = (d : Int) ∧ n ≤ 100000000 ∧ d ≤ 100000000 ∧ 0 < d)) :
    Calls Try.prog 42 #[.agg #[.int .i64 wd, .int .i64 dp, .slice g M c], .agg #[.int .i64 ex, .int .i64 eb, .int .i64 eh], .int .i64 y, .int .i64 h] w fun e w' => e = .returned (looksV ER n d) ∧ Below w.heap.size w w' := by
  go_enter Try.func42, Try.ntmps42
  go_wp2
  simp only [Nat.add_assoc, Nat.reduceAdd]
  obtain ⟨W1, hW1⟩ : ∃ W, ((w.alloc (.cells #[.int .i64 wd, .int .i64 dp, .slice g M c] 24)).alloc (.cells #[.int .i64 ex, .int .i64 eb, .int .i64 eh] 26)).alloc (.cells #[.int .i64 0, .int .i64 0] 59) = W := ⟨_, rfl⟩
  obtain ⟨hb1, hall⟩ := boxesR_start hW1
  rw [hW1]
  obtain ⟨B, hB⟩ : ∃ B, w.heap.size = B := ⟨_, rfl⟩
  have HBB := Kp.mk hB
  rw [hB] at hall
  have HB1 := Kp.mk hb1
  have HALL := Kp.mk hall
  try simp only [hB]
  clear hW1 hb1 hall hB
  refine wp_region_noPanic ?_
  refine region_nm ?_
  intro ops Qp hops hQp
  have HQP : Kp (∀ c a d v w, Qp (.panic c) (Act.put a d v) w → Qp (.panic c) a w) := ⟨by subst hQp; intro c a d v w h; exact h⟩
  have HFIN : Kp (∀ (w' : World) (b5 : Nat) (b10 : Nat), Below W1.heap.size W1 w' → Qp .normal { tmps := #[.agg #[.int .i64 wd, .int .i64 dp, .slice g M c], .agg #[.int .i64 ex, .int .i64 eb, .int .i64 eh], .int .i64 y, .int .i64 h, .pointer (some ⟨B, 0, none⟩), .pointer (some ⟨B + 1, 0, none⟩), undef, undef, .pointer (some ⟨B + 2, 0, none⟩), .int .i64 0, .int .i64 ER, .agg #[.int .i64 wd, .int .i64 dp, .slice g M c], .int .i64 y, .bool true, .bool true, .int .i64 h, .slice (some ⟨b5, 0, none⟩) 1 1, .bool Q, .bool Q, .agg #[.int .i64 wd, .int .i64 dp, .slice g M c], .agg #[.int .i64 ex, .int .i64 eb, .int .i64 eh], .slice (some ⟨b10, 0, none⟩) 1 1, .int .i64 ER, undef, undef, undef, undef, undef, undef, undef, undef, undef, undef, undef, undef, undef], defers := [] } w') := by
    refine ⟨?_⟩
    intro w' b5 b10 hw
    obtain ⟨q0, q1, q2, q3, q4, q5, r0, r1, rz⟩ := HALL.out w' hw
    have HBW := Kp.mk (HB1.out.trans (hw.mono HB1.out.size))
    have z0 := rz 0
    have z1 := rz 1
    clear HQP hops hw rz
    subst hQp
    refine NoPanic.normal ?_
    by_cases hE : ER = 0
    · subst hE
      obtain ⟨k1, k2, k3, k4, k5⟩ := HND.out rfl
      have HRT := Kp.mk (fun W => ratio_any n d W k3 k4 k5)
      have HV : Kp (looksV 0 n d = .tuple #[.agg #[.int .i64 (n / Nat.gcd n d : Nat), .int .i64 (d / Nat.gcd n d : Nat)], .int .i64 0]) := ⟨rfl⟩
      obtain ⟨A, hA⟩ : ∃ A, n / Nat.gcd n d = A := ⟨_, rfl⟩
      obtain ⟨D, hD⟩ : ∃ A, d / Nat.gcd n d = A := ⟨_, rfl⟩
      rw [hA, hD] at HRT HV
      clear k3 k4 k5 hA hD
      have hBl := World.block_lt_of_cell? _ _ r0
      go_wp2_with fail
      refine (HRT.out _).mono ?_
      rintro en w6 ⟨rfl, hb6⟩
      have s0 := (hb6.cell (p := ⟨B + 2, 0, none⟩) hBl).trans r0
      have s1 := (hb6.cell (p := ⟨B + 2, 1, none⟩) hBl).trans r1
      have t0 := (World.frozen?_of_block (a := ⟨B + 2, 0, none⟩) (hb6.block _ hBl)).trans z0
      have t1 := (World.frozen?_of_block (a := ⟨B + 2, 1, none⟩) (hb6.block _ hBl)).trans z1
      have HB6 := Kp.mk (HBW.out.trans (hb6.mono HBW.out.size))
      clear hb6 q0 q1 q2 q3 q4 q5 r0 r1 z0 z1 hBl
      go_wp2
      exact bodyPost_ret (v := .tuple #[.agg #[.int .i64 A, .int .i64 D], .int .i64 0]) (by simp [results, Try.results42, go_sem, s0, s1]) rfl ⟨by rw [HV.out], (HB6.out.setCell (by have := HBB.out; simp only; omega) _).setCell (by have := HBB.out; simp only; omega) _⟩
    · have i1 : (ER == (0 : Int)) = false := by simp [hE]
      have i2 : (ER != (0 : Int)) = true := by simp [hE]
      have HV : Kp (looksV ER n d = .tuple #[.agg #[.int .i64 0, .int .i64 0], .int .i64 ER]) := ⟨by unfold looksV; rw [if_neg hE]⟩
      clear hE
      go_wp2
      exact bodyPost_ret (v := .tuple #[.agg #[.int .i64 0, .int .i64 0], .int .i64 ER]) (by simp [results, Try.results42, go_sem, r0, r1]) rfl ⟨by rw [HV.out], (HBW.out.setCell (by have := HBB.out; simp only; omega) _).setCell (by have := HBB.out; simp only; omega) _⟩
  have S0_1_2_3_4_5_6_7_8_9_10_11 : Kp (∀ (w' : World) (b5 : Nat) (b10 : Nat), Below W1.heap.size W1 w' → w'.cell? ⟨b5, 0, none⟩ = some (.int .i64 h) → w'.cell? ⟨b10, 0, none⟩ = some (.int .i64 ex) → w'.cell? ⟨b10, 1, none⟩ = some (.int .i64 eb) → w'.cell? ⟨b10, 2, none⟩ = some (.int .i64 eh) → wpAnyH Try.prog .any ops Qp (fun w' => Below W1.heap.size W1 w') 1 #[true, true, true, true, true, true, true, true, true, true, true, true, false] { tmps := #[.agg #[.int .i64 wd, .int .i64 dp, .slice g M c], .agg #[.int .i64 ex, .int .i64 eb, .int .i64 eh], .int .i64 y, .int .i64 h, .pointer (some ⟨B, 0, none⟩), .pointer (some ⟨B + 1, 0, none⟩), undef, undef, .pointer (some ⟨B + 2, 0, none⟩), .int .i64 0, undef, .agg #[.int .i64 wd, .int .i64 dp, .slice g M c], .int .i64 y, .bool true, .bool true, .int .i64 h, .slice (some ⟨b5, 0, none⟩) 1 1, .bool Q, .bool Q, .agg #[.int .i64 wd, .int .i64 dp, .slice g M c], .agg #[.int .i64 ex, .int .i64 eb, .int .i64 eh], .slice (some ⟨b10, 0, none⟩) 1 1, .int .i64 ER, undef, undef, undef, undef, undef, undef, undef, undef, undef, undef, undef, undef, undef], defers := [] } w') := by
    refine ⟨?_⟩
    intro w' b5 b10 hw f5_0 f10_0 f10_1 f10_2
    refine wpAnyH_take (i := 12) (oi := { dst := some 10, op := Go.Op.assign (Go.Operand.tmp 22), type := 28, pos := "glass.go:7", after := #[{ on := 11, ground := Go.Ground.data }, { on := 11, ground := Go.Ground.chain }, { on := 0, ground := Go.Ground.phase }, { on := 1, ground := Go.Ground.phase }, { on := 2, ground := Go.Ground.phase }, { on := 3, ground := Go.Ground.phase }, { on := 4, ground := Go.Ground.phase }, { on := 5, ground := Go.Ground.phase }, { on := 6, ground := Go.Ground.phase }, { on := 7, ground := Go.Ground.phase }, { on := 8, ground := Go.Ground.phase }, { on := 9, ground := Go.Ground.phase }, { on := 10, ground := Go.Ground.phase }, { on := 11, ground := Go.Ground.phase }], guard := none }) (v := .int .i64 ER) (by rw [hops]; kernel_rfl) (by rw [hops]; kernel_rfl) (by rw [hops]; kernel_rfl) (by rw [hops]; kernel_rfl) (fun c a w h => HQP.out c a _ _ w h) (Or.inl ⟨by rw [hops]; kernel_rfl, by intro w _; go_simp⟩) hw ?_
    simp only [Act.put, List.setIfInBounds_toArray, List.set_cons_zero, List.set_cons_succ]
    refine wpAnyH_done (by rw [hops]; kernel_rfl) ?_ _
    exact HFIN.out w' b5 b10 hw
  have S0_1_2_3_4_5_6_7_8_9_10 : Kp (∀ (w' : World) (b5 : Nat) (b10 : Nat), Below W1.heap.size W1 w' → w'.cell? ⟨b5, 0, none⟩ = some (.int .i64 h) → w'.cell? ⟨b10, 0, none⟩ = some (.int .i64 ex) → w'.cell? ⟨b10, 1, none⟩ = some (.int .i64 eb) → w'.cell? ⟨b10, 2, none⟩ = some (.int .i64 eh) → wpAnyH Try.prog .any ops Qp (fun w' => Below W1.heap.size W1 w') 2 #[true, true, true, true, true, true, true, true, true, true, true, false, false] { tmps := #[.agg #[.int .i64 wd, .int .i64 dp, .slice g M c], .agg #[.int .i64 ex, .int .i64 eb, .int .i64 eh], .int .i64 y, .int .i64 h, .pointer (some ⟨B, 0, none⟩), .pointer (some ⟨B + 1, 0, none⟩), undef, undef, .pointer (some ⟨B + 2, 0, none⟩), .int .i64 0, undef, .agg #[.int .i64 wd, .int .i64 dp, .slice g M c], .int .i64 y, .bool true, .bool true, .int .i64 h, .slice (some ⟨b5, 0, none⟩) 1 1, .bool Q, .bool Q, .agg #[.int .i64 wd, .int .i64 dp, .slice g M c], .agg #[.int .i64 ex, .int .i64 eb, .int .i64 eh], .slice (some ⟨b10, 0, none⟩) 1 1, undef, undef, undef, undef, undef, undef, undef, undef, undef, undef, undef, undef, undef, undef], defers := [] } w') := by
    refine ⟨?_⟩
    intro w' b5 b10 hw f5_0 f10_0 f10_1 f10_2
    refine wpAnyH_ready (rs := [11]) (by rw [hops]; kernel_rfl) (by simp) ?_
    refine AllReadyH.cons (o := { dst := some 22, op := Go.Op.call { callee := Go.Callee.value (Go.Operand.func 46), args := #[Go.Operand.tmp 18, Go.Operand.tmp 19, Go.Operand.tmp 21], argTypes := #[4, 24, 49] }, type := 28, pos := "glass.go:7", after := #[{ on := 7, ground := Go.Ground.data }, { on := 8, ground := Go.Ground.data }, { on := 10, ground := Go.Ground.data }, { on := 6, ground := Go.Ground.chain }], guard := none }) (by rw [hops]; kernel_rfl) (fun K hK => ?_) ?_
    · rw [if_pos (by rw [hops]; kernel_rfl)]
      go_simp
      refine (HCK.out _ _ (HB1.out.trans (hw.mono HB1.out.size)) (es_one (e := ⟨ex, eb, eh⟩) f10_0 f10_1 f10_2)).mono ?_
      rintro en w5 ⟨rfl, hb5⟩
      exact hK.out _ _ (hw.trans (hb5.mono hw.size)) (fun hwn => S0_1_2_3_4_5_6_7_8_9_10_11.out w5 b5 b10 hwn ((hb5.cell (p := ⟨b5, 0, none⟩) (World.block_lt_of_cell? _ _ f5_0)).trans f5_0) ((hb5.cell (p := ⟨b10, 0, none⟩) (World.block_lt_of_cell? _ _ f10_0)).trans f10_0) ((hb5.cell (p := ⟨b10, 1, none⟩) (World.block_lt_of_cell? _ _ f10_1)).trans f10_1) ((hb5.cell (p := ⟨b10, 2, none⟩) (World.block_lt_of_cell? _ _ f10_2)).trans f10_2))
    exact AllReadyH.nil
  have S0_1_2_3_4_5_6_8_9 : Kp (∀ (w' : World) (b5 : Nat), Below W1.heap.size W1 w' → w'.cell? ⟨b5, 0, none⟩ = some (.int .i64 h) → wpAnyH Try.prog .any ops Qp (fun w' => Below W1.heap.size W1 w') 4 #[true, true, true, true, true, true, true, false, true, true, false, false, false] { tmps := #[.agg #[.int .i64 wd, .int .i64 dp, .slice g M c], .agg #[.int .i64 ex, .int .i64 eb, .int .i64 eh], .int .i64 y, .int .i64 h, .pointer (some ⟨B, 0, none⟩), .pointer (some ⟨B + 1, 0, none⟩), undef, undef, .pointer (some ⟨B + 2, 0, none⟩), .int .i64 0, undef, .agg #[.int .i64 wd, .int .i64 dp, .slice g M c], .int .i64 y, .bool true, .bool true, .int .i64 h, .slice (some ⟨b5, 0, none⟩) 1 1, .bool Q, undef, .agg #[.int .i64 wd, .int .i64 dp, .slice g M c], .agg #[.int .i64 ex, .int .i64 eb, .int .i64 eh], undef, undef, undef, undef, undef, undef, undef, undef, undef, undef, undef, undef, undef, undef, undef], defers := [] } w') := by
    refine ⟨?_⟩
    intro w' b5 hw f5_0
    refine wpAnyH_take (i := 7) (oi := { dst := some 18, op := Go.Op.pick (Go.Operand.tmp 14) (Go.Operand.tmp 17) (Go.Operand.const (Go.Value.bool false)), type := 4, pos := "glass.go:7", after := #[{ on := 3, ground := Go.Ground.data }, { on := 6, ground := Go.Ground.data }], guard := none }) (v := .bool Q) (by rw [hops]; kernel_rfl) (by rw [hops]; kernel_rfl) (by rw [hops]; kernel_rfl) (by rw [hops]; kernel_rfl) (fun c a w h => HQP.out c a _ _ w h) (Or.inl ⟨by rw [hops]; kernel_rfl, by intro w _; go_simp⟩) hw ?_
    simp only [Act.put, List.setIfInBounds_toArray, List.set_cons_zero, List.set_cons_succ]
    refine wpAnyH_ready (rs := [10]) (by rw [hops]; kernel_rfl) (by simp) ?_
    refine AllReadyH.cons (o := { dst := some 21, op := Go.Op.buildSlice 49 1 #[(0, Go.Operand.tmp 20)], type := 49, pos := "glass.go:7", after := #[{ on := 9, ground := Go.Ground.data }], guard := none }) (by rw [hops]; kernel_rfl) (fun K hK => ?_) ?_
    · rw [if_pos (by rw [hops]; kernel_rfl)]
      go_simp
      have hal : Below w'.heap.size w' (w'.alloc (.cells #[.int .i64 ex, .int .i64 eb, .int .i64 eh] 26)) := (Below.refl _ _).alloc (Nat.le_refl _) _
      exact hK.out _ _ (hw.trans (hal.mono hw.size)) (fun hwn => S0_1_2_3_4_5_6_7_8_9_10.out (w'.alloc (.cells #[.int .i64 ex, .int .i64 eb, .int .i64 eh] 26)) b5 w'.heap.size hwn ((hal.cell (p := ⟨b5, 0, none⟩) (World.block_lt_of_cell? _ _ f5_0)).trans f5_0) (by go_simp) (by go_simp) (by go_simp))
    exact AllReadyH.nil
  have S0_1_2_3_4_5_6_8_9_10 : Kp (∀ (w' : World) (b5 : Nat) (b10 : Nat), Below W1.heap.size W1 w' → w'.cell? ⟨b5, 0, none⟩ = some (.int .i64 h) → w'.cell? ⟨b10, 0, none⟩ = some (.int .i64 ex) → w'.cell? ⟨b10, 1, none⟩ = some (.int .i64 eb) → w'.cell? ⟨b10, 2, none⟩ = some (.int .i64 eh) → wpAnyH Try.prog .any ops Qp (fun w' => Below W1.heap.size W1 w') 3 #[true, true, true, true, true, true, true, false, true, true, true, false, false] { tmps := #[.agg #[.int .i64 wd, .int .i64 dp, .slice g M c], .agg #[.int .i64 ex, .int .i64 eb, .int .i64 eh], .int .i64 y, .int .i64 h, .pointer (some ⟨B, 0, none⟩), .pointer (some ⟨B + 1, 0, none⟩), undef, undef, .pointer (some ⟨B + 2, 0, none⟩), .int .i64 0, undef, .agg #[.int .i64 wd, .int .i64 dp, .slice g M c], .int .i64 y, .bool true, .bool true, .int .i64 h, .slice (some ⟨b5, 0, none⟩) 1 1, .bool Q, undef, .agg #[.int .i64 wd, .int .i64 dp, .slice g M c], .agg #[.int .i64 ex, .int .i64 eb, .int .i64 eh], .slice (some ⟨b10, 0, none⟩) 1 1, undef, undef, undef, undef, undef, undef, undef, undef, undef, undef, undef, undef, undef, undef], defers := [] } w') := by
    refine ⟨?_⟩
    intro w' b5 b10 hw f5_0 f10_0 f10_1 f10_2
    refine wpAnyH_take (i := 7) (oi := { dst := some 18, op := Go.Op.pick (Go.Operand.tmp 14) (Go.Operand.tmp 17) (Go.Operand.const (Go.Value.bool false)), type := 4, pos := "glass.go:7", after := #[{ on := 3, ground := Go.Ground.data }, { on := 6, ground := Go.Ground.data }], guard := none }) (v := .bool Q) (by rw [hops]; kernel_rfl) (by rw [hops]; kernel_rfl) (by rw [hops]; kernel_rfl) (by rw [hops]; kernel_rfl) (fun c a w h => HQP.out c a _ _ w h) (Or.inl ⟨by rw [hops]; kernel_rfl, by intro w _; go_simp⟩) hw ?_
    simp only [Act.put, List.setIfInBounds_toArray, List.set_cons_zero, List.set_cons_succ]
    refine wpAnyH_ready (rs := [11]) (by rw [hops]; kernel_rfl) (by simp) ?_
    refine AllReadyH.cons (o := { dst := some 22, op := Go.Op.call { callee := Go.Callee.value (Go.Operand.func 46), args := #[Go.Operand.tmp 18, Go.Operand.tmp 19, Go.Operand.tmp 21], argTypes := #[4, 24, 49] }, type := 28, pos := "glass.go:7", after := #[{ on := 7, ground := Go.Ground.data }, { on := 8, ground := Go.Ground.data }, { on := 10, ground := Go.Ground.data }, { on := 6, ground := Go.Ground.chain }], guard := none }) (by rw [hops]; kernel_rfl) (fun K hK => ?_) ?_
    · rw [if_pos (by rw [hops]; kernel_rfl)]
      go_simp
      refine (HCK.out _ _ (HB1.out.trans (hw.mono HB1.out.size)) (es_one (e := ⟨ex, eb, eh⟩) f10_0 f10_1 f10_2)).mono ?_
      rintro en w5 ⟨rfl, hb5⟩
      exact hK.out _ _ (hw.trans (hb5.mono hw.size)) (fun hwn => S0_1_2_3_4_5_6_7_8_9_10_11.out w5 b5 b10 hwn ((hb5.cell (p := ⟨b5, 0, none⟩) (World.block_lt_of_cell? _ _ f5_0)).trans f5_0) ((hb5.cell (p := ⟨b10, 0, none⟩) (World.block_lt_of_cell? _ _ f10_0)).trans f10_0) ((hb5.cell (p := ⟨b10, 1, none⟩) (World.block_lt_of_cell? _ _ f10_1)).trans f10_1) ((hb5.cell (p := ⟨b10, 2, none⟩) (World.block_lt_of_cell? _ _ f10_2)).trans f10_2))
    exact AllReadyH.nil
  have S0_1_2_3_4_5_8_9_10 : Kp (∀ (w' : World) (b5 : Nat) (b10 : Nat), Below W1.heap.size W1 w' → w'.cell? ⟨b5, 0, none⟩ = some (.int .i64 h) → w'.cell? ⟨b10, 0, none⟩ = some (.int .i64 ex) → w'.cell? ⟨b10, 1, none⟩ = some (.int .i64 eb) → w'.cell? ⟨b10, 2, none⟩ = some (.int .i64 eh) → wpAnyH Try.prog .any ops Qp (fun w' => Below W1.heap.size W1 w') 4 #[true, true, true, true, true, true, false, false, true, true, true, false, false] { tmps := #[.agg #[.int .i64 wd, .int .i64 dp, .slice g M c], .agg #[.int .i64 ex, .int .i64 eb, .int .i64 eh], .int .i64 y, .int .i64 h, .pointer (some ⟨B, 0, none⟩), .pointer (some ⟨B + 1, 0, none⟩), undef, undef, .pointer (some ⟨B + 2, 0, none⟩), .int .i64 0, undef, .agg #[.int .i64 wd, .int .i64 dp, .slice g M c], .int .i64 y, .bool true, .bool true, .int .i64 h, .slice (some ⟨b5, 0, none⟩) 1 1, undef, undef, .agg #[.int .i64 wd, .int .i64 dp, .slice g M c], .agg #[.int .i64 ex, .int .i64 eb, .int .i64 eh], .slice (some ⟨b10, 0, none⟩) 1 1, undef, undef, undef, undef, undef, undef, undef, undef, undef, undef, undef, undef, undef, undef], defers := [] } w') := by
    refine ⟨?_⟩
    intro w' b5 b10 hw f5_0 f10_0 f10_1 f10_2
    refine wpAnyH_ready (rs := [6]) (by rw [hops]; kernel_rfl) (by simp) ?_
    refine AllReadyH.cons (o := { dst := some 17, op := Go.Op.call { callee := Go.Callee.value (Go.Operand.func 51), args := #[Go.Operand.const (Go.Value.int Go.IntKind.i64 0), Go.Operand.const (Go.Value.int Go.IntKind.i64 3000), Go.Operand.tmp 16], argTypes := #[3, 3, 22] }, type := 4, pos := "glass.go:7", after := #[{ on := 5, ground := Go.Ground.data }, { on := 3, ground := Go.Ground.chain }, { on := 3, ground := Go.Ground.guard }], guard := some (3, true) }) (by rw [hops]; kernel_rfl) (fun K hK => ?_) ?_
    · rw [if_pos (by rw [hops]; kernel_rfl)]
      go_simp
      refine (HWI.out _ _ (is_one f5_0)).mono ?_
      rintro en w5 ⟨rfl, hb5⟩
      have hb5 : Below w'.heap.size w' w5 := by rw [← hb5]; exact Below.refl _ _
      exact hK.out _ _ (hw.trans (hb5.mono hw.size)) (fun hwn => S0_1_2_3_4_5_6_8_9_10.out w5 b5 b10 hwn ((hb5.cell (p := ⟨b5, 0, none⟩) (World.block_lt_of_cell? _ _ f5_0)).trans f5_0) ((hb5.cell (p := ⟨b10, 0, none⟩) (World.block_lt_of_cell? _ _ f10_0)).trans f10_0) ((hb5.cell (p := ⟨b10, 1, none⟩) (World.block_lt_of_cell? _ _ f10_1)).trans f10_1) ((hb5.cell (p := ⟨b10, 2, none⟩) (World.block_lt_of_cell? _ _ f10_2)).trans f10_2))
    exact AllReadyH.nil
  have S0_1_2_3_4_5_8_9 : Kp (∀ (w' : World) (b5 : Nat), Below W1.heap.size W1 w' → w'.cell? ⟨b5, 0, none⟩ = some (.int .i64 h) → wpAnyH Try.prog .any ops Qp (fun w' => Below W1.heap.size W1 w') 5 #[true, true, true, true, true, true, false, false, true, true, false, false, false] { tmps := #[.agg #[.int .i64 wd, .int .i64 dp, .slice g M c], .agg #[.int .i64 ex, .int .i64 eb, .int .i64 eh], .int .i64 y, .int .i64 h, .pointer (some ⟨B, 0, none⟩), .pointer (some ⟨B + 1, 0, none⟩), undef, undef, .pointer (some ⟨B + 2, 0, none⟩), .int .i64 0, undef, .agg #[.int .i64 wd, .int .i64 dp, .slice g M c], .int .i64 y, .bool true, .bool true, .int .i64 h, .slice (some ⟨b5, 0, none⟩) 1 1, undef, undef, .agg #[.int .i64 wd, .int .i64 dp, .slice g M c], .agg #[.int .i64 ex, .int .i64 eb, .int .i64 eh], undef, undef, undef, undef, undef, undef, undef, undef, undef, undef, undef, undef, undef, undef, undef], defers := [] } w') := by
    refine ⟨?_⟩
    intro w' b5 hw f5_0
    refine wpAnyH_ready (rs := [6, 10]) (by rw [hops]; kernel_rfl) (by simp) ?_
    refine AllReadyH.cons (o := { dst := some 17, op := Go.Op.call { callee := Go.Callee.value (Go.Operand.func 51), args := #[Go.Operand.const (Go.Value.int Go.IntKind.i64 0), Go.Operand.const (Go.Value.int Go.IntKind.i64 3000), Go.Operand.tmp 16], argTypes := #[3, 3, 22] }, type := 4, pos := "glass.go:7", after := #[{ on := 5, ground := Go.Ground.data }, { on := 3, ground := Go.Ground.chain }, { on := 3, ground := Go.Ground.guard }], guard := some (3, true) }) (by rw [hops]; kernel_rfl) (fun K hK => ?_) ?_
    · rw [if_pos (by rw [hops]; kernel_rfl)]
      go_simp
      refine (HWI.out _ _ (is_one f5_0)).mono ?_
      rintro en w5 ⟨rfl, hb5⟩
      have hb5 : Below w'.heap.size w' w5 := by rw [← hb5]; exact Below.refl _ _
      exact hK.out _ _ (hw.trans (hb5.mono hw.size)) (fun hwn => S0_1_2_3_4_5_6_8_9.out w5 b5 hwn ((hb5.cell (p := ⟨b5, 0, none⟩) (World.block_lt_of_cell? _ _ f5_0)).trans f5_0))
    refine AllReadyH.cons (o := { dst := some 21, op := Go.Op.buildSlice 49 1 #[(0, Go.Operand.tmp 20)], type := 49, pos := "glass.go:7", after := #[{ on := 9, ground := Go.Ground.data }], guard := none }) (by rw [hops]; kernel_rfl) (fun K hK => ?_) ?_
    · rw [if_pos (by rw [hops]; kernel_rfl)]
      go_simp
      have hal : Below w'.heap.size w' (w'.alloc (.cells #[.int .i64 ex, .int .i64 eb, .int .i64 eh] 26)) := (Below.refl _ _).alloc (Nat.le_refl _) _
      exact hK.out _ _ (hw.trans (hal.mono hw.size)) (fun hwn => S0_1_2_3_4_5_8_9_10.out (w'.alloc (.cells #[.int .i64 ex, .int .i64 eb, .int .i64 eh] 26)) b5 w'.heap.size hwn ((hal.cell (p := ⟨b5, 0, none⟩) (World.block_lt_of_cell? _ _ f5_0)).trans f5_0) (by go_simp) (by go_simp) (by go_simp))
    exact AllReadyH.nil
  have S0_1_2_3_4_8_9_10 : Kp (∀ (w' : World) (b10 : Nat), Below W1.heap.size W1 w' → w'.cell? ⟨b10, 0, none⟩ = some (.int .i64 ex) → w'.cell? ⟨b10, 1, none⟩ = some (.int .i64 eb) → w'.cell? ⟨b10, 2, none⟩ = some (.int .i64 eh) → wpAnyH Try.prog .any ops Qp (fun w' => Below W1.heap.size W1 w') 5 #[true, true, true, true, true, false, false, false, true, true, true, false, false] { tmps := #[.agg #[.int .i64 wd, .int .i64 dp, .slice g M c], .agg #[.int .i64 ex, .int .i64 eb, .int .i64 eh], .int .i64 y, .int .i64 h, .pointer (some ⟨B, 0, none⟩), .pointer (some ⟨B + 1, 0, none⟩), undef, undef, .pointer (some ⟨B + 2, 0, none⟩), .int .i64 0, undef, .agg #[.int .i64 wd, .int .i64 dp, .slice g M c], .int .i64 y, .bool true, .bool true, .int .i64 h, undef, undef, undef, .agg #[.int .i64 wd, .int .i64 dp, .slice g M c], .agg #[.int .i64 ex, .int .i64 eb, .int .i64 eh], .slice (some ⟨b10, 0, none⟩) 1 1, undef, undef, undef, undef, undef, undef, undef, undef, undef, undef, undef, undef, undef, undef], defers := [] } w') := by
    refine ⟨?_⟩
    intro w' b10 hw f10_0 f10_1 f10_2
    refine wpAnyH_ready (rs := [5]) (by rw [hops]; kernel_rfl) (by simp) ?_
    refine AllReadyH.cons (o := { dst := some 16, op := Go.Op.buildSlice 22 1 #[(0, Go.Operand.tmp 15)], type := 22, pos := "glass.go:7", after := #[{ on := 4, ground := Go.Ground.data }, { on := 3, ground := Go.Ground.guard }], guard := some (3, true) }) (by rw [hops]; kernel_rfl) (fun K hK => ?_) ?_
    · rw [if_pos (by rw [hops]; kernel_rfl)]
      go_simp
      have hal : Below w'.heap.size w' (w'.alloc (.cells #[.int .i64 h] 3)) := (Below.refl _ _).alloc (Nat.le_refl _) _
      exact hK.out _ _ (hw.trans (hal.mono hw.size)) (fun hwn => S0_1_2_3_4_5_8_9_10.out (w'.alloc (.cells #[.int .i64 h] 3)) w'.heap.size b10 hwn (by go_simp) ((hal.cell (p := ⟨b10, 0, none⟩) (World.block_lt_of_cell? _ _ f10_0)).trans f10_0) ((hal.cell (p := ⟨b10, 1, none⟩) (World.block_lt_of_cell? _ _ f10_1)).trans f10_1) ((hal.cell (p := ⟨b10, 2, none⟩) (World.block_lt_of_cell? _ _ f10_2)).trans f10_2))
    exact AllReadyH.nil
  have S0_1_2_8_9 : Kp (∀ (w' : World), Below W1.heap.size W1 w' → wpAnyH Try.prog .any ops Qp (fun w' => Below W1.heap.size W1 w') 8 #[true, true, true, false, false, false, false, false, true, true, false, false, false] { tmps := #[.agg #[.int .i64 wd, .int .i64 dp, .slice g M c], .agg #[.int .i64 ex, .int .i64 eb, .int .i64 eh], .int .i64 y, .int .i64 h, .pointer (some ⟨B, 0, none⟩), .pointer (some ⟨B + 1, 0, none⟩), undef, undef, .pointer (some ⟨B + 2, 0, none⟩), .int .i64 0, undef, .agg #[.int .i64 wd, .int .i64 dp, .slice g M c], .int .i64 y, .bool true, undef, undef, undef, undef, undef, .agg #[.int .i64 wd, .int .i64 dp, .slice g M c], .agg #[.int .i64 ex, .int .i64 eb, .int .i64 eh], undef, undef, undef, undef, undef, undef, undef, undef, undef, undef, undef, undef, undef, undef, undef], defers := [] } w') := by
    refine ⟨?_⟩
    intro w' hw
    refine wpAnyH_take (i := 3) (oi := { dst := some 14, op := Go.Op.move (Go.Operand.tmp 13), type := 4, pos := "glass.go:7", after := #[{ on := 2, ground := Go.Ground.data }, { on := 2, ground := Go.Ground.chain }], guard := none }) (v := .bool true) (by rw [hops]; kernel_rfl) (by rw [hops]; kernel_rfl) (by rw [hops]; kernel_rfl) (by rw [hops]; kernel_rfl) (fun c a w h => HQP.out c a _ _ w h) (Or.inl ⟨by rw [hops]; kernel_rfl, by intro w _; go_simp⟩) hw ?_
    simp only [Act.put, List.setIfInBounds_toArray, List.set_cons_zero, List.set_cons_succ]
    refine wpAnyH_take (i := 4) (oi := { dst := some 15, op := Go.Op.move (Go.Operand.tmp 3), type := 3, pos := "glass.go:7", after := #[{ on := 3, ground := Go.Ground.guard }], guard := some (3, true) }) (v := .int .i64 h) (by rw [hops]; kernel_rfl) (by rw [hops]; kernel_rfl) (by rw [hops]; kernel_rfl) (by rw [hops]; kernel_rfl) (fun c a w h => HQP.out c a _ _ w h) (Or.inl ⟨by rw [hops]; kernel_rfl, by intro w _; go_simp⟩) hw ?_
    simp only [Act.put, List.setIfInBounds_toArray, List.set_cons_zero, List.set_cons_succ]
    refine wpAnyH_ready (rs := [5, 10]) (by rw [hops]; kernel_rfl) (by simp) ?_
    refine AllReadyH.cons (o := { dst := some 16, op := Go.Op.buildSlice 22 1 #[(0, Go.Operand.tmp 15)], type := 22, pos := "glass.go:7", after := #[{ on := 4, ground := Go.Ground.data }, { on := 3, ground := Go.Ground.guard }], guard := some (3, true) }) (by rw [hops]; kernel_rfl) (fun K hK => ?_) ?_
    · rw [if_pos (by rw [hops]; kernel_rfl)]
      go_simp
      have hal : Below w'.heap.size w' (w'.alloc (.cells #[.int .i64 h] 3)) := (Below.refl _ _).alloc (Nat.le_refl _) _
      exact hK.out _ _ (hw.trans (hal.mono hw.size)) (fun hwn => S0_1_2_3_4_5_8_9.out (w'.alloc (.cells #[.int .i64 h] 3)) w'.heap.size hwn (by go_simp))
    refine AllReadyH.cons (o := { dst := some 21, op := Go.Op.buildSlice 49 1 #[(0, Go.Operand.tmp 20)], type := 49, pos := "glass.go:7", after := #[{ on := 9, ground := Go.Ground.data }], guard := none }) (by rw [hops]; kernel_rfl) (fun K hK => ?_) ?_
    · rw [if_pos (by rw [hops]; kernel_rfl)]
      go_simp
      have hal : Below w'.heap.size w' (w'.alloc (.cells #[.int .i64 ex, .int .i64 eb, .int .i64 eh] 26)) := (Below.refl _ _).alloc (Nat.le_refl _) _
      exact hK.out _ _ (hw.trans (hal.mono hw.size)) (fun hwn => S0_1_2_3_4_8_9_10.out (w'.alloc (.cells #[.int .i64 ex, .int .i64 eb, .int .i64 eh] 26)) w'.heap.size hwn (by go_simp) (by go_simp) (by go_simp))
    exact AllReadyH.nil
  have S0_1_2_8_9_10 : Kp (∀ (w' : World) (b10 : Nat), Below W1.heap.size W1 w' → w'.cell? ⟨b10, 0, none⟩ = some (.int .i64 ex) → w'.cell? ⟨b10, 1, none⟩ = some (.int .i64 eb) → w'.cell? ⟨b10, 2, none⟩ = some (.int .i64 eh) → wpAnyH Try.prog .any ops Qp (fun w' => Below W1.heap.size W1 w') 7 #[true, true, true, false, false, false, false, false, true, true, true, false, false] { tmps := #[.agg #[.int .i64 wd, .int .i64 dp, .slice g M c], .agg #[.int .i64 ex, .int .i64 eb, .int .i64 eh], .int .i64 y, .int .i64 h, .pointer (some ⟨B, 0, none⟩), .pointer (some ⟨B + 1, 0, none⟩), undef, undef, .pointer (some ⟨B + 2, 0, none⟩), .int .i64 0, undef, .agg #[.int .i64 wd, .int .i64 dp, .slice g M c], .int .i64 y, .bool true, undef, undef, undef, undef, undef, .agg #[.int .i64 wd, .int .i64 dp, .slice g M c], .agg #[.int .i64 ex, .int .i64 eb, .int .i64 eh], .slice (some ⟨b10, 0, none⟩) 1 1, undef, undef, undef, undef, undef, undef, undef, undef, undef, undef, undef, undef, undef, undef], defers := [] } w') := by
    refine ⟨?_⟩
    intro w' b10 hw f10_0 f10_1 f10_2
    refine wpAnyH_take (i := 3) (oi := { dst := some 14, op := Go.Op.move (Go.Operand.tmp 13), type := 4, pos := "glass.go:7", after := #[{ on := 2, ground := Go.Ground.data }, { on := 2, ground := Go.Ground.chain }], guard := none }) (v := .bool true) (by rw [hops]; kernel_rfl) (by rw [hops]; kernel_rfl) (by rw [hops]; kernel_rfl) (by rw [hops]; kernel_rfl) (fun c a w h => HQP.out c a _ _ w h) (Or.inl ⟨by rw [hops]; kernel_rfl, by intro w _; go_simp⟩) hw ?_
    simp only [Act.put, List.setIfInBounds_toArray, List.set_cons_zero, List.set_cons_succ]
    refine wpAnyH_take (i := 4) (oi := { dst := some 15, op := Go.Op.move (Go.Operand.tmp 3), type := 3, pos := "glass.go:7", after := #[{ on := 3, ground := Go.Ground.guard }], guard := some (3, true) }) (v := .int .i64 h) (by rw [hops]; kernel_rfl) (by rw [hops]; kernel_rfl) (by rw [hops]; kernel_rfl) (by rw [hops]; kernel_rfl) (fun c a w h => HQP.out c a _ _ w h) (Or.inl ⟨by rw [hops]; kernel_rfl, by intro w _; go_simp⟩) hw ?_
    simp only [Act.put, List.setIfInBounds_toArray, List.set_cons_zero, List.set_cons_succ]
    refine wpAnyH_ready (rs := [5]) (by rw [hops]; kernel_rfl) (by simp) ?_
    refine AllReadyH.cons (o := { dst := some 16, op := Go.Op.buildSlice 22 1 #[(0, Go.Operand.tmp 15)], type := 22, pos := "glass.go:7", after := #[{ on := 4, ground := Go.Ground.data }, { on := 3, ground := Go.Ground.guard }], guard := some (3, true) }) (by rw [hops]; kernel_rfl) (fun K hK => ?_) ?_
    · rw [if_pos (by rw [hops]; kernel_rfl)]
      go_simp
      have hal : Below w'.heap.size w' (w'.alloc (.cells #[.int .i64 h] 3)) := (Below.refl _ _).alloc (Nat.le_refl _) _
      exact hK.out _ _ (hw.trans (hal.mono hw.size)) (fun hwn => S0_1_2_3_4_5_8_9_10.out (w'.alloc (.cells #[.int .i64 h] 3)) w'.heap.size b10 hwn (by go_simp) ((hal.cell (p := ⟨b10, 0, none⟩) (World.block_lt_of_cell? _ _ f10_0)).trans f10_0) ((hal.cell (p := ⟨b10, 1, none⟩) (World.block_lt_of_cell? _ _ f10_1)).trans f10_1) ((hal.cell (p := ⟨b10, 2, none⟩) (World.block_lt_of_cell? _ _ f10_2)).trans f10_2))
    exact AllReadyH.nil
  have S0_1_8_9_10 : Kp (∀ (w' : World) (b10 : Nat), Below W1.heap.size W1 w' → w'.cell? ⟨b10, 0, none⟩ = some (.int .i64 ex) → w'.cell? ⟨b10, 1, none⟩ = some (.int .i64 eb) → w'.cell? ⟨b10, 2, none⟩ = some (.int .i64 eh) → wpAnyH Try.prog .any ops Qp (fun w' => Below W1.heap.size W1 w') 8 #[true, true, false, false, false, false, false, false, true, true, true, false, false] { tmps := #[.agg #[.int .i64 wd, .int .i64 dp, .slice g M c], .agg #[.int .i64 ex, .int .i64 eb, .int .i64 eh], .int .i64 y, .int .i64 h, .pointer (some ⟨B, 0, none⟩), .pointer (some ⟨B + 1, 0, none⟩), undef, undef, .pointer (some ⟨B + 2, 0, none⟩), .int .i64 0, undef, .agg #[.int .i64 wd, .int .i64 dp, .slice g M c], .int .i64 y, undef, undef, undef, undef, undef, undef, .agg #[.int .i64 wd, .int .i64 dp, .slice g M c], .agg #[.int .i64 ex, .int .i64 eb, .int .i64 eh], .slice (some ⟨b10, 0, none⟩) 1 1, undef, undef, undef, undef, undef, undef, undef, undef, undef, undef, undef, undef, undef, undef], defers := [] } w') := by
    refine ⟨?_⟩
    intro w' b10 hw f10_0 f10_1 f10_2
    refine wpAnyH_ready (rs := [2]) (by rw [hops]; kernel_rfl) (by simp) ?_
    refine AllReadyH.cons (o := { dst := some 13, op := Go.Op.call { callee := Go.Callee.value (Go.Operand.func 71), args := #[Go.Operand.tmp 11, Go.Operand.tmp 12], argTypes := #[24, 3] }, type := 4, pos := "glass.go:7", after := #[{ on := 0, ground := Go.Ground.data }, { on := 1, ground := Go.Ground.data }], guard := none }) (by rw [hops]; kernel_rfl) (fun K hK => ?_) ?_
    · rw [if_pos (by rw [hops]; kernel_rfl)]
      go_simp
      refine (HR1.out _).mono ?_
      rintro en w5 ⟨rfl, hb5⟩
      exact hK.out _ _ (hw.trans (hb5.mono hw.size)) (fun hwn => S0_1_2_8_9_10.out w5 b10 hwn ((hb5.cell (p := ⟨b10, 0, none⟩) (World.block_lt_of_cell? _ _ f10_0)).trans f10_0) ((hb5.cell (p := ⟨b10, 1, none⟩) (World.block_lt_of_cell? _ _ f10_1)).trans f10_1) ((hb5.cell (p := ⟨b10, 2, none⟩) (World.block_lt_of_cell? _ _ f10_2)).trans f10_2))
    exact AllReadyH.nil
  have S : Kp (∀ (w' : World), Below W1.heap.size W1 w' → wpAnyH Try.prog .any ops Qp (fun w' => Below W1.heap.size W1 w') 13 #[false, false, false, false, false, false, false, false, false, false, false, false, false] { tmps := #[.agg #[.int .i64 wd, .int .i64 dp, .slice g M c], .agg #[.int .i64 ex, .int .i64 eb, .int .i64 eh], .int .i64 y, .int .i64 h, .pointer (some ⟨B, 0, none⟩), .pointer (some ⟨B + 1, 0, none⟩), undef, undef, .pointer (some ⟨B + 2, 0, none⟩), .int .i64 0, undef, undef, undef, undef, undef, undef, undef, undef, undef, undef, undef, undef, undef, undef, undef, undef, undef, undef, undef, undef, undef, undef, undef, undef, undef, undef], defers := [] } w') := by
    refine ⟨?_⟩
    intro w' hw
    refine wpAnyH_take (i := 0) (oi := { dst := some 11, op := Go.Op.load 24 (Go.Operand.tmp 4), type := 24, pos := "glass.go:7", after := #[], guard := none }) (v := .agg #[.int .i64 wd, .int .i64 dp, .slice g M c]) (by rw [hops]; kernel_rfl) (by rw [hops]; kernel_rfl) (by rw [hops]; kernel_rfl) (by rw [hops]; kernel_rfl) (fun c a w h => HQP.out c a _ _ w h) (Or.inl ⟨by rw [hops]; kernel_rfl, by intro w hwS; obtain ⟨q0, q1, q2, q3, q4, q5, r0, r1, rz⟩ := HALL.out w hwS; go_simp⟩) hw ?_
    simp only [Act.put, List.setIfInBounds_toArray, List.set_cons_zero, List.set_cons_succ]
    refine wpAnyH_take (i := 1) (oi := { dst := some 12, op := Go.Op.move (Go.Operand.tmp 2), type := 3, pos := "glass.go:7", after := #[], guard := none }) (v := .int .i64 y) (by rw [hops]; kernel_rfl) (by rw [hops]; kernel_rfl) (by rw [hops]; kernel_rfl) (by rw [hops]; kernel_rfl) (fun c a w h => HQP.out c a _ _ w h) (Or.inl ⟨by rw [hops]; kernel_rfl, by intro w _; go_simp⟩) hw ?_
    simp only [Act.put, List.setIfInBounds_toArray, List.set_cons_zero, List.set_cons_succ]
    refine wpAnyH_take (i := 8) (oi := { dst := some 19, op := Go.Op.load 24 (Go.Operand.tmp 4), type := 24, pos := "glass.go:7", after := #[], guard := none }) (v := .agg #[.int .i64 wd, .int .i64 dp, .slice g M c]) (by rw [hops]; kernel_rfl) (by rw [hops]; kernel_rfl) (by rw [hops]; kernel_rfl) (by rw [hops]; kernel_rfl) (fun c a w h => HQP.out c a _ _ w h) (Or.inl ⟨by rw [hops]; kernel_rfl, by intro w hwS; obtain ⟨q0, q1, q2, q3, q4, q5, r0, r1, rz⟩ := HALL.out w hwS; go_simp⟩) hw ?_
    simp only [Act.put, List.setIfInBounds_toArray, List.set_cons_zero, List.set_cons_succ]
    refine wpAnyH_take (i := 9) (oi := { dst := some 20, op := Go.Op.load 26 (Go.Operand.tmp 5), type := 26, pos := "glass.go:7", after := #[], guard := none }) (v := .agg #[.int .i64 ex, .int .i64 eb, .int .i64 eh]) (by rw [hops]; kernel_rfl) (by rw [hops]; kernel_rfl) (by rw [hops]; kernel_rfl) (by rw [hops]; kernel_rfl) (fun c a w h => HQP.out c a _ _ w h) (Or.inl ⟨by rw [hops]; kernel_rfl, by intro w hwS; obtain ⟨q0, q1, q2, q3, q4, q5, r0, r1, rz⟩ := HALL.out w hwS; go_simp⟩) hw ?_
    simp only [Act.put, List.setIfInBounds_toArray, List.set_cons_zero, List.set_cons_succ]
    refine wpAnyH_ready (rs := [2, 10]) (by rw [hops]; kernel_rfl) (by simp) ?_
    refine AllReadyH.cons (o := { dst := some 13, op := Go.Op.call { callee := Go.Callee.value (Go.Operand.func 71), args := #[Go.Operand.tmp 11, Go.Operand.tmp 12], argTypes := #[24, 3] }, type := 4, pos := "glass.go:7", after := #[{ on := 0, ground := Go.Ground.data }, { on := 1, ground := Go.Ground.data }], guard := none }) (by rw [hops]; kernel_rfl) (fun K hK => ?_) ?_
    · rw [if_pos (by rw [hops]; kernel_rfl)]
      go_simp
      refine (HR1.out _).mono ?_
      rintro en w5 ⟨rfl, hb5⟩
      exact hK.out _ _ (hw.trans (hb5.mono hw.size)) (fun hwn => S0_1_2_8_9.out w5 hwn)
    refine AllReadyH.cons (o := { dst := some 21, op := Go.Op.buildSlice 49 1 #[(0, Go.Operand.tmp 20)], type := 49, pos := "glass.go:7", after := #[{ on := 9, ground := Go.Ground.data }], guard := none }) (by rw [hops]; kernel_rfl) (fun K hK => ?_) ?_
    · rw [if_pos (by rw [hops]; kernel_rfl)]
      go_simp
      have hal : Below w'.heap.size w' (w'.alloc (.cells #[.int .i64 ex, .int .i64 eb, .int .i64 eh] 26)) := (Below.refl _ _).alloc (Nat.le_refl _) _
      exact hK.out _ _ (hw.trans (hal.mono hw.size)) (fun hwn => S0_1_8_9_10.out (w'.alloc (.cells #[.int .i64 ex, .int .i64 eb, .int .i64 eh] 26)) w'.heap.size hwn (by go_simp) (by go_simp) (by go_simp))
    exact AllReadyH.nil
  have hsz : ops.size = 13 := by rw [hops]; rfl
  refine wp_region_held_drew (S := fun w' => Below W1.heap.size W1 w') (by kernel_rfl) (Below.drew (Below.refl _ _)) (fun hw0 => ?_)
  rw [hsz]
  exact S.out _ hw0
set_option maxRecDepth 100000 in
set_option maxHeartbeats 4000000 in
theorem Looks_no (wd dp ex eb eh y h to : Int) (g : Option Addr) (M c : Nat) (ER : Int) (Q : Bool) (n d : Nat) (w : World)
    (HR1 : Kp (∀ W, Calls Try.prog 71 #[.agg #[.int .i64 wd, .int .i64 dp, .slice g M c], .int .i64 y] W fun e w' => e = .returned (.bool false) ∧ Below W.heap.size W w')) (HWI : Kp (∀ W u, IS W u [h] → Calls Try.prog 51 #[.int .i64 0, .int .i64 3000, u] W fun e w' => e = .returned (.bool Q) ∧ W = w'))
    (HCK : Kp (∀ W u, Below w.heap.size w W → ES W u [⟨ex, eb, eh⟩] → Calls Try.prog 46 #[.bool false, .agg #[.int .i64 wd, .int .i64 dp, .slice g M c], u] W fun e w' => e = .returned (.int .i64 ER) ∧ Below W.heap.size W w'))
    (HND : Kp (ER = 0 → IntKind.i64.wrap (h * eb) = (n : Int) ∧ IntKind.i64.wrap (y + eb) = (d : Int) ∧ n ≤ 100000000 ∧ d ≤ 100000000 ∧ 0 < d)) :
    Calls Try.prog 42 #[.agg #[.int .i64 wd, .int .i64 dp, .slice g M c], .agg #[.int .i64 ex, .int .i64 eb, .int .i64 eh], .int .i64 y, .int .i64 h] w fun e w' => e = .returned (looksV ER n d) ∧ Below w.heap.size w w' := by
  go_enter Try.func42, Try.ntmps42
  go_wp2
  simp only [Nat.add_assoc, Nat.reduceAdd]
  obtain ⟨W1, hW1⟩ : ∃ W, ((w.alloc (.cells #[.int .i64 wd, .int .i64 dp, .slice g M c] 24)).alloc (.cells #[.int .i64 ex, .int .i64 eb, .int .i64 eh] 26)).alloc (.cells #[.int .i64 0, .int .i64 0] 59) = W := ⟨_, rfl⟩
  obtain ⟨hb1, hall⟩ := boxesR_start hW1
  rw [hW1]
  obtain ⟨B, hB⟩ : ∃ B, w.heap.size = B := ⟨_, rfl⟩
  have HBB := Kp.mk hB
  rw [hB] at hall
  have HB1 := Kp.mk hb1
  have HALL := Kp.mk hall
  try simp only [hB]
  clear hW1 hb1 hall hB
  refine wp_region_noPanic ?_
  refine region_nm ?_
  intro ops Qp hops hQp
  have HQP : Kp (∀ c a d v w, Qp (.panic c) (Act.put a d v) w → Qp (.panic c) a w) := ⟨by subst hQp; intro c a d v w h; exact h⟩
  have HFIN : Kp (∀ (w' : World) (b10 : Nat), Below W1.heap.size W1 w' → Qp .normal { tmps := #[.agg #[.int .i64 wd, .int .i64 dp, .slice g M c], .agg #[.int .i64 ex, .int .i64 eb, .int .i64 eh], .int .i64 y, .int .i64 h, .pointer (some ⟨B, 0, none⟩), .pointer (some ⟨B + 1, 0, none⟩), undef, undef, .pointer (some ⟨B + 2, 0, none⟩), .int .i64 0, .int .i64 ER, .agg #[.int .i64 wd, .int .i64 dp, .slice g M c], .int .i64 y, .bool false, .bool false, undef, undef, undef, .bool false, .agg #[.int .i64 wd, .int .i64 dp, .slice g M c], .agg #[.int .i64 ex, .int .i64 eb, .int .i64 eh], .slice (some ⟨b10, 0, none⟩) 1 1, .int .i64 ER, undef, undef, undef, undef, undef, undef, undef, undef, undef, undef, undef, undef, undef], defers := [] } w') := by
    refine ⟨?_⟩
    intro w' b10 hw
    obtain ⟨q0, q1, q2, q3, q4, q5, r0, r1, rz⟩ := HALL.out w' hw
    have HBW := Kp.mk (HB1.out.trans (hw.mono HB1.out.size))
    have z0 := rz 0
    have z1 := rz 1
    clear HQP hops hw rz
    subst hQp
    refine NoPanic.normal ?_
    by_cases hE : ER = 0
    · subst hE
      obtain ⟨k1, k2, k3, k4, k5⟩ := HND.out rfl
      have HRT := Kp.mk (fun W => ratio_any n d W k3 k4 k5)
      have HV : Kp (looksV 0 n d = .tuple #[.agg #[.int .i64 (n / Nat.gcd n d : Nat), .int .i64 (d / Nat.gcd n d : Nat)], .int .i64 0]) := ⟨rfl⟩
      obtain ⟨A, hA⟩ : ∃ A, n / Nat.gcd n d = A := ⟨_, rfl⟩
      obtain ⟨D, hD⟩ : ∃ A, d / Nat.gcd n d = A := ⟨_, rfl⟩
      rw [hA, hD] at HRT HV
      clear k3 k4 k5 hA hD
      have hBl := World.block_lt_of_cell? _ _ r0
      go_wp2_with fail
      refine (HRT.out _).mono ?_
      rintro en w6 ⟨rfl, hb6⟩
      have s0 := (hb6.cell (p := ⟨B + 2, 0, none⟩) hBl).trans r0
      have s1 := (hb6.cell (p := ⟨B + 2, 1, none⟩) hBl).trans r1
      have t0 := (World.frozen?_of_block (a := ⟨B + 2, 0, none⟩) (hb6.block _ hBl)).trans z0
      have t1 := (World.frozen?_of_block (a := ⟨B + 2, 1, none⟩) (hb6.block _ hBl)).trans z1
      have HB6 := Kp.mk (HBW.out.trans (hb6.mono HBW.out.size))
      clear hb6 q0 q1 q2 q3 q4 q5 r0 r1 z0 z1 hBl
      go_wp2
      exact bodyPost_ret (v := .tuple #[.agg #[.int .i64 A, .int .i64 D], .int .i64 0]) (by simp [results, Try.results42, go_sem, s0, s1]) rfl ⟨by rw [HV.out], (HB6.out.setCell (by have := HBB.out; simp only; omega) _).setCell (by have := HBB.out; simp only; omega) _⟩
    · have i1 : (ER == (0 : Int)) = false := by simp [hE]
      have i2 : (ER != (0 : Int)) = true := by simp [hE]
      have HV : Kp (looksV ER n d = .tuple #[.agg #[.int .i64 0, .int .i64 0], .int .i64 ER]) := ⟨by unfold looksV; rw [if_neg hE]⟩
      clear hE
      go_wp2
      exact bodyPost_ret (v := .tuple #[.agg #[.int .i64 0, .int .i64 0], .int .i64 ER]) (by simp [results, Try.results42, go_sem, r0, r1]) rfl ⟨by rw [HV.out], (HBW.out.setCell (by have := HBB.out; simp only; omega) _).setCell (by have := HBB.out; simp only; omega) _⟩
  have S0_1_2_3_4_5_6_7_8_9_10_11 : Kp (∀ (w' : World) (b10 : Nat), Below W1.heap.size W1 w' → w'.cell? ⟨b10, 0, none⟩ = some (.int .i64 ex) → w'.cell? ⟨b10, 1, none⟩ = some (.int .i64 eb) → w'.cell? ⟨b10, 2, none⟩ = some (.int .i64 eh) → wpAnyH Try.prog .any ops Qp (fun w' => Below W1.heap.size W1 w') 1 #[true, true, true, true, true, true, true, true, true, true, true, true, false] { tmps := #[.agg #[.int .i64 wd, .int .i64 dp, .slice g M c], .agg #[.int .i64 ex, .int .i64 eb, .int .i64 eh], .int .i64 y, .int .i64 h, .pointer (some ⟨B, 0, none⟩), .pointer (some ⟨B + 1, 0, none⟩), undef, undef, .pointer (some ⟨B + 2, 0, none⟩), .int .i64 0, undef, .agg #[.int .i64 wd, .int .i64 dp, .slice g M c], .int .i64 y, .bool false, .bool false, undef, undef, undef, .bool false, .agg #[.int .i64 wd, .int .i64 dp, .slice g M c], .agg #[.int .i64 ex, .int .i64 eb, .int .i64 eh], .slice (some ⟨b10, 0, none⟩) 1 1, .int .i64 ER, undef, undef, undef, undef, undef, undef, undef, undef, undef, undef, undef, undef, undef], defers := [] } w') := by
    refine ⟨?_⟩
    intro w' b10 hw f10_0 f10_1 f10_2
    refine wpAnyH_take (i := 12) (oi := { dst := some 10, op := Go.Op.assign (Go.Operand.tmp 22), type := 28, pos := "glass.go:7", after := #[{ on := 11, ground := Go.Ground.data }, { on := 11, ground := Go.Ground.chain }, { on := 0, ground := Go.Ground.phase }, { on := 1, ground := Go.Ground.phase }, { on := 2, ground := Go.Ground.phase }, { on := 3, ground := Go.Ground.phase }, { on := 4, ground := Go.Ground.phase }, { on := 5, ground := Go.Ground.phase }, { on := 6, ground := Go.Ground.phase }, { on := 7, ground := Go.Ground.phase }, { on := 8, ground := Go.Ground.phase }, { on := 9, ground := Go.Ground.phase }, { on := 10, ground := Go.Ground.phase }, { on := 11, ground := Go.Ground.phase }], guard := none }) (v := .int .i64 ER) (by rw [hops]; kernel_rfl) (by rw [hops]; kernel_rfl) (by rw [hops]; kernel_rfl) (by rw [hops]; kernel_rfl) (fun c a w h => HQP.out c a _ _ w h) (Or.inl ⟨by rw [hops]; kernel_rfl, by intro w _; go_simp⟩) hw ?_
    simp only [Act.put, List.setIfInBounds_toArray, List.set_cons_zero, List.set_cons_succ]
    refine wpAnyH_done (by rw [hops]; kernel_rfl) ?_ _
    exact HFIN.out w' b10 hw
  have S0_1_2_3_4_5_6_7_8_9_10 : Kp (∀ (w' : World) (b10 : Nat), Below W1.heap.size W1 w' → w'.cell? ⟨b10, 0, none⟩ = some (.int .i64 ex) → w'.cell? ⟨b10, 1, none⟩ = some (.int .i64 eb) → w'.cell? ⟨b10, 2, none⟩ = some (.int .i64 eh) → wpAnyH Try.prog .any ops Qp (fun w' => Below W1.heap.size W1 w') 2 #[true, true, true, true, true, true, true, true, true, true, true, false, false] { tmps := #[.agg #[.int .i64 wd, .int .i64 dp, .slice g M c], .agg #[.int .i64 ex, .int .i64 eb, .int .i64 eh], .int .i64 y, .int .i64 h, .pointer (some ⟨B, 0, none⟩), .pointer (some ⟨B + 1, 0, none⟩), undef, undef, .pointer (some ⟨B + 2, 0, none⟩), .int .i64 0, undef, .agg #[.int .i64 wd, .int .i64 dp, .slice g M c], .int .i64 y, .bool false, .bool false, undef, undef, undef, .bool false, .agg #[.int .i64 wd, .int .i64 dp, .slice g M c], .agg #[.int .i64 ex, .int .i64 eb, .int .i64 eh], .slice (some ⟨b10, 0, none⟩) 1 1, undef, undef, undef, undef, undef, undef, undef, undef, undef, undef, undef, undef, undef, undef], defers := [] } w') := by
    refine ⟨?_⟩
    intro w' b10 hw f10_0 f10_1 f10_2
    refine wpAnyH_ready (rs := [11]) (by rw [hops]; kernel_rfl) (by simp) ?_
    refine AllReadyH.cons (o := { dst := some 22, op := Go.Op.call { callee := Go.Callee.value (Go.Operand.func 46), args := #[Go.Operand.tmp 18, Go.Operand.tmp 19, Go.Operand.tmp 21], argTypes := #[4, 24, 49] }, type := 28, pos := "glass.go:7", after := #[{ on := 7, ground := Go.Ground.data }, { on := 8, ground := Go.Ground.data }, { on := 10, ground := Go.Ground.data }, { on := 6, ground := Go.Ground.chain }], guard := none }) (by rw [hops]; kernel_rfl) (fun K hK => ?_) ?_
    · rw [if_pos (by rw [hops]; kernel_rfl)]
      go_simp
      refine (HCK.out _ _ (HB1.out.trans (hw.mono HB1.out.size)) (es_one (e := ⟨ex, eb, eh⟩) f10_0 f10_1 f10_2)).mono ?_
      rintro en w5 ⟨rfl, hb5⟩
      exact hK.out _ _ (hw.trans (hb5.mono hw.size)) (fun hwn => S0_1_2_3_4_5_6_7_8_9_10_11.out w5 b10 hwn ((hb5.cell (p := ⟨b10, 0, none⟩) (World.block_lt_of_cell? _ _ f10_0)).trans f10_0) ((hb5.cell (p := ⟨b10, 1, none⟩) (World.block_lt_of_cell? _ _ f10_1)).trans f10_1) ((hb5.cell (p := ⟨b10, 2, none⟩) (World.block_lt_of_cell? _ _ f10_2)).trans f10_2))
    exact AllReadyH.nil
  have S0_1_2_8_9 : Kp (∀ (w' : World), Below W1.heap.size W1 w' → wpAnyH Try.prog .any ops Qp (fun w' => Below W1.heap.size W1 w') 8 #[true, true, true, false, false, false, false, false, true, true, false, false, false] { tmps := #[.agg #[.int .i64 wd, .int .i64 dp, .slice g M c], .agg #[.int .i64 ex, .int .i64 eb, .int .i64 eh], .int .i64 y, .int .i64 h, .pointer (some ⟨B, 0, none⟩), .pointer (some ⟨B + 1, 0, none⟩), undef, undef, .pointer (some ⟨B + 2, 0, none⟩), .int .i64 0, undef, .agg #[.int .i64 wd, .int .i64 dp, .slice g M c], .int .i64 y, .bool false, undef, undef, undef, undef, undef, .agg #[.int .i64 wd, .int .i64 dp, .slice g M c], .agg #[.int .i64 ex, .int .i64 eb, .int .i64 eh], undef, undef, undef, undef, undef, undef, undef, undef, undef, undef, undef, undef, undef, undef, undef], defers := [] } w') := by
    refine ⟨?_⟩
    intro w' hw
    refine wpAnyH_take (i := 3) (oi := { dst := some 14, op := Go.Op.move (Go.Operand.tmp 13), type := 4, pos := "glass.go:7", after := #[{ on := 2, ground := Go.Ground.data }, { on := 2, ground := Go.Ground.chain }], guard := none }) (v := .bool false) (by rw [hops]; kernel_rfl) (by rw [hops]; kernel_rfl) (by rw [hops]; kernel_rfl) (by rw [hops]; kernel_rfl) (fun c a w h => HQP.out c a _ _ w h) (Or.inl ⟨by rw [hops]; kernel_rfl, by intro w _; go_simp⟩) hw ?_
    simp only [Act.put, List.setIfInBounds_toArray, List.set_cons_zero, List.set_cons_succ]
    refine wpAnyH_take (i := 4) (oi := { dst := some 15, op := Go.Op.move (Go.Operand.tmp 3), type := 3, pos := "glass.go:7", after := #[{ on := 3, ground := Go.Ground.guard }], guard := some (3, true) }) (v := undef) (by rw [hops]; kernel_rfl) (by rw [hops]; kernel_rfl) (by rw [hops]; kernel_rfl) (by rw [hops]; kernel_rfl) (fun c a w h => HQP.out c a _ _ w h) (Or.inr ⟨by rw [hops]; kernel_rfl, rfl⟩) hw ?_
    simp only [Act.put, List.setIfInBounds_toArray, List.set_cons_zero, List.set_cons_succ]
    refine wpAnyH_take (i := 5) (oi := { dst := some 16, op := Go.Op.buildSlice 22 1 #[(0, Go.Operand.tmp 15)], type := 22, pos := "glass.go:7", after := #[{ on := 4, ground := Go.Ground.data }, { on := 3, ground := Go.Ground.guard }], guard := some (3, true) }) (v := undef) (by rw [hops]; kernel_rfl) (by rw [hops]; kernel_rfl) (by rw [hops]; kernel_rfl) (by rw [hops]; kernel_rfl) (fun c a w h => HQP.out c a _ _ w h) (Or.inr ⟨by rw [hops]; kernel_rfl, rfl⟩) hw ?_
    simp only [Act.put, List.setIfInBounds_toArray, List.set_cons_zero, List.set_cons_succ]
    refine wpAnyH_take (i := 6) (oi := { dst := some 17, op := Go.Op.call { callee := Go.Callee.value (Go.Operand.func 51), args := #[Go.Operand.const (Go.Value.int Go.IntKind.i64 0), Go.Operand.const (Go.Value.int Go.IntKind.i64 3000), Go.Operand.tmp 16], argTypes := #[3, 3, 22] }, type := 4, pos := "glass.go:7", after := #[{ on := 5, ground := Go.Ground.data }, { on := 3, ground := Go.Ground.chain }, { on := 3, ground := Go.Ground.guard }], guard := some (3, true) }) (v := undef) (by rw [hops]; kernel_rfl) (by rw [hops]; kernel_rfl) (by rw [hops]; kernel_rfl) (by rw [hops]; kernel_rfl) (fun c a w h => HQP.out c a _ _ w h) (Or.inr ⟨by rw [hops]; kernel_rfl, rfl⟩) hw ?_
    simp only [Act.put, List.setIfInBounds_toArray, List.set_cons_zero, List.set_cons_succ]
    refine wpAnyH_take (i := 7) (oi := { dst := some 18, op := Go.Op.pick (Go.Operand.tmp 14) (Go.Operand.tmp 17) (Go.Operand.const (Go.Value.bool false)), type := 4, pos := "glass.go:7", after := #[{ on := 3, ground := Go.Ground.data }, { on := 6, ground := Go.Ground.data }], guard := none }) (v := .bool false) (by rw [hops]; kernel_rfl) (by rw [hops]; kernel_rfl) (by rw [hops]; kernel_rfl) (by rw [hops]; kernel_rfl) (fun c a w h => HQP.out c a _ _ w h) (Or.inl ⟨by rw [hops]; kernel_rfl, by intro w _; go_simp⟩) hw ?_
    simp only [Act.put, List.setIfInBounds_toArray, List.set_cons_zero, List.set_cons_succ]
    refine wpAnyH_ready (rs := [10]) (by rw [hops]; kernel_rfl) (by simp) ?_
    refine AllReadyH.cons (o := { dst := some 21, op := Go.Op.buildSlice 49 1 #[(0, Go.Operand.tmp 20)], type := 49, pos := "glass.go:7", after := #[{ on := 9, ground := Go.Ground.data }], guard := none }) (by rw [hops]; kernel_rfl) (fun K hK => ?_) ?_
    · rw [if_pos (by rw [hops]; kernel_rfl)]
      go_simp
      have hal : Below w'.heap.size w' (w'.alloc (.cells #[.int .i64 ex, .int .i64 eb, .int .i64 eh] 26)) := (Below.refl _ _).alloc (Nat.le_refl _) _
      exact hK.out _ _ (hw.trans (hal.mono hw.size)) (fun hwn => S0_1_2_3_4_5_6_7_8_9_10.out (w'.alloc (.cells #[.int .i64 ex, .int .i64 eb, .int .i64 eh] 26)) w'.heap.size hwn (by go_simp) (by go_simp) (by go_simp))
    exact AllReadyH.nil
  have S0_1_2_8_9_10 : Kp (∀ (w' : World) (b10 : Nat), Below W1.heap.size W1 w' → w'.cell? ⟨b10, 0, none⟩ = some (.int .i64 ex) → w'.cell? ⟨b10, 1, none⟩ = some (.int .i64 eb) → w'.cell? ⟨b10, 2, none⟩ = some (.int .i64 eh) → wpAnyH Try.prog .any ops Qp (fun w' => Below W1.heap.size W1 w') 7 #[true, true, true, false, false, false, false, false, true, true, true, false, false] { tmps := #[.agg #[.int .i64 wd, .int .i64 dp, .slice g M c], .agg #[.int .i64 ex, .int .i64 eb, .int .i64 eh], .int .i64 y, .int .i64 h, .pointer (some ⟨B, 0, none⟩), .pointer (some ⟨B + 1, 0, none⟩), undef, undef, .pointer (some ⟨B + 2, 0, none⟩), .int .i64 0, undef, .agg #[.int .i64 wd, .int .i64 dp, .slice g M c], .int .i64 y, .bool false, undef, undef, undef, undef, undef, .agg #[.int .i64 wd, .int .i64 dp, .slice g M c], .agg #[.int .i64 ex, .int .i64 eb, .int .i64 eh], .slice (some ⟨b10, 0, none⟩) 1 1, undef, undef, undef, undef, undef, undef, undef, undef, undef, undef, undef, undef, undef, undef], defers := [] } w') := by
    refine ⟨?_⟩
    intro w' b10 hw f10_0 f10_1 f10_2
    refine wpAnyH_take (i := 3) (oi := { dst := some 14, op := Go.Op.move (Go.Operand.tmp 13), type := 4, pos := "glass.go:7", after := #[{ on := 2, ground := Go.Ground.data }, { on := 2, ground := Go.Ground.chain }], guard := none }) (v := .bool false) (by rw [hops]; kernel_rfl) (by rw [hops]; kernel_rfl) (by rw [hops]; kernel_rfl) (by rw [hops]; kernel_rfl) (fun c a w h => HQP.out c a _ _ w h) (Or.inl ⟨by rw [hops]; kernel_rfl, by intro w _; go_simp⟩) hw ?_
    simp only [Act.put, List.setIfInBounds_toArray, List.set_cons_zero, List.set_cons_succ]
    refine wpAnyH_take (i := 4) (oi := { dst := some 15, op := Go.Op.move (Go.Operand.tmp 3), type := 3, pos := "glass.go:7", after := #[{ on := 3, ground := Go.Ground.guard }], guard := some (3, true) }) (v := undef) (by rw [hops]; kernel_rfl) (by rw [hops]; kernel_rfl) (by rw [hops]; kernel_rfl) (by rw [hops]; kernel_rfl) (fun c a w h => HQP.out c a _ _ w h) (Or.inr ⟨by rw [hops]; kernel_rfl, rfl⟩) hw ?_
    simp only [Act.put, List.setIfInBounds_toArray, List.set_cons_zero, List.set_cons_succ]
    refine wpAnyH_take (i := 5) (oi := { dst := some 16, op := Go.Op.buildSlice 22 1 #[(0, Go.Operand.tmp 15)], type := 22, pos := "glass.go:7", after := #[{ on := 4, ground := Go.Ground.data }, { on := 3, ground := Go.Ground.guard }], guard := some (3, true) }) (v := undef) (by rw [hops]; kernel_rfl) (by rw [hops]; kernel_rfl) (by rw [hops]; kernel_rfl) (by rw [hops]; kernel_rfl) (fun c a w h => HQP.out c a _ _ w h) (Or.inr ⟨by rw [hops]; kernel_rfl, rfl⟩) hw ?_
    simp only [Act.put, List.setIfInBounds_toArray, List.set_cons_zero, List.set_cons_succ]
    refine wpAnyH_take (i := 6) (oi := { dst := some 17, op := Go.Op.call { callee := Go.Callee.value (Go.Operand.func 51), args := #[Go.Operand.const (Go.Value.int Go.IntKind.i64 0), Go.Operand.const (Go.Value.int Go.IntKind.i64 3000), Go.Operand.tmp 16], argTypes := #[3, 3, 22] }, type := 4, pos := "glass.go:7", after := #[{ on := 5, ground := Go.Ground.data }, { on := 3, ground := Go.Ground.chain }, { on := 3, ground := Go.Ground.guard }], guard := some (3, true) }) (v := undef) (by rw [hops]; kernel_rfl) (by rw [hops]; kernel_rfl) (by rw [hops]; kernel_rfl) (by rw [hops]; kernel_rfl) (fun c a w h => HQP.out c a _ _ w h) (Or.inr ⟨by rw [hops]; kernel_rfl, rfl⟩) hw ?_
    simp only [Act.put, List.setIfInBounds_toArray, List.set_cons_zero, List.set_cons_succ]
    refine wpAnyH_take (i := 7) (oi := { dst := some 18, op := Go.Op.pick (Go.Operand.tmp 14) (Go.Operand.tmp 17) (Go.Operand.const (Go.Value.bool false)), type := 4, pos := "glass.go:7", after := #[{ on := 3, ground := Go.Ground.data }, { on := 6, ground := Go.Ground.data }], guard := none }) (v := .bool false) (by rw [hops]; kernel_rfl) (by rw [hops]; kernel_rfl) (by rw [hops]; kernel_rfl) (by rw [hops]; kernel_rfl) (fun c a w h => HQP.out c a _ _ w h) (Or.inl ⟨by rw [hops]; kernel_rfl, by intro w _; go_simp⟩) hw ?_
    simp only [Act.put, List.setIfInBounds_toArray, List.set_cons_zero, List.set_cons_succ]
    refine wpAnyH_ready (rs := [11]) (by rw [hops]; kernel_rfl) (by simp) ?_
    refine AllReadyH.cons (o := { dst := some 22, op := Go.Op.call { callee := Go.Callee.value (Go.Operand.func 46), args := #[Go.Operand.tmp 18, Go.Operand.tmp 19, Go.Operand.tmp 21], argTypes := #[4, 24, 49] }, type := 28, pos := "glass.go:7", after := #[{ on := 7, ground := Go.Ground.data }, { on := 8, ground := Go.Ground.data }, { on := 10, ground := Go.Ground.data }, { on := 6, ground := Go.Ground.chain }], guard := none }) (by rw [hops]; kernel_rfl) (fun K hK => ?_) ?_
    · rw [if_pos (by rw [hops]; kernel_rfl)]
      go_simp
      refine (HCK.out _ _ (HB1.out.trans (hw.mono HB1.out.size)) (es_one (e := ⟨ex, eb, eh⟩) f10_0 f10_1 f10_2)).mono ?_
      rintro en w5 ⟨rfl, hb5⟩
      exact hK.out _ _ (hw.trans (hb5.mono hw.size)) (fun hwn => S0_1_2_3_4_5_6_7_8_9_10_11.out w5 b10 hwn ((hb5.cell (p := ⟨b10, 0, none⟩) (World.block_lt_of_cell? _ _ f10_0)).trans f10_0) ((hb5.cell (p := ⟨b10, 1, none⟩) (World.block_lt_of_cell? _ _ f10_1)).trans f10_1) ((hb5.cell (p := ⟨b10, 2, none⟩) (World.block_lt_of_cell? _ _ f10_2)).trans f10_2))
    exact AllReadyH.nil
  have S0_1_8_9_10 : Kp (∀ (w' : World) (b10 : Nat), Below W1.heap.size W1 w' → w'.cell? ⟨b10, 0, none⟩ = some (.int .i64 ex) → w'.cell? ⟨b10, 1, none⟩ = some (.int .i64 eb) → w'.cell? ⟨b10, 2, none⟩ = some (.int .i64 eh) → wpAnyH Try.prog .any ops Qp (fun w' => Below W1.heap.size W1 w') 8 #[true, true, false, false, false, false, false, false, true, true, true, false, false] { tmps := #[.agg #[.int .i64 wd, .int .i64 dp, .slice g M c], .agg #[.int .i64 ex, .int .i64 eb, .int .i64 eh], .int .i64 y, .int .i64 h, .pointer (some ⟨B, 0, none⟩), .pointer (some ⟨B + 1, 0, none⟩), undef, undef, .pointer (some ⟨B + 2, 0, none⟩), .int .i64 0, undef, .agg #[.int .i64 wd, .int .i64 dp, .slice g M c], .int .i64 y, undef, undef, undef, undef, undef, undef, .agg #[.int .i64 wd, .int .i64 dp, .slice g M c], .agg #[.int .i64 ex, .int .i64 eb, .int .i64 eh], .slice (some ⟨b10, 0, none⟩) 1 1, undef, undef, undef, undef, undef, undef, undef, undef, undef, undef, undef, undef, undef, undef], defers := [] } w') := by
    refine ⟨?_⟩
    intro w' b10 hw f10_0 f10_1 f10_2
    refine wpAnyH_ready (rs := [2]) (by rw [hops]; kernel_rfl) (by simp) ?_
    refine AllReadyH.cons (o := { dst := some 13, op := Go.Op.call { callee := Go.Callee.value (Go.Operand.func 71), args := #[Go.Operand.tmp 11, Go.Operand.tmp 12], argTypes := #[24, 3] }, type := 4, pos := "glass.go:7", after := #[{ on := 0, ground := Go.Ground.data }, { on := 1, ground := Go.Ground.data }], guard := none }) (by rw [hops]; kernel_rfl) (fun K hK => ?_) ?_
    · rw [if_pos (by rw [hops]; kernel_rfl)]
      go_simp
      refine (HR1.out _).mono ?_
      rintro en w5 ⟨rfl, hb5⟩
      exact hK.out _ _ (hw.trans (hb5.mono hw.size)) (fun hwn => S0_1_2_8_9_10.out w5 b10 hwn ((hb5.cell (p := ⟨b10, 0, none⟩) (World.block_lt_of_cell? _ _ f10_0)).trans f10_0) ((hb5.cell (p := ⟨b10, 1, none⟩) (World.block_lt_of_cell? _ _ f10_1)).trans f10_1) ((hb5.cell (p := ⟨b10, 2, none⟩) (World.block_lt_of_cell? _ _ f10_2)).trans f10_2))
    exact AllReadyH.nil
  have S : Kp (∀ (w' : World), Below W1.heap.size W1 w' → wpAnyH Try.prog .any ops Qp (fun w' => Below W1.heap.size W1 w') 13 #[false, false, false, false, false, false, false, false, false, false, false, false, false] { tmps := #[.agg #[.int .i64 wd, .int .i64 dp, .slice g M c], .agg #[.int .i64 ex, .int .i64 eb, .int .i64 eh], .int .i64 y, .int .i64 h, .pointer (some ⟨B, 0, none⟩), .pointer (some ⟨B + 1, 0, none⟩), undef, undef, .pointer (some ⟨B + 2, 0, none⟩), .int .i64 0, undef, undef, undef, undef, undef, undef, undef, undef, undef, undef, undef, undef, undef, undef, undef, undef, undef, undef, undef, undef, undef, undef, undef, undef, undef, undef], defers := [] } w') := by
    refine ⟨?_⟩
    intro w' hw
    refine wpAnyH_take (i := 0) (oi := { dst := some 11, op := Go.Op.load 24 (Go.Operand.tmp 4), type := 24, pos := "glass.go:7", after := #[], guard := none }) (v := .agg #[.int .i64 wd, .int .i64 dp, .slice g M c]) (by rw [hops]; kernel_rfl) (by rw [hops]; kernel_rfl) (by rw [hops]; kernel_rfl) (by rw [hops]; kernel_rfl) (fun c a w h => HQP.out c a _ _ w h) (Or.inl ⟨by rw [hops]; kernel_rfl, by intro w hwS; obtain ⟨q0, q1, q2, q3, q4, q5, r0, r1, rz⟩ := HALL.out w hwS; go_simp⟩) hw ?_
    simp only [Act.put, List.setIfInBounds_toArray, List.set_cons_zero, List.set_cons_succ]
    refine wpAnyH_take (i := 1) (oi := { dst := some 12, op := Go.Op.move (Go.Operand.tmp 2), type := 3, pos := "glass.go:7", after := #[], guard := none }) (v := .int .i64 y) (by rw [hops]; kernel_rfl) (by rw [hops]; kernel_rfl) (by rw [hops]; kernel_rfl) (by rw [hops]; kernel_rfl) (fun c a w h => HQP.out c a _ _ w h) (Or.inl ⟨by rw [hops]; kernel_rfl, by intro w _; go_simp⟩) hw ?_
    simp only [Act.put, List.setIfInBounds_toArray, List.set_cons_zero, List.set_cons_succ]
    refine wpAnyH_take (i := 8) (oi := { dst := some 19, op := Go.Op.load 24 (Go.Operand.tmp 4), type := 24, pos := "glass.go:7", after := #[], guard := none }) (v := .agg #[.int .i64 wd, .int .i64 dp, .slice g M c]) (by rw [hops]; kernel_rfl) (by rw [hops]; kernel_rfl) (by rw [hops]; kernel_rfl) (by rw [hops]; kernel_rfl) (fun c a w h => HQP.out c a _ _ w h) (Or.inl ⟨by rw [hops]; kernel_rfl, by intro w hwS; obtain ⟨q0, q1, q2, q3, q4, q5, r0, r1, rz⟩ := HALL.out w hwS; go_simp⟩) hw ?_
    simp only [Act.put, List.setIfInBounds_toArray, List.set_cons_zero, List.set_cons_succ]
    refine wpAnyH_take (i := 9) (oi := { dst := some 20, op := Go.Op.load 26 (Go.Operand.tmp 5), type := 26, pos := "glass.go:7", after := #[], guard := none }) (v := .agg #[.int .i64 ex, .int .i64 eb, .int .i64 eh]) (by rw [hops]; kernel_rfl) (by rw [hops]; kernel_rfl) (by rw [hops]; kernel_rfl) (by rw [hops]; kernel_rfl) (fun c a w h => HQP.out c a _ _ w h) (Or.inl ⟨by rw [hops]; kernel_rfl, by intro w hwS; obtain ⟨q0, q1, q2, q3, q4, q5, r0, r1, rz⟩ := HALL.out w hwS; go_simp⟩) hw ?_
    simp only [Act.put, List.setIfInBounds_toArray, List.set_cons_zero, List.set_cons_succ]
    refine wpAnyH_ready (rs := [2, 10]) (by rw [hops]; kernel_rfl) (by simp) ?_
    refine AllReadyH.cons (o := { dst := some 13, op := Go.Op.call { callee := Go.Callee.value (Go.Operand.func 71), args := #[Go.Operand.tmp 11, Go.Operand.tmp 12], argTypes := #[24, 3] }, type := 4, pos := "glass.go:7", after := #[{ on := 0, ground := Go.Ground.data }, { on := 1, ground := Go.Ground.data }], guard := none }) (by rw [hops]; kernel_rfl) (fun K hK => ?_) ?_
    · rw [if_pos (by rw [hops]; kernel_rfl)]
      go_simp
      refine (HR1.out _).mono ?_
      rintro en w5 ⟨rfl, hb5⟩
      exact hK.out _ _ (hw.trans (hb5.mono hw.size)) (fun hwn => S0_1_2_8_9.out w5 hwn)
    refine AllReadyH.cons (o := { dst := some 21, op := Go.Op.buildSlice 49 1 #[(0, Go.Operand.tmp 20)], type := 49, pos := "glass.go:7", after := #[{ on := 9, ground := Go.Ground.data }], guard := none }) (by rw [hops]; kernel_rfl) (fun K hK => ?_) ?_
    · rw [if_pos (by rw [hops]; kernel_rfl)]
      go_simp
      have hal : Below w'.heap.size w' (w'.alloc (.cells #[.int .i64 ex, .int .i64 eb, .int .i64 eh] 26)) := (Below.refl _ _).alloc (Nat.le_refl _) _
      exact hK.out _ _ (hw.trans (hal.mono hw.size)) (fun hwn => S0_1_8_9_10.out (w'.alloc (.cells #[.int .i64 ex, .int .i64 eb, .int .i64 eh] 26)) w'.heap.size hwn (by go_simp) (by go_simp) (by go_simp))
    exact AllReadyH.nil
  have hsz : ops.size = 13 := by rw [hops]; rfl
  refine wp_region_held_drew (S := fun w' => Below W1.heap.size W1 w') (by kernel_rfl) (Below.drew (Below.refl _ _)) (fun hw0 => ?_)
  rw [hsz]
  exact S.out _ hw0
end Go.Proofs.Ytjnggchljilooaa.Sc
