/-
  WALKS (layer 8, pest): Value of the program.
-/
import Derived.Test.YthkamfjjfkpekaaPeFlow
namespace Go.Proofs.Ythkamfjjfkpekaa.Pe
open Go Go.RowKit Go.Proofs Go.Sort

/-- Whether amounts are as many as doors, and in their range. -/
def amtB (M : Nat) (l : List Int) : Bool := decide (l.length = M) && allIn (-1000) 1000 l
set_option maxRecDepth 100000 in
set_option maxHeartbeats 1000000 in
theorem areAmounts_any (R x y : Int) (g : Option Addr) (M c : Nat) (v : Value) (l : List Int) (w : World) (hM : M ≤ 9223372036854775807) (hv : IS w v l) (hl : l.length ≤ 9223372036854775807) :
    Calls Try.prog 68 #[.agg #[.int .i64 R, .slice g M c, .int .i64 x, .int .i64 y], v] w fun e w' => e = .returned (.bool (amtB M l)) ∧ Below w.heap.size w w' := by
  have HW : Kp (∀ W, Below w.heap.size w W → Calls Try.prog 51 #[.int .i64 (-1000), .int .i64 1000, v] W fun e w' => e = .returned (.bool (allIn (-1000) 1000 l)) ∧ W = w') := ⟨fun W hW => within_any (-1000) 1000 v l W (hv.below hW) hl⟩
  unfold amtB
  obtain ⟨P, hP⟩ : ∃ P, allIn (-1000) 1000 l = P := ⟨_, rfl⟩
  rw [hP] at HW ⊢
  obtain ⟨gu, cu, rfl⟩ := hv.shape
  obtain ⟨n, hn⟩ : ∃ n, l.length = n := ⟨_, rfl⟩
  rw [hn] at HW
  rw [hn]
  clear hP hv hl hM hn
  by_cases h : n = M
  · subst h
    have HD : Kp ((decide (n = n) && P) = P) := ⟨by simp⟩
    go_enter Try.func68, Try.ntmps68
    go_wp2_with fail
    refine (HW.out _ (by repeat (first | exact Below.refl _ _ | refine Below.alloc ?_ (by simp <;> omega) _ | refine bDrewN ?_ _ | refine Below.drew ?_))).mono ?_
    rintro en w1 ⟨rfl, rfl⟩
    go_wp2
    go_ret
    exact ⟨by rw [HD.out]; rfl, by repeat (first | exact Below.refl _ _ | refine Below.alloc ?_ (by simp <;> omega) _ | refine bDrewN ?_ _ | refine Below.drew ?_)⟩
  · have HD : Kp ((decide (n = M) && P) = false) := ⟨by rw [decide_eq_false h]; rfl⟩
    have i1 : ((n : Int) == (M : Int)) = false := by simp; omega
    clear h HW
    go_enter Try.func68, Try.ntmps68
    go_wp2
    go_ret
    exact ⟨by rw [HD.out]; rfl, by repeat (first | exact Below.refl _ _ | refine Below.alloc ?_ (by simp <;> omega) _ | refine bDrewN ?_ _ | refine Below.drew ?_)⟩
theorem wpList_store_new {P : Program} {ops : Array Oper} {rest : List Oper} {o : Oper} {a : Act} {Q : Exit → Act → World → Prop} (hgd : o.guard = none) (ty : TypeId) (x y : Operand) (ho : o.op = .store ty x y)
    (hd : o.dst = none) (w0 : World) (z cells : Array Value) (hx : a.eval x = .pointer (some ⟨w0.heap.size, 0, none⟩)) (hy : a.eval y = .agg cells)
    (hi : (P.info? ty).map (·.size) = some cells.size) (hold : z.size = cells.size) (h1 : cells.all (·.oneCell') = true)
    (h : wpList P ops Q rest a (w0.alloc (.cells cells ty))) : wpList P ops Q (o :: rest) a (w0.alloc (.cells z ty)) :=
  wpList_store_rowTo hgd ty x y ho hd w0.heap.size cells hx hy ty z (heap_alloc_last _ _) hi hold h1 (by rw [World.setRow_alloc_new]; exact h)
/-- A value and an error: that of the check, or else none, if it is a flow. -/
def valE (E : Int) (F : Bool) (T : Int) : Value := if E = 0 then if F then .tuple #[.int .i64 T, .int .i64 0] else .tuple #[.int .i64 0, .int .i64 9] else .tuple #[.int .i64 0, .int .i64 E]
set_option maxRecDepth 100000 in
set_option maxHeartbeats 2000000 in
theorem Value_st (R x y : Int) (g : Option Addr) (M c : Nat) (gu : Option Addr) (nu cu : Nat) (P F : Bool) (ER T : Int) (FA : List Int) (w : World)
    (HAA : Kp (∀ W, Below w.heap.size w W → Calls Try.prog 68 #[.agg #[.int .i64 R, .slice g M c, .int .i64 x, .int .i64 y], .slice gu nu cu] W fun e w' => e = .returned (.bool P) ∧ Below W.heap.size W w'))
    (HCK : Kp (∀ W, Below w.heap.size w W → Calls Try.prog 48 #[.agg #[.int .i64 R, .slice g M c, .int .i64 x, .int .i64 y], .bool true, .bool P] W fun e w' => e = .returned (.int .i64 ER) ∧ Below W.heap.size W w'))
    (HFA : Kp (ER = 0 → FA.length = 40))
    (HAM : Kp (ER = 0 → ∀ W, Below w.heap.size w W → Calls Try.prog 70 #[.slice gu nu cu] W fun e w' => e = .returned (.agg (ivs FA)) ∧ Below W.heap.size W w'))
    (HIF : Kp (ER = 0 → ∀ W, Below w.heap.size w W → Calls Try.prog 69 #[.agg #[.int .i64 R, .slice g M c, .int .i64 x, .int .i64 y], .agg (ivs FA)] W fun e w' => e = .returned (.bool F) ∧ Below W.heap.size W w'))
    (HVA : Kp (ER = 0 → ∀ W, Below w.heap.size w W → Calls Try.prog 73 #[.agg #[.int .i64 R, .slice g M c, .int .i64 x, .int .i64 y], .agg (ivs FA)] W fun e w' => e = .returned (.int .i64 T) ∧ Below W.heap.size W w')) :
    Calls Try.prog 27 #[.agg #[.int .i64 R, .slice g M c, .int .i64 x, .int .i64 y], .slice gu nu cu] w fun e w' => e = .returned (valE ER F T) ∧ Below w.heap.size w w' := by
  go_enter Try.func27, Try.ntmps27
  go_wp2_with fail
  obtain ⟨W1, hW1⟩ : ∃ W, w.alloc (.cells #[.int .i64 R, .slice g M c, .int .i64 x, .int .i64 y] 24) = W := ⟨_, rfl⟩
  obtain ⟨hb1, hall⟩ := houseBox hW1
  try rw [hW1]
  obtain ⟨B, hB⟩ : ∃ B, w.heap.size = B := ⟨_, rfl⟩
  rw [hB] at hall
  have HB1 := Kp.mk hb1
  obtain ⟨c0, c1, c2, c3⟩ := hall W1 (Below.refl _ _)
  have HALL1 := Kp.mk hall
  try simp only [hB]
  clear hW1 hb1 hall hB
  have K1 : Kp (∀ d os, _) := ⟨fun d os => HAA.out (grow (redrawn W1 d) os) (HB1.out.trans ((below_regrown W1 d os).mono HB1.out.size))⟩
  have K2 : Kp (∀ d os, _) := ⟨fun d os => HCK.out (grow (redrawn W1 d) os) (HB1.out.trans ((below_regrown W1 d os).mono HB1.out.size))⟩
  have rg_c0 := fun d os => cell_regrown c0 d os
  have rg_c1 := fun d os => cell_regrown c1 d os
  have rg_c2 := fun d os => cell_regrown c2 d os
  have rg_c3 := fun d os => cell_regrown c3 d os
  clear c0 c1 c2 c3 HAA HCK
  refine wp_region_quiet_below (by kernel_rfl) (by kernel_rfl) ?_
  repeat (any_goals (first | go_big_quiet_step (first | (with_reducible exact Calls.regrown_of (K1.out _ _)) | (with_reducible exact Calls.regrown_of (K2.out _ _))) | quiet_step (first | (with_reducible exact Calls.regrown_of (K1.out _ _)) | (with_reducible exact Calls.regrown_of (K2.out _ _)))))
  refine wpQuiet_nil ?_
  intro _ hqw
  obtain ⟨⟨dq, osq⟩, hqv⟩ := hqw
  subst hqv
  obtain ⟨wq, hqwq⟩ : ∃ wq, grow (redrawn (W1) dq) osq = wq := ⟨_, rfl⟩
  have hbwq : Below (W1).heap.size (W1) wq := by rw [← hqwq]; exact below_regrown _ dq osq
  rw [hqwq]
  clear hqwq
  have HBQ := Kp.mk (HB1.out.trans (hbwq.mono HB1.out.size))
  have HAL : Kp (∀ w', Below wq.heap.size wq w' → w'.cell? ⟨B, 0, none⟩ = some (.int .i64 R) ∧ w'.cell? ⟨B, 1, none⟩ = some (.slice g M c) ∧ w'.cell? ⟨B, 2, none⟩ = some (.int .i64 x) ∧ w'.cell? ⟨B, 3, none⟩ = some (.int .i64 y)) := ⟨fun w' h => HALL1.out w' (hbwq.trans (h.mono hbwq.size))⟩
  clear hbwq rg_c0 rg_c1 rg_c2 rg_c3 K1 K2 HALL1
  by_cases hE : ER = 0
  · have HFL := Kp.mk (HFA.out hE)
    have HAM2 := Kp.mk (HAM.out hE)
    have HIF2 := Kp.mk (HIF.out hE)
    have HVA2 := Kp.mk (HVA.out hE)
    subst hE
    have HIS : Kp ((Try.prog.info? 83).map (·.size) = some (ivs FA).size) := ⟨by rw [ivs_size, HFL.out]; kernel_rfl⟩
    clear HFA HAM HIF HVA
    go_wp2_with fail
    refine (HAM2.out _ HBQ.out).mono ?_
    rintro en w2 ⟨rfl, hb2⟩
    have HB2 := Kp.mk (HBQ.out.trans (hb2.mono HBQ.out.size))
    have HAL2 : Kp (∀ w', Below w2.heap.size w2 w' → w'.cell? ⟨B, 0, none⟩ = some (.int .i64 R) ∧ w'.cell? ⟨B, 1, none⟩ = some (.slice g M c) ∧ w'.cell? ⟨B, 2, none⟩ = some (.int .i64 x) ∧ w'.cell? ⟨B, 3, none⟩ = some (.int .i64 y)) := ⟨fun w' h => HAL.out w' (hb2.trans (h.mono hb2.size))⟩
    clear hb2 HAL HAM2
    have HOS : Kp ((#[.int .i64 0, .int .i64 0, .int .i64 0, .int .i64 0, .int .i64 0, .int .i64 0, .int .i64 0, .int .i64 0, .int .i64 0, .int .i64 0, .int .i64 0, .int .i64 0, .int .i64 0, .int .i64 0, .int .i64 0, .int .i64 0, .int .i64 0, .int .i64 0, .int .i64 0, .int .i64 0, .int .i64 0, .int .i64 0, .int .i64 0, .int .i64 0, .int .i64 0, .int .i64 0, .int .i64 0, .int .i64 0, .int .i64 0, .int .i64 0, .int .i64 0, .int .i64 0, .int .i64 0, .int .i64 0, .int .i64 0, .int .i64 0, .int .i64 0, .int .i64 0, .int .i64 0, .int .i64 0] : Array Value).size = (ivs FA).size) := ⟨by rw [ivs_size, HFL.out]; rfl⟩
    have HR : Kp ((w2.alloc (.cells (ivs FA) 83)).heap[w2.heap.size]? = some (.cells (ivs FA) 83 (0, 0))) := ⟨heap_alloc_last _ _⟩
    have hbz : Below w2.heap.size w2 (w2.alloc (.cells (ivs FA) 83)) := (Below.refl _ _).alloc (Nat.le_refl _) _
    have HB3 := Kp.mk (HB2.out.trans (hbz.mono HB2.out.size))
    obtain ⟨q0, q1, q2, q3⟩ := HAL2.out _ hbz
    clear hbz
    go_wp2_with (first | (with_reducible refine wpList_store_new rfl 83 (.tmp 7) (.tmp 17) rfl rfl w2 _ (ivs FA) rfl rfl HIS.out HOS.out (ivs_one _) ?_) | (with_reducible refine wpList_load_row (o := ⟨some 19, _, _, _, _, _⟩) rfl 83 (.tmp 7) rfl w2.heap.size rfl 83 (ivs FA) (0, 0) _ HR.out Try.underlying83 rfl HIS.out ?_))
    refine (HIF2.out _ HB3.out).mono ?_
    rintro en w4 ⟨rfl, hb4⟩
    have HB4 := Kp.mk (HB3.out.trans (hb4.mono HB3.out.size))
    obtain ⟨V, hV⟩ : ∃ V, w2.alloc (.cells (ivs FA) 83) = V := ⟨_, rfl⟩
    have hbv : Below w2.heap.size w2 V := by subst hV; exact (Below.refl _ _).alloc (Nat.le_refl _) _
    rw [hV] at HR hb4
    have HR4 : Kp (w4.heap[w2.heap.size]? = some (.cells (ivs FA) 83 (0, 0))) := ⟨(hb4.block _ (Array.getElem?_eq_some_iff.1 HR.out).1).trans HR.out⟩
    have HQ4 := Kp.mk (HAL2.out w4 (hbv.trans (hb4.mono hbv.size)))
    clear hb4 hbv hV HR HIF2 q0 q1 q2 q3 HAL2
    obtain ⟨q0, q1, q2, q3⟩ := HQ4.out
    cases F with
    | false =>
      have HV : Kp (valE 0 false T = .tuple #[.int .i64 0, .int .i64 9]) := ⟨rfl⟩
      go_wp2
      go_ret2
      exact ⟨by rw [HV.out]; rfl, HB4.out⟩
    | true =>
      have HV : Kp (valE 0 true T = .tuple #[.int .i64 T, .int .i64 0]) := ⟨rfl⟩
      go_wp2_with (with_reducible refine wpList_load_row (o := ⟨some 23, _, _, _, _, _⟩) rfl 83 (.tmp 7) rfl w2.heap.size rfl 83 (ivs FA) (0, 0) _ HR4.out Try.underlying83 rfl HIS.out ?_)
      refine (HVA2.out _ HB4.out).mono ?_
      rintro en w5 ⟨rfl, hb5⟩
      have HB5 := Kp.mk (HB4.out.trans (hb5.mono HB4.out.size))
      clear hb5 q0 q1 q2 q3
      go_wp2
      go_ret2
      exact ⟨by rw [HV.out]; rfl, HB5.out⟩
  · have i1 : (ER == (0 : Int)) = false := by simp [hE]
    have i2 : (ER != (0 : Int)) = true := by simp [hE]
    have HE := Kp.mk hE
    clear hE HFA HAM HIF HVA
    go_wp2
    go_ret2
    exact ⟨by unfold valE; rw [if_neg HE.out]; rfl, HBQ.out⟩
end Go.Proofs.Ythkamfjjfkpekaa.Pe
