/-
  WALKS (layer 7, scene): Cell, by the program and by the reference.
-/
import Derived.Test.YtjnggchljilooaaScWithA
import Derived.Test.YtjnggchljilooaaScRCr
import Derived.Test.YtjnggchljilooaaScRefB
import Derived.Test.YtjnggchljilooaaScEyes
namespace Go.Proofs.Ytjnggchljilooaa.Sc
open Go Go.RowKit Go.Sort

/-- The error of Cell. -/
def ceE (wd dp : Int) (L : List Int) (x y : Int) : Int := chkE (cellB wd dp x y) (gdB wd dp L) true
/-- What Cell tells. -/
def ceV (wd dp : Int) (L : List Int) (x y : Int) : Int := if ceE wd dp L x y = 0 then L.getD (cellN wd x y) 0 else 0
set_option maxRecDepth 100000 in
set_option maxHeartbeats 2000000 in
theorem Cell_st (wd dp x y : Int) (g : Option Addr) (M c k : Nat) (C : Bool) (E V : Int) (w : World)
    (HIC : Kp (∀ W, Calls Try.prog 47 #[.agg #[.int .i64 wd, .int .i64 dp, .slice g M c], .int .i64 x, .int .i64 y] W fun e w' => e = .returned (.bool C) ∧ Below W.heap.size W w'))
    (HCK : Kp (∀ W, Below w.heap.size w W → Calls Try.prog 46 #[.bool C, .agg #[.int .i64 wd, .int .i64 dp, .slice g M c], .slice none 0 0] W fun e w' => e = .returned (.int .i64 E) ∧ Below W.heap.size W w'))
    (HCA : Kp (E = 0 → (∀ W, Calls Try.prog 48 #[.agg #[.int .i64 wd, .int .i64 dp, .slice g M c], .int .i64 x, .int .i64 y] W fun e w' => e = .returned (.int .i64 (k : Int)) ∧ Below W.heap.size W w') ∧ k < M ∧ ∃ b o, g = some ⟨b, o, none⟩ ∧ w.cell? ⟨b, o + k, none⟩ = some (.int .i64 V))) (HV : Kp (E ≠ 0 → V = 0)) :
    Calls Try.prog 12 #[.agg #[.int .i64 wd, .int .i64 dp, .slice g M c], .int .i64 x, .int .i64 y] w fun e w' => e = .returned (.tuple #[.int .i64 V, .int .i64 E]) ∧ Below w.heap.size w w' := by
  go_enter Try.func12, Try.ntmps12
  go_wp2_with fail
  obtain ⟨W1, hW1⟩ : ∃ W, w.alloc (.cells #[.int .i64 wd, .int .i64 dp, .slice g M c] 24) = W := ⟨_, rfl⟩
  obtain ⟨hb1, hall⟩ := boxO_start hW1
  rw [hW1]
  obtain ⟨B, hB⟩ : ∃ B, w.heap.size = B := ⟨_, rfl⟩
  rw [hB] at hall
  have HB1 := Kp.mk hb1
  have HALL := Kp.mk hall
  try simp only [hB]
  clear hW1 hb1 hall hB
  obtain ⟨q0, q1, q2⟩ := HALL.out W1 (Below.refl _ _)
  have rg_q0 := fun d os => cell_regrown q0 d os
  have rg_q1 := fun d os => cell_regrown q1 d os
  have rg_q2 := fun d os => cell_regrown q2 d os
  have K1 : Kp (∀ d os, _) := ⟨fun d os => HIC.out (grow (redrawn W1 d) os)⟩
  have K2 : Kp (∀ d os, _) := ⟨fun d os => HCK.out (grow (redrawn W1 d) os) (HB1.out.trans ((below_regrown W1 d os).mono HB1.out.size))⟩
  clear q0 q1 q2 HIC HCK
  refine wp_region_quiet_below (by kernel_rfl) (by kernel_rfl) ?_
  repeat (any_goals (first | go_big_quiet_step (first | (with_reducible exact Calls.regrown_of (K1.out _ _)) | (with_reducible exact Calls.regrown_of (K2.out _ _))) | quiet_step (first | (with_reducible exact Calls.regrown_of (K1.out _ _)) | (with_reducible exact Calls.regrown_of (K2.out _ _)))))
  refine wpQuiet_nil ?_
  intro _ hqw
  obtain ⟨⟨dq, osq⟩, hqv⟩ := hqw
  subst hqv
  obtain ⟨wq, hqwq⟩ : ∃ wq, grow (redrawn (W1) dq) osq = wq := ⟨_, rfl⟩
  have hbwq : Below (W1).heap.size (W1) wq := by rw [← hqwq]; exact below_regrown _ dq osq
  rw [hqwq]
  clear hqwq
  have HBQ := Kp.mk (HB1.out.trans (hbwq.mono HB1.out.size))
  obtain ⟨q0, q1, q2⟩ := HALL.out wq hbwq
  have HWQ := Kp.mk hbwq
  clear hbwq K1 K2 rg_q0 rg_q1 rg_q2
  by_cases h0 : E = 0
  · subst h0
    obtain ⟨hca, hkm, b, o, rfl, hcz⟩ := HCA.out rfl
    have hbl := World.block_lt_of_cell? _ _ hcz
    have cx := (HBQ.out.cell (p := ⟨b, o + k, none⟩) hbl).trans hcz
    have hbq : b < wq.heap.size := Nat.lt_of_lt_of_le hbl HBQ.out.size
    have o1 : (k : Int) < (M : Int) := by omega
    have HC := Kp.mk hca
    clear hca hcz HCA HV
    go_wp2_with fail
    have rg_q0 := fun d os => cell_regrown q0 d os
    have rg_q1 := fun d os => cell_regrown q1 d os
    have rg_q2 := fun d os => cell_regrown q2 d os
    have rg_cx := fun d os => cell_regrown cx d os
    have K3 : Kp (∀ d os, _) := ⟨fun d os => HC.out (grow (redrawn wq d) os)⟩
    clear q0 q1 q2 cx HC
    refine wp_region_quiet_below (by kernel_rfl) (by kernel_rfl) ?_
    repeat (any_goals (first | go_big_quiet_step (first | (with_reducible exact Calls.regrown_of (K3.out _ _))) | quiet_step (first | (with_reducible exact Calls.regrown_of (K3.out _ _)))))
    refine wpQuiet_nil ?_
    intro _ hqw
    obtain ⟨⟨dq, osq⟩, hqv⟩ := hqw
    subst hqv
    obtain ⟨wr, hqwr⟩ : ∃ wr, grow (redrawn (wq) dq) osq = wr := ⟨_, rfl⟩
    have hbwr : Below (wq).heap.size (wq) wr := by rw [← hqwr]; exact below_regrown _ dq osq
    rw [hqwr]
    clear hqwr
    have HBR := Kp.mk (HBQ.out.trans (hbwr.mono HBQ.out.size))
    clear hbwr
    go_wp2
    go_ret2
    exact ⟨rfl, HBR.out⟩
  · have i2 : (E != (0 : Int)) = true := by simp [h0]
    have HV0 := Kp.mk (HV.out h0)
    clear h0 HCA HV
    go_wp2
    go_ret2
    exact ⟨by rw [HV0.out]; rfl, HBQ.out⟩
theorem Cell_any (wd dp : Int) (v : Value) (L : List Int) (x y : Int) (w : World) (hv : IS w v L) (hl : L.length ≤ 9223372036854775807) :
    Calls Try.prog 12 #[.agg #[.int .i64 wd, .int .i64 dp, v], .int .i64 x, .int .i64 y] w fun e w' => e = .returned (.tuple #[.int .i64 (ceV wd dp L x y), .int .i64 (ceE wd dp L x y)]) ∧ Below w.heap.size w w' := by
  have HCK : Kp (∀ W, Below w.heap.size w W → Calls Try.prog 46 #[.bool (cellB wd dp x y), .agg #[.int .i64 wd, .int .i64 dp, v], .slice none 0 0] W fun e w' => e = .returned (.int .i64 (ceE wd dp L x y)) ∧ Below W.heap.size W w') := ⟨fun W hW => checked_any (cellB wd dp x y) wd dp v (.slice none 0 0) L [] W (hv.below hW) hl (es_nil W) (by simp)⟩
  have hv0 := hv
  obtain ⟨g, c, rfl, -, hcell⟩ := hv
  refine Cell_st wd dp x y g L.length c (cellN wd x y) (cellB wd dp x y) _ _ w ⟨fun W => isCell_any wd dp _ x y W⟩ HCK ⟨fun h => ?_⟩ ⟨fun h => by unfold ceV; rw [if_neg h]⟩
  obtain ⟨k1, k2, -⟩ := chkE_zero h
  obtain ⟨⟨c1, c2⟩, ⟨d1, d2⟩, e1, e2⟩ := cell_bd k2 k1
  obtain ⟨⟨a1, a2⟩, ⟨b1, b2⟩, -, -⟩ := gdB_iff k2
  refine ⟨fun W => by rw [e1]; exact cellAt_any wd dp _ x y W (by omega) a2 c1 (by omega) d1 (by omega), e2, ?_⟩
  have hat : L[cellN wd x y]? = some (ceV wd dp L x y) := by
    unfold ceV
    rw [if_pos h, List.getD_eq_getElem?_getD, List.getElem?_eq_getElem e2]
    rfl
  exact hcell _ _ hat
theorem rCell_st (wd dp x y : Int) (g : Option Addr) (M c : Nat) (A C : Bool) (E V : Int) (w : World)
    (HV : Kp (∀ W, Below w.heap.size w W → Calls Try.prog 17 #[.agg #[.int .i64 wd, .int .i64 dp, .slice g M c]] W fun e w' => e = .returned (.bool A) ∧ Below W.heap.size W w'))
    (HC : Kp (A = true → ∀ W, Calls Try.prog 49 #[.agg #[.int .i64 wd, .int .i64 dp, .slice g M c], .int .i64 x, .int .i64 y] W fun e w' => e = .returned (.bool C) ∧ Below W.heap.size W w'))
    (HAT : Kp (A = true → C = true → ∀ W, Below w.heap.size w W → Calls Try.prog 50 #[.agg #[.int .i64 wd, .int .i64 dp, .slice g M c], .int .i64 x, .int .i64 y] W fun e w' => e = .returned (.int .i64 V) ∧ Below W.heap.size W w'))
    (HE : Kp (E = if A = true then (if C = true then 0 else 7) else 1)) (HZ : Kp (E ≠ 0 → V = 0)) :
    Calls Try.prog 13 #[.agg #[.int .i64 wd, .int .i64 dp, .slice g M c], .int .i64 x, .int .i64 y] w fun e w' => e = .returned (.tuple #[.int .i64 V, .int .i64 E]) ∧ Below w.heap.size w w' := by
  cases A with
  | false =>
    have hE : E = 1 := by rw [HE.out]; rfl
    have hV : V = 0 := HZ.out (by rw [hE]; decide)
    subst hE hV
    clear HE HZ HC HAT
    go_enter Try.func13, Try.ntmps13
    go_wp2_with fail
    refine (HV.out _ (by repeat (first | exact Below.refl _ _ | refine Below.alloc ?_ (by simp <;> omega) _ | refine bDrewN ?_ _ | refine Below.drew ?_))).mono ?_
    rintro en w1 ⟨rfl, hb1⟩
    have HB1 : Kp (Below w.heap.size w w1) := ⟨Below.trans (by repeat (first | refine Below.alloc ?_ (by (try simp) <;> omega) _ | refine bDrewN ?_ _ | refine Below.drew ?_ | refine Below.setCell ?_ (by (try simp) <;> omega) _ | exact Below.refl _ _)) (hb1.mono (by (try simp) <;> omega))⟩
    have hz1_0 : w.heap.size < w1.heap.size := by have := hb1.size; (try simp at this); omega
    obtain ⟨hc, hf⟩ := bcell hb1
    have c1_0_0 : w1.cell? ⟨w.heap.size, 0, none⟩ = some (.int .i64 wd) := (hc _ _ (by (try simp) <;> omega)).trans (by go_simp)
    have c1_0_1 : w1.cell? ⟨w.heap.size, 1, none⟩ = some (.int .i64 dp) := (hc _ _ (by (try simp) <;> omega)).trans (by go_simp)
    have c1_0_2 : w1.cell? ⟨w.heap.size, 2, none⟩ = some ((.slice g M c)) := (hc _ _ (by (try simp) <;> omega)).trans (by go_simp)
    have z1_0 : ∀ j, w1.frozen? ⟨w.heap.size, j, none⟩ = false := fun j => (hf _ _ (by (try simp) <;> omega)).trans (by go_simp)
    clear hc hf hb1
    go_wp2
    go_ret2
    exact ⟨rfl, HB1.out⟩
  | true =>
    have HC2 := Kp.mk (HC.out rfl)
    cases C with
    | false =>
      have hE : E = 7 := by rw [HE.out]; rfl
      have hV : V = 0 := HZ.out (by rw [hE]; decide)
      subst hE hV
      clear HE HZ HC HAT
      go_enter Try.func13, Try.ntmps13
      go_wp2_with fail
      refine (HV.out _ (by repeat (first | exact Below.refl _ _ | refine Below.alloc ?_ (by simp <;> omega) _ | refine bDrewN ?_ _ | refine Below.drew ?_))).mono ?_
      rintro en w1 ⟨rfl, hb1⟩
      have HB1 : Kp (Below w.heap.size w w1) := ⟨Below.trans (by repeat (first | refine Below.alloc ?_ (by (try simp) <;> omega) _ | refine bDrewN ?_ _ | refine Below.drew ?_ | refine Below.setCell ?_ (by (try simp) <;> omega) _ | exact Below.refl _ _)) (hb1.mono (by (try simp) <;> omega))⟩
      have hz1_0 : w.heap.size < w1.heap.size := by have := hb1.size; (try simp at this); omega
      obtain ⟨hc, hf⟩ := bcell hb1
      have c1_0_0 : w1.cell? ⟨w.heap.size, 0, none⟩ = some (.int .i64 wd) := (hc _ _ (by (try simp) <;> omega)).trans (by go_simp)
      have c1_0_1 : w1.cell? ⟨w.heap.size, 1, none⟩ = some (.int .i64 dp) := (hc _ _ (by (try simp) <;> omega)).trans (by go_simp)
      have c1_0_2 : w1.cell? ⟨w.heap.size, 2, none⟩ = some ((.slice g M c)) := (hc _ _ (by (try simp) <;> omega)).trans (by go_simp)
      have z1_0 : ∀ j, w1.frozen? ⟨w.heap.size, j, none⟩ = false := fun j => (hf _ _ (by (try simp) <;> omega)).trans (by go_simp)
      clear hc hf hb1
      go_wp2_with fail
      refine (HC2.out _).mono ?_
      rintro en w2 ⟨rfl, hb2⟩
      have HB2 := Kp.mk (HB1.out.trans (hb2.mono HB1.out.size))
      clear hb2
      go_wp2
      go_ret2
      exact ⟨rfl, HB2.out⟩
    | true =>
      have hE : E = 0 := by rw [HE.out]; rfl
      have HA2 := Kp.mk (HAT.out rfl rfl)
      subst hE
      clear HE HZ HC HAT
      go_enter Try.func13, Try.ntmps13
      go_wp2_with fail
      refine (HV.out _ (by repeat (first | exact Below.refl _ _ | refine Below.alloc ?_ (by simp <;> omega) _ | refine bDrewN ?_ _ | refine Below.drew ?_))).mono ?_
      rintro en w1 ⟨rfl, hb1⟩
      have HB1 : Kp (Below w.heap.size w w1) := ⟨Below.trans (by repeat (first | refine Below.alloc ?_ (by (try simp) <;> omega) _ | refine bDrewN ?_ _ | refine Below.drew ?_ | refine Below.setCell ?_ (by (try simp) <;> omega) _ | exact Below.refl _ _)) (hb1.mono (by (try simp) <;> omega))⟩
      have hz1_0 : w.heap.size < w1.heap.size := by have := hb1.size; (try simp at this); omega
      obtain ⟨hc, hf⟩ := bcell hb1
      have c1_0_0 : w1.cell? ⟨w.heap.size, 0, none⟩ = some (.int .i64 wd) := (hc _ _ (by (try simp) <;> omega)).trans (by go_simp)
      have c1_0_1 : w1.cell? ⟨w.heap.size, 1, none⟩ = some (.int .i64 dp) := (hc _ _ (by (try simp) <;> omega)).trans (by go_simp)
      have c1_0_2 : w1.cell? ⟨w.heap.size, 2, none⟩ = some ((.slice g M c)) := (hc _ _ (by (try simp) <;> omega)).trans (by go_simp)
      have z1_0 : ∀ j, w1.frozen? ⟨w.heap.size, j, none⟩ = false := fun j => (hf _ _ (by (try simp) <;> omega)).trans (by go_simp)
      clear hc hf hb1
      go_wp2_with fail
      refine (HC2.out _).mono ?_
      rintro en w2 ⟨rfl, hb2⟩
      have HB2 : Kp (Below w.heap.size w w2) := ⟨Below.trans (by repeat (first | refine Below.alloc ?_ (by have := HB1.out.size; (try simp) <;> omega) _ | refine bDrewN ?_ _ | refine Below.drew ?_ | refine Below.setCell ?_ (by have := HB1.out.size; (try simp) <;> omega) _ | exact HB1.out)) (hb2.mono (by have := HB1.out.size; (try simp) <;> omega))⟩
      have hz2_0 : w.heap.size < w2.heap.size := by have := hb2.size; (try simp at this); omega
      obtain ⟨hc, hf⟩ := bcell hb2
      have c2_0_0 : w2.cell? ⟨w.heap.size, 0, none⟩ = some (.int .i64 wd) := (hc _ _ (by (try simp) <;> omega)).trans (by go_simp)
      have c2_0_1 : w2.cell? ⟨w.heap.size, 1, none⟩ = some (.int .i64 dp) := (hc _ _ (by (try simp) <;> omega)).trans (by go_simp)
      have c2_0_2 : w2.cell? ⟨w.heap.size, 2, none⟩ = some ((.slice g M c)) := (hc _ _ (by (try simp) <;> omega)).trans (by go_simp)
      have z2_0 : ∀ j, w2.frozen? ⟨w.heap.size, j, none⟩ = false := fun j => (hf _ _ (by (try simp) <;> omega)).trans (by go_simp)
      clear hc hf hb2
      go_wp2_with fail
      refine (HA2.out _ HB2.out).mono ?_
      rintro en w3 ⟨rfl, hb3⟩
      have HB3 := Kp.mk (HB2.out.trans (hb3.mono HB2.out.size))
      clear hb3
      go_wp2
      go_ret2
      exact ⟨rfl, HB3.out⟩
theorem rCell_any (wd dp : Int) (v : Value) (L : List Int) (x y : Int) (w : World) (hv : IS w v L) (hl : L.length ≤ 9223372036854775807) :
    Calls Try.prog 13 #[.agg #[.int .i64 wd, .int .i64 dp, v], .int .i64 x, .int .i64 y] w fun e w' => e = .returned (.tuple #[.int .i64 (ceV wd dp L x y), .int .i64 (ceE wd dp L x y)]) ∧ Below w.heap.size w w' := by
  have HV : Kp (∀ W, Below w.heap.size w W → Calls Try.prog 17 #[.agg #[.int .i64 wd, .int .i64 dp, v]] W fun e w' => e = .returned (.bool (gdB wd dp L)) ∧ Below W.heap.size W w') := ⟨fun W hW => rValid_any wd dp v L W (hv.below hW) hl⟩
  have hv0 := hv
  obtain ⟨g, c, rfl⟩ := hv.shape
  refine rCell_st wd dp x y g L.length c (gdB wd dp L) (cellB wd dp x y) _ _ w HV ⟨fun h W => rcell_any wd dp _ x y W (gdB_iff h).1 (gdB_iff h).2.1⟩ ⟨fun h1 h2 W hW => ?_⟩ ⟨?_⟩ ⟨fun h => by unfold ceV; rw [if_neg h]⟩
  · obtain ⟨⟨c1, c2⟩, ⟨d1, d2⟩, e1, e2⟩ := cell_bd h1 h2
    obtain ⟨⟨a1, a2⟩, ⟨b1, b2⟩, -, -⟩ := gdB_iff h1
    have hE : ceE wd dp L x y = 0 := by unfold ceE; rw [h1, h2]; rfl
    have hVV : ceV wd dp L x y = gAt wd L x y := by unfold ceV gAt cellN; rw [if_pos hE]
    rw [hVV]
    exact rat_any wd dp _ L x y W (hv0.below hW) (by omega) a2 c1 (by omega) d1 (by omega) e2
  · unfold ceE chkE
    cases gdB wd dp L <;> cases cellB wd dp x y <;> rfl
end Go.Proofs.Ytjnggchljilooaa.Sc
