/-
  THE WALK of the law CarveBlocks.
-/
import Derived.Test.YticcafjogmjkiaaCvAwake
import Derived.Test.YticcafjogmjkiaaCvRefM
namespace Go.Proofs.Yticcafjogmjkiaa.Cv
open Go Go.RowKit Go.Sort

def EndsB (w : World) (e : Ending) (w' : World) : Prop := e = .returned (.bool true) ∧ Below w.heap.size w w'
theorem bl_light (s t x0 x1 : Int) (g1 g2 : Option Addr) (m c1 n c2 : Nat) (w : World) (HLG : Kp (∀ W Y, W.cell? ⟨Y, 0, none⟩ = some (.int .i64 s) → W.cell? ⟨Y, 1, none⟩ = some (.slice g1 m c1) → Calls Try.prog 15 #[.slice (some ⟨Y, 0, none⟩) 1 1] W fun e w' => e = .returned (.bool false) ∧ Below W.heap.size W w')) :
    Calls Try.prog 3 #[.agg #[.int .i64 s, .slice g1 m c1], .agg #[.int .i64 t, .slice g2 n c2], .agg #[.int .i64 x0, .int .i64 x1]] w (EndsB w) := by
  go_enter Try.func3, Try.ntmps3
  go_wp2_with fail
  refine (HLG.out _ _ (by go_simp) (by go_simp)).mono ?_
  rintro en w1 ⟨rfl, hb1⟩
  have HB1 : Kp (Below w.heap.size w w1) := ⟨Below.trans (by repeat (first | refine Below.alloc ?_ (by (try simp) <;> omega) _ | refine bDrewN ?_ _ | refine Below.drew ?_ | refine Below.setCell ?_ (by (try simp) <;> omega) _ | exact Below.refl _ _)) (hb1.mono (by (try simp) <;> omega))⟩
  have hz1_0 : w.heap.size < w1.heap.size := by have := hb1.size; (try simp at this); omega
  have hz1_1 : w.heap.size + 1 < w1.heap.size := by have := hb1.size; (try simp at this); omega
  have hz1_2 : w.heap.size + 1 + 1 < w1.heap.size := by have := hb1.size; (try simp at this); omega
  obtain ⟨hc, hf⟩ := bcell hb1
  have c1_0_0 : w1.cell? ⟨w.heap.size, 0, none⟩ = some (.int .i64 s) := (hc _ _ (by (try simp) <;> omega)).trans (by go_simp)
  have c1_0_1 : w1.cell? ⟨w.heap.size, 1, none⟩ = some ((.slice g1 m c1)) := (hc _ _ (by (try simp) <;> omega)).trans (by go_simp)
  have z1_0 : ∀ j, w1.frozen? ⟨w.heap.size, j, none⟩ = false := fun j => (hf _ _ (by (try simp) <;> omega)).trans (by go_simp)
  have c1_1_0 : w1.cell? ⟨w.heap.size + 1, 0, none⟩ = some (.int .i64 t) := (hc _ _ (by (try simp) <;> omega)).trans (by go_simp)
  have c1_1_1 : w1.cell? ⟨w.heap.size + 1, 1, none⟩ = some ((.slice g2 n c2)) := (hc _ _ (by (try simp) <;> omega)).trans (by go_simp)
  have z1_1 : ∀ j, w1.frozen? ⟨w.heap.size + 1, j, none⟩ = false := fun j => (hf _ _ (by (try simp) <;> omega)).trans (by go_simp)
  have c1_2_0 : w1.cell? ⟨w.heap.size + 1 + 1, 0, none⟩ = some (.int .i64 x0) := (hc _ _ (by (try simp) <;> omega)).trans (by go_simp)
  have c1_2_1 : w1.cell? ⟨w.heap.size + 1 + 1, 1, none⟩ = some (.int .i64 x1) := (hc _ _ (by (try simp) <;> omega)).trans (by go_simp)
  have z1_2 : ∀ j, w1.frozen? ⟨w.heap.size + 1 + 1, j, none⟩ = false := fun j => (hf _ _ (by (try simp) <;> omega)).trans (by go_simp)
  clear hc hf hb1
  go_wp2_with fail
  refine (awake_any _).mono ?_
  rintro en wz ⟨rfl, hbz⟩
  have HBZ : Kp (Below w.heap.size w wz) := ⟨(HB1.out).trans (hbz.mono (HB1.out).size)⟩
  clear hbz
  go_wp2
  go_ret
  exact ⟨rfl, HBZ.out⟩
theorem bl_long (s t x0 x1 : Int) (g1 g2 : Option Addr) (m c1 n c2 : Nat) (w : World) (hK : (1000 : Int) < (n : Int)) (HLG : Kp (∀ W Y, W.cell? ⟨Y, 0, none⟩ = some (.int .i64 s) → W.cell? ⟨Y, 1, none⟩ = some (.slice g1 m c1) → Calls Try.prog 15 #[.slice (some ⟨Y, 0, none⟩) 1 1] W fun e w' => e = .returned (.bool true) ∧ Below W.heap.size W w')) :
    Calls Try.prog 3 #[.agg #[.int .i64 s, .slice g1 m c1], .agg #[.int .i64 t, .slice g2 n c2], .agg #[.int .i64 x0, .int .i64 x1]] w (EndsB w) := by
  go_enter Try.func3, Try.ntmps3
  go_wp2_with fail
  refine (HLG.out _ _ (by go_simp) (by go_simp)).mono ?_
  rintro en w1 ⟨rfl, hb1⟩
  have HB1 : Kp (Below w.heap.size w w1) := ⟨Below.trans (by repeat (first | refine Below.alloc ?_ (by (try simp) <;> omega) _ | refine bDrewN ?_ _ | refine Below.drew ?_ | refine Below.setCell ?_ (by (try simp) <;> omega) _ | exact Below.refl _ _)) (hb1.mono (by (try simp) <;> omega))⟩
  have hz1_0 : w.heap.size < w1.heap.size := by have := hb1.size; (try simp at this); omega
  have hz1_1 : w.heap.size + 1 < w1.heap.size := by have := hb1.size; (try simp at this); omega
  have hz1_2 : w.heap.size + 1 + 1 < w1.heap.size := by have := hb1.size; (try simp at this); omega
  obtain ⟨hc, hf⟩ := bcell hb1
  have c1_0_0 : w1.cell? ⟨w.heap.size, 0, none⟩ = some (.int .i64 s) := (hc _ _ (by (try simp) <;> omega)).trans (by go_simp)
  have c1_0_1 : w1.cell? ⟨w.heap.size, 1, none⟩ = some ((.slice g1 m c1)) := (hc _ _ (by (try simp) <;> omega)).trans (by go_simp)
  have z1_0 : ∀ j, w1.frozen? ⟨w.heap.size, j, none⟩ = false := fun j => (hf _ _ (by (try simp) <;> omega)).trans (by go_simp)
  have c1_1_0 : w1.cell? ⟨w.heap.size + 1, 0, none⟩ = some (.int .i64 t) := (hc _ _ (by (try simp) <;> omega)).trans (by go_simp)
  have c1_1_1 : w1.cell? ⟨w.heap.size + 1, 1, none⟩ = some ((.slice g2 n c2)) := (hc _ _ (by (try simp) <;> omega)).trans (by go_simp)
  have z1_1 : ∀ j, w1.frozen? ⟨w.heap.size + 1, j, none⟩ = false := fun j => (hf _ _ (by (try simp) <;> omega)).trans (by go_simp)
  have c1_2_0 : w1.cell? ⟨w.heap.size + 1 + 1, 0, none⟩ = some (.int .i64 x0) := (hc _ _ (by (try simp) <;> omega)).trans (by go_simp)
  have c1_2_1 : w1.cell? ⟨w.heap.size + 1 + 1, 1, none⟩ = some (.int .i64 x1) := (hc _ _ (by (try simp) <;> omega)).trans (by go_simp)
  have z1_2 : ∀ j, w1.frozen? ⟨w.heap.size + 1 + 1, j, none⟩ = false := fun j => (hf _ _ (by (try simp) <;> omega)).trans (by go_simp)
  clear hc hf hb1
  go_wp2_with fail
  refine (awake_any _).mono ?_
  rintro en wz ⟨rfl, hbz⟩
  have HBZ : Kp (Below w.heap.size w wz) := ⟨(HB1.out).trans (hbz.mono (HB1.out).size)⟩
  clear hbz
  go_wp2
  go_ret
  exact ⟨rfl, HBZ.out⟩
set_option maxRecDepth 100000 in
set_option maxHeartbeats 4000000 in
theorem bl_all (s t x0 x1 FS FE CE GE VS VE : Int) (g1 g2 : Option Addr) (m c1 n c2 FL CN GK VL : Nat) (P Q : Bool) (LF LV : List Bool) (LG : List Gr) (w : World) (hK : ¬ (1000 : Int) < (n : Int)) (HLG : Kp (∀ W Y, W.cell? ⟨Y, 0, none⟩ = some (.int .i64 s) → W.cell? ⟨Y, 1, none⟩ = some (.slice g1 m c1) → Calls Try.prog 15 #[.slice (some ⟨Y, 0, none⟩) 1 1] W fun e w' => e = .returned (.bool true) ∧ Below W.heap.size W w')) (HVB : Kp (∀ W, Calls Try.prog 17 #[.agg #[.int .i64 s, .slice g1 m c1]] W fun e w' => e = .returned (.bool P) ∧ Below W.heap.size W w')) (HRB : Kp (∀ W, Calls Try.prog 18 #[.agg #[.int .i64 s, .slice g1 m c1]] W fun e w' => e = .returned (.bool P) ∧ Below W.heap.size W w')) (HVV : Kp (∀ W, Calls Try.prog 19 #[.agg #[.int .i64 t, .slice g2 n c2]] W fun e w' => e = .returned (.bool Q) ∧ Below W.heap.size W w')) (HRV : Kp (∀ W, Calls Try.prog 20 #[.agg #[.int .i64 t, .slice g2 n c2]] W fun e w' => e = .returned (.bool Q) ∧ Below W.heap.size W w')) (HFU : Kp (∀ W, Below w.heap.size w W → Calls Try.prog 21 #[.int .i64 x0] W fun e w' => ∃ g c, e = .returned (.tuple #[.agg #[.int .i64 FS, .slice g FL c], .int .i64 FE]) ∧ LB w' (.slice g FL c) LF ∧ Below W.heap.size W w')) (HRF : Kp (∀ W, Below w.heap.size w W → Calls Try.prog 22 #[.int .i64 x0] W fun e w' => ∃ g c, e = .returned (.tuple #[.agg #[.int .i64 FS, .slice g FL c], .int .i64 FE]) ∧ LB w' (.slice g FL c) LF ∧ Below W.heap.size W w')) (HSF : Kp (∀ W g g' c c', LB W (.slice g FL c) LF → LB W (.slice g' FL c') LF → Calls Try.prog 25 #[.agg #[.int .i64 FS, .slice g FL c], .agg #[.int .i64 FS, .slice g' FL c']] W fun e w' => e = .returned (.bool true) ∧ Below W.heap.size W w')) (HCN : Kp (∀ W, Below w.heap.size w W → Calls Try.prog 23 #[.agg #[.int .i64 s, .slice g1 m c1]] W fun e w' => e = .returned (.tuple #[.int .i64 CN, .int .i64 CE]) ∧ Below W.heap.size W w')) (HRC : Kp (∀ W, Below w.heap.size w W → Calls Try.prog 24 #[.agg #[.int .i64 s, .slice g1 m c1]] W fun e w' => e = .returned (.tuple #[.int .i64 CN, .int .i64 CE]) ∧ Below W.heap.size W w')) (HGR : Kp (∀ W, Below w.heap.size w W → Calls Try.prog 26 #[.agg #[.int .i64 s, .slice g1 m c1]] W fun e w' => ∃ g c, e = .returned (.tuple #[.slice g GK c, .int .i64 GE]) ∧ GS w' (.slice g GK c) LG ∧ Below W.heap.size W w')) (HRG : Kp (∀ W, Below w.heap.size w W → Calls Try.prog 27 #[.agg #[.int .i64 s, .slice g1 m c1]] W fun e w' => ∃ g c, e = .returned (.tuple #[.slice g GK c, .int .i64 GE]) ∧ GS w' (.slice g GK c) LG ∧ Below W.heap.size W w')) (HSG : Kp (∀ W g g' c c', GS W (.slice g GK c) LG → GS W (.slice g' GK c') LG → Calls Try.prog 30 #[.slice g GK c, .slice g' GK c'] W fun e w' => e = .returned (.bool true) ∧ Below W.heap.size W w')) (HVW : Kp (∀ W, Below w.heap.size w W → Calls Try.prog 28 #[.agg #[.int .i64 s, .slice g1 m c1], .int .i64 x1] W fun e w' => ∃ g c, e = .returned (.tuple #[.agg #[.int .i64 VS, .slice g VL c], .int .i64 VE]) ∧ LB w' (.slice g VL c) LV ∧ Below W.heap.size W w')) (HRW : Kp (∀ W, Below w.heap.size w W → Calls Try.prog 29 #[.agg #[.int .i64 s, .slice g1 m c1], .int .i64 x1] W fun e w' => ∃ g c, e = .returned (.tuple #[.agg #[.int .i64 VS, .slice g VL c], .int .i64 VE]) ∧ LB w' (.slice g VL c) LV ∧ Below W.heap.size W w')) (HSV : Kp (∀ W g g' c c', LB W (.slice g VL c) LV → LB W (.slice g' VL c') LV → Calls Try.prog 31 #[.agg #[.int .i64 VS, .slice g VL c], .agg #[.int .i64 VS, .slice g' VL c']] W fun e w' => e = .returned (.bool true) ∧ Below W.heap.size W w')) :
    Calls Try.prog 3 #[.agg #[.int .i64 s, .slice g1 m c1], .agg #[.int .i64 t, .slice g2 n c2], .agg #[.int .i64 x0, .int .i64 x1]] w (EndsB w) := by
  have t1 : (FE != FE) = false := by simp
  have t2 : (CE != CE) = false := by simp
  have t3 : ((CN : Int) != (CN : Int)) = false := by simp
  have t4 : (GE == GE) = true := by simp
  have t5 : (VE == VE) = true := by simp
  go_enter Try.func3, Try.ntmps3
  go_wp2_with fail
  refine (HLG.out _ _ (by go_simp) (by go_simp)).mono ?_
  rintro en w1 ⟨rfl, hb1⟩
  have HB1 : Kp (Below w.heap.size w w1) := ⟨Below.trans (by repeat (first | refine Below.alloc ?_ (by (try simp) <;> omega) _ | refine bDrewN ?_ _ | refine Below.drew ?_ | refine Below.setCell ?_ (by (try simp) <;> omega) _ | exact Below.refl _ _)) (hb1.mono (by (try simp) <;> omega))⟩
  have hz1_0 : w.heap.size < w1.heap.size := by have := hb1.size; (try simp at this); omega
  have hz1_1 : w.heap.size + 1 < w1.heap.size := by have := hb1.size; (try simp at this); omega
  have hz1_2 : w.heap.size + 1 + 1 < w1.heap.size := by have := hb1.size; (try simp at this); omega
  obtain ⟨hc, hf⟩ := bcell hb1
  have c1_0_0 : w1.cell? ⟨w.heap.size, 0, none⟩ = some (.int .i64 s) := (hc _ _ (by (try simp) <;> omega)).trans (by go_simp)
  have c1_0_1 : w1.cell? ⟨w.heap.size, 1, none⟩ = some ((.slice g1 m c1)) := (hc _ _ (by (try simp) <;> omega)).trans (by go_simp)
  have z1_0 : ∀ j, w1.frozen? ⟨w.heap.size, j, none⟩ = false := fun j => (hf _ _ (by (try simp) <;> omega)).trans (by go_simp)
  have c1_1_0 : w1.cell? ⟨w.heap.size + 1, 0, none⟩ = some (.int .i64 t) := (hc _ _ (by (try simp) <;> omega)).trans (by go_simp)
  have c1_1_1 : w1.cell? ⟨w.heap.size + 1, 1, none⟩ = some ((.slice g2 n c2)) := (hc _ _ (by (try simp) <;> omega)).trans (by go_simp)
  have z1_1 : ∀ j, w1.frozen? ⟨w.heap.size + 1, j, none⟩ = false := fun j => (hf _ _ (by (try simp) <;> omega)).trans (by go_simp)
  have c1_2_0 : w1.cell? ⟨w.heap.size + 1 + 1, 0, none⟩ = some (.int .i64 x0) := (hc _ _ (by (try simp) <;> omega)).trans (by go_simp)
  have c1_2_1 : w1.cell? ⟨w.heap.size + 1 + 1, 1, none⟩ = some (.int .i64 x1) := (hc _ _ (by (try simp) <;> omega)).trans (by go_simp)
  have z1_2 : ∀ j, w1.frozen? ⟨w.heap.size + 1 + 1, j, none⟩ = false := fun j => (hf _ _ (by (try simp) <;> omega)).trans (by go_simp)
  clear hc hf hb1
  have hQ : (Q != Q) = false := by simp
  have hP : (P != P) = false := by simp
  go_wp2
  have r1_0_0 := fun d os => cell_regrown c1_0_0 d os
  have r1_0_1 := fun d os => cell_regrown c1_0_1 d os
  have r1_1_0 := fun d os => cell_regrown c1_1_0 d os
  have r1_1_1 := fun d os => cell_regrown c1_1_1 d os
  have r1_2_0 := fun d os => cell_regrown c1_2_0 d os
  have r1_2_1 := fun d os => cell_regrown c1_2_1 d os
  have HCL : Kp (∀ d os, Below w1.heap.size w1 (grow (redrawn w1 d) os)) := ⟨fun d os => below_regrown w1 d os⟩
  have K1 : Kp (∀ d os, _) := ⟨fun d os => HVB.out (grow (redrawn w1 d) os)⟩
  have K2 : Kp (∀ d os, _) := ⟨fun d os => HRB.out (grow (redrawn w1 d) os)⟩
  have K3 : Kp (∀ d os, _) := ⟨fun d os => HVV.out (grow (redrawn w1 d) os)⟩
  have K4 : Kp (∀ d os, _) := ⟨fun d os => HRV.out (grow (redrawn w1 d) os)⟩
  refine wp_region_quiet_below (by kernel_rfl) (by kernel_rfl) ?_
  repeat (any_goals (first | go_big_quiet_step (first | (with_reducible exact Calls.regrown_of (K1.out _ _)) | (with_reducible exact Calls.regrown_of (K2.out _ _)) | (with_reducible exact Calls.regrown_of (K3.out _ _)) | (with_reducible exact Calls.regrown_of (K4.out _ _))) | quiet_step (first | (with_reducible exact Calls.regrown_of (K1.out _ _)) | (with_reducible exact Calls.regrown_of (K2.out _ _)) | (with_reducible exact Calls.regrown_of (K3.out _ _)) | (with_reducible exact Calls.regrown_of (K4.out _ _)))))
  refine wpQuiet_nil ?_
  intro _ hqw
  obtain ⟨⟨dq, osq⟩, hqv⟩ := hqw
  subst hqv
  obtain ⟨w2, hw2⟩ : ∃ w2, grow (redrawn w1 dq) osq = w2 := ⟨_, rfl⟩
  rw [hw2]
  have hb2 : Below w1.heap.size w1 w2 := by rw [← hw2]; exact HCL.out dq osq
  clear hw2 K1 K2 K3 K4 HCL hP hQ r1_0_0 r1_0_1 r1_1_0 r1_1_1 r1_2_0 r1_2_1
  have HB2 : Kp (Below w.heap.size w w2) := ⟨Below.trans (by repeat (first | refine Below.alloc ?_ (by have := HB1.out.size; (try simp) <;> omega) _ | refine bDrewN ?_ _ | refine Below.drew ?_ | refine Below.setCell ?_ (by have := HB1.out.size; (try simp) <;> omega) _ | exact HB1.out)) (hb2.mono (by have := HB1.out.size; (try simp) <;> omega))⟩
  have hz2_0 : w.heap.size < w2.heap.size := by have := hb2.size; (try simp at this); omega
  have hz2_1 : w.heap.size + 1 < w2.heap.size := by have := hb2.size; (try simp at this); omega
  have hz2_2 : w.heap.size + 1 + 1 < w2.heap.size := by have := hb2.size; (try simp at this); omega
  obtain ⟨hc, hf⟩ := bcell hb2
  have c2_0_0 : w2.cell? ⟨w.heap.size, 0, none⟩ = some (.int .i64 s) := (hc _ _ (by (try simp) <;> omega)).trans (by go_simp)
  have c2_0_1 : w2.cell? ⟨w.heap.size, 1, none⟩ = some ((.slice g1 m c1)) := (hc _ _ (by (try simp) <;> omega)).trans (by go_simp)
  have z2_0 : ∀ j, w2.frozen? ⟨w.heap.size, j, none⟩ = false := fun j => (hf _ _ (by (try simp) <;> omega)).trans (by go_simp)
  have c2_1_0 : w2.cell? ⟨w.heap.size + 1, 0, none⟩ = some (.int .i64 t) := (hc _ _ (by (try simp) <;> omega)).trans (by go_simp)
  have c2_1_1 : w2.cell? ⟨w.heap.size + 1, 1, none⟩ = some ((.slice g2 n c2)) := (hc _ _ (by (try simp) <;> omega)).trans (by go_simp)
  have z2_1 : ∀ j, w2.frozen? ⟨w.heap.size + 1, j, none⟩ = false := fun j => (hf _ _ (by (try simp) <;> omega)).trans (by go_simp)
  have c2_2_0 : w2.cell? ⟨w.heap.size + 1 + 1, 0, none⟩ = some (.int .i64 x0) := (hc _ _ (by (try simp) <;> omega)).trans (by go_simp)
  have c2_2_1 : w2.cell? ⟨w.heap.size + 1 + 1, 1, none⟩ = some (.int .i64 x1) := (hc _ _ (by (try simp) <;> omega)).trans (by go_simp)
  have z2_2 : ∀ j, w2.frozen? ⟨w.heap.size + 1 + 1, j, none⟩ = false := fun j => (hf _ _ (by (try simp) <;> omega)).trans (by go_simp)
  clear hc hf hb2
  go_wp2_with fail
  refine (HFU.out _ HB2.out).mono ?_
  rintro en w3 ⟨gf, cf, rfl, hf', hb3⟩
  have HF := Kp.mk hf'
  clear hf'
  have HB3 : Kp (Below w.heap.size w w3) := ⟨Below.trans (by repeat (first | refine Below.alloc ?_ (by have := HB2.out.size; (try simp) <;> omega) _ | refine bDrewN ?_ _ | refine Below.drew ?_ | refine Below.setCell ?_ (by have := HB2.out.size; (try simp) <;> omega) _ | exact HB2.out)) (hb3.mono (by have := HB2.out.size; (try simp) <;> omega))⟩
  have hz3_0 : w.heap.size < w3.heap.size := by have := hb3.size; (try simp at this); omega
  have hz3_1 : w.heap.size + 1 < w3.heap.size := by have := hb3.size; (try simp at this); omega
  have hz3_2 : w.heap.size + 1 + 1 < w3.heap.size := by have := hb3.size; (try simp at this); omega
  obtain ⟨hc, hf⟩ := bcell hb3
  have c3_0_0 : w3.cell? ⟨w.heap.size, 0, none⟩ = some (.int .i64 s) := (hc _ _ (by (try simp) <;> omega)).trans (by go_simp)
  have c3_0_1 : w3.cell? ⟨w.heap.size, 1, none⟩ = some ((.slice g1 m c1)) := (hc _ _ (by (try simp) <;> omega)).trans (by go_simp)
  have z3_0 : ∀ j, w3.frozen? ⟨w.heap.size, j, none⟩ = false := fun j => (hf _ _ (by (try simp) <;> omega)).trans (by go_simp)
  have c3_1_0 : w3.cell? ⟨w.heap.size + 1, 0, none⟩ = some (.int .i64 t) := (hc _ _ (by (try simp) <;> omega)).trans (by go_simp)
  have c3_1_1 : w3.cell? ⟨w.heap.size + 1, 1, none⟩ = some ((.slice g2 n c2)) := (hc _ _ (by (try simp) <;> omega)).trans (by go_simp)
  have z3_1 : ∀ j, w3.frozen? ⟨w.heap.size + 1, j, none⟩ = false := fun j => (hf _ _ (by (try simp) <;> omega)).trans (by go_simp)
  have c3_2_0 : w3.cell? ⟨w.heap.size + 1 + 1, 0, none⟩ = some (.int .i64 x0) := (hc _ _ (by (try simp) <;> omega)).trans (by go_simp)
  have c3_2_1 : w3.cell? ⟨w.heap.size + 1 + 1, 1, none⟩ = some (.int .i64 x1) := (hc _ _ (by (try simp) <;> omega)).trans (by go_simp)
  have z3_2 : ∀ j, w3.frozen? ⟨w.heap.size + 1 + 1, j, none⟩ = false := fun j => (hf _ _ (by (try simp) <;> omega)).trans (by go_simp)
  clear hc hf hb3
  go_wp2_with fail
  refine (HRF.out _ (HB3.out.alloc HB3.out.size _)).mono ?_
  rintro en w4 ⟨gk, ck, rfl, hk', hb4⟩
  have HK := Kp.mk hk'
  have HF := Kp.mk ((HF.out.below ((Below.refl _ _).alloc (Nat.le_refl _) _)).below hb4)
  clear hk'
  have HB4 : Kp (Below w.heap.size w w4) := ⟨Below.trans (by repeat (first | refine Below.alloc ?_ (by have := HB3.out.size; (try simp) <;> omega) _ | refine bDrewN ?_ _ | refine Below.drew ?_ | refine Below.setCell ?_ (by have := HB3.out.size; (try simp) <;> omega) _ | exact HB3.out)) (hb4.mono (by have := HB3.out.size; (try simp) <;> omega))⟩
  have hz4_0 : w.heap.size < w4.heap.size := by have := hb4.size; (try simp at this); omega
  have hz4_1 : w.heap.size + 1 < w4.heap.size := by have := hb4.size; (try simp at this); omega
  have hz4_2 : w.heap.size + 1 + 1 < w4.heap.size := by have := hb4.size; (try simp at this); omega
  have hz4_3 : w3.heap.size < w4.heap.size := by have := hb4.size; (try simp at this); omega
  obtain ⟨hc, hf⟩ := bcell hb4
  have c4_0_0 : w4.cell? ⟨w.heap.size, 0, none⟩ = some (.int .i64 s) := (hc _ _ (by (try simp) <;> omega)).trans (by go_simp)
  have c4_0_1 : w4.cell? ⟨w.heap.size, 1, none⟩ = some ((.slice g1 m c1)) := (hc _ _ (by (try simp) <;> omega)).trans (by go_simp)
  have z4_0 : ∀ j, w4.frozen? ⟨w.heap.size, j, none⟩ = false := fun j => (hf _ _ (by (try simp) <;> omega)).trans (by go_simp)
  have c4_1_0 : w4.cell? ⟨w.heap.size + 1, 0, none⟩ = some (.int .i64 t) := (hc _ _ (by (try simp) <;> omega)).trans (by go_simp)
  have c4_1_1 : w4.cell? ⟨w.heap.size + 1, 1, none⟩ = some ((.slice g2 n c2)) := (hc _ _ (by (try simp) <;> omega)).trans (by go_simp)
  have z4_1 : ∀ j, w4.frozen? ⟨w.heap.size + 1, j, none⟩ = false := fun j => (hf _ _ (by (try simp) <;> omega)).trans (by go_simp)
  have c4_2_0 : w4.cell? ⟨w.heap.size + 1 + 1, 0, none⟩ = some (.int .i64 x0) := (hc _ _ (by (try simp) <;> omega)).trans (by go_simp)
  have c4_2_1 : w4.cell? ⟨w.heap.size + 1 + 1, 1, none⟩ = some (.int .i64 x1) := (hc _ _ (by (try simp) <;> omega)).trans (by go_simp)
  have z4_2 : ∀ j, w4.frozen? ⟨w.heap.size + 1 + 1, j, none⟩ = false := fun j => (hf _ _ (by (try simp) <;> omega)).trans (by go_simp)
  have c4_3_0 : w4.cell? ⟨w3.heap.size, 0, none⟩ = some (.int .i64 FS) := (hc _ _ (by (try simp) <;> omega)).trans (by go_simp)
  have c4_3_1 : w4.cell? ⟨w3.heap.size, 1, none⟩ = some ((.slice gf FL cf)) := (hc _ _ (by (try simp) <;> omega)).trans (by go_simp)
  have z4_3 : ∀ j, w4.frozen? ⟨w3.heap.size, j, none⟩ = false := fun j => (hf _ _ (by (try simp) <;> omega)).trans (by go_simp)
  clear hc hf hb4
  go_wp2_with fail
  refine (HCN.out _ (HB4.out.alloc HB4.out.size _)).mono ?_
  rintro en w5 ⟨rfl, hb5⟩
  have HF := Kp.mk ((HF.out.below ((Below.refl _ _).alloc (Nat.le_refl _) _)).below hb5)
  have HK := Kp.mk ((HK.out.below ((Below.refl _ _).alloc (Nat.le_refl _) _)).below hb5)
  have HB5 : Kp (Below w.heap.size w w5) := ⟨Below.trans (by repeat (first | refine Below.alloc ?_ (by have := HB4.out.size; (try simp) <;> omega) _ | refine bDrewN ?_ _ | refine Below.drew ?_ | refine Below.setCell ?_ (by have := HB4.out.size; (try simp) <;> omega) _ | exact HB4.out)) (hb5.mono (by have := HB4.out.size; (try simp) <;> omega))⟩
  have hz5_0 : w.heap.size < w5.heap.size := by have := hb5.size; (try simp at this); omega
  have hz5_1 : w.heap.size + 1 < w5.heap.size := by have := hb5.size; (try simp at this); omega
  have hz5_2 : w.heap.size + 1 + 1 < w5.heap.size := by have := hb5.size; (try simp at this); omega
  have hz5_3 : w3.heap.size < w5.heap.size := by have := hb5.size; (try simp at this); omega
  have hz5_4 : w4.heap.size < w5.heap.size := by have := hb5.size; (try simp at this); omega
  obtain ⟨hc, hf⟩ := bcell hb5
  have c5_0_0 : w5.cell? ⟨w.heap.size, 0, none⟩ = some (.int .i64 s) := (hc _ _ (by (try simp) <;> omega)).trans (by go_simp)
  have c5_0_1 : w5.cell? ⟨w.heap.size, 1, none⟩ = some ((.slice g1 m c1)) := (hc _ _ (by (try simp) <;> omega)).trans (by go_simp)
  have z5_0 : ∀ j, w5.frozen? ⟨w.heap.size, j, none⟩ = false := fun j => (hf _ _ (by (try simp) <;> omega)).trans (by go_simp)
  have c5_1_0 : w5.cell? ⟨w.heap.size + 1, 0, none⟩ = some (.int .i64 t) := (hc _ _ (by (try simp) <;> omega)).trans (by go_simp)
  have c5_1_1 : w5.cell? ⟨w.heap.size + 1, 1, none⟩ = some ((.slice g2 n c2)) := (hc _ _ (by (try simp) <;> omega)).trans (by go_simp)
  have z5_1 : ∀ j, w5.frozen? ⟨w.heap.size + 1, j, none⟩ = false := fun j => (hf _ _ (by (try simp) <;> omega)).trans (by go_simp)
  have c5_2_0 : w5.cell? ⟨w.heap.size + 1 + 1, 0, none⟩ = some (.int .i64 x0) := (hc _ _ (by (try simp) <;> omega)).trans (by go_simp)
  have c5_2_1 : w5.cell? ⟨w.heap.size + 1 + 1, 1, none⟩ = some (.int .i64 x1) := (hc _ _ (by (try simp) <;> omega)).trans (by go_simp)
  have z5_2 : ∀ j, w5.frozen? ⟨w.heap.size + 1 + 1, j, none⟩ = false := fun j => (hf _ _ (by (try simp) <;> omega)).trans (by go_simp)
  have c5_3_0 : w5.cell? ⟨w3.heap.size, 0, none⟩ = some (.int .i64 FS) := (hc _ _ (by (try simp) <;> omega)).trans (by go_simp)
  have c5_3_1 : w5.cell? ⟨w3.heap.size, 1, none⟩ = some ((.slice gf FL cf)) := (hc _ _ (by (try simp) <;> omega)).trans (by go_simp)
  have z5_3 : ∀ j, w5.frozen? ⟨w3.heap.size, j, none⟩ = false := fun j => (hf _ _ (by (try simp) <;> omega)).trans (by go_simp)
  have c5_4_0 : w5.cell? ⟨w4.heap.size, 0, none⟩ = some (.int .i64 FS) := (hc _ _ (by (try simp) <;> omega)).trans (by go_simp)
  have c5_4_1 : w5.cell? ⟨w4.heap.size, 1, none⟩ = some ((.slice gk FL ck)) := (hc _ _ (by (try simp) <;> omega)).trans (by go_simp)
  have z5_4 : ∀ j, w5.frozen? ⟨w4.heap.size, j, none⟩ = false := fun j => (hf _ _ (by (try simp) <;> omega)).trans (by go_simp)
  clear hc hf hb5
  go_wp2_with fail
  refine (HRC.out _ HB5.out).mono ?_
  rintro en w6 ⟨rfl, hb6⟩
  have HF := Kp.mk (HF.out.below hb6)
  have HK := Kp.mk (HK.out.below hb6)
  have HB6 : Kp (Below w.heap.size w w6) := ⟨Below.trans (by repeat (first | refine Below.alloc ?_ (by have := HB5.out.size; (try simp) <;> omega) _ | refine bDrewN ?_ _ | refine Below.drew ?_ | refine Below.setCell ?_ (by have := HB5.out.size; (try simp) <;> omega) _ | exact HB5.out)) (hb6.mono (by have := HB5.out.size; (try simp) <;> omega))⟩
  have hz6_0 : w.heap.size < w6.heap.size := by have := hb6.size; (try simp at this); omega
  have hz6_1 : w.heap.size + 1 < w6.heap.size := by have := hb6.size; (try simp at this); omega
  have hz6_2 : w.heap.size + 1 + 1 < w6.heap.size := by have := hb6.size; (try simp at this); omega
  have hz6_3 : w3.heap.size < w6.heap.size := by have := hb6.size; (try simp at this); omega
  have hz6_4 : w4.heap.size < w6.heap.size := by have := hb6.size; (try simp at this); omega
  obtain ⟨hc, hf⟩ := bcell hb6
  have c6_0_0 : w6.cell? ⟨w.heap.size, 0, none⟩ = some (.int .i64 s) := (hc _ _ (by (try simp) <;> omega)).trans (by go_simp)
  have c6_0_1 : w6.cell? ⟨w.heap.size, 1, none⟩ = some ((.slice g1 m c1)) := (hc _ _ (by (try simp) <;> omega)).trans (by go_simp)
  have z6_0 : ∀ j, w6.frozen? ⟨w.heap.size, j, none⟩ = false := fun j => (hf _ _ (by (try simp) <;> omega)).trans (by go_simp)
  have c6_1_0 : w6.cell? ⟨w.heap.size + 1, 0, none⟩ = some (.int .i64 t) := (hc _ _ (by (try simp) <;> omega)).trans (by go_simp)
  have c6_1_1 : w6.cell? ⟨w.heap.size + 1, 1, none⟩ = some ((.slice g2 n c2)) := (hc _ _ (by (try simp) <;> omega)).trans (by go_simp)
  have z6_1 : ∀ j, w6.frozen? ⟨w.heap.size + 1, j, none⟩ = false := fun j => (hf _ _ (by (try simp) <;> omega)).trans (by go_simp)
  have c6_2_0 : w6.cell? ⟨w.heap.size + 1 + 1, 0, none⟩ = some (.int .i64 x0) := (hc _ _ (by (try simp) <;> omega)).trans (by go_simp)
  have c6_2_1 : w6.cell? ⟨w.heap.size + 1 + 1, 1, none⟩ = some (.int .i64 x1) := (hc _ _ (by (try simp) <;> omega)).trans (by go_simp)
  have z6_2 : ∀ j, w6.frozen? ⟨w.heap.size + 1 + 1, j, none⟩ = false := fun j => (hf _ _ (by (try simp) <;> omega)).trans (by go_simp)
  have c6_3_0 : w6.cell? ⟨w3.heap.size, 0, none⟩ = some (.int .i64 FS) := (hc _ _ (by (try simp) <;> omega)).trans (by go_simp)
  have c6_3_1 : w6.cell? ⟨w3.heap.size, 1, none⟩ = some ((.slice gf FL cf)) := (hc _ _ (by (try simp) <;> omega)).trans (by go_simp)
  have z6_3 : ∀ j, w6.frozen? ⟨w3.heap.size, j, none⟩ = false := fun j => (hf _ _ (by (try simp) <;> omega)).trans (by go_simp)
  have c6_4_0 : w6.cell? ⟨w4.heap.size, 0, none⟩ = some (.int .i64 FS) := (hc _ _ (by (try simp) <;> omega)).trans (by go_simp)
  have c6_4_1 : w6.cell? ⟨w4.heap.size, 1, none⟩ = some ((.slice gk FL ck)) := (hc _ _ (by (try simp) <;> omega)).trans (by go_simp)
  have z6_4 : ∀ j, w6.frozen? ⟨w4.heap.size, j, none⟩ = false := fun j => (hf _ _ (by (try simp) <;> omega)).trans (by go_simp)
  clear hc hf hb6
  go_wp2_with fail
  refine (HSF.out _ _ _ _ _ HF.out HK.out).mono ?_
  rintro en w7 ⟨rfl, hb7⟩
  have HB7 : Kp (Below w.heap.size w w7) := ⟨Below.trans (by repeat (first | refine Below.alloc ?_ (by have := HB6.out.size; (try simp) <;> omega) _ | refine bDrewN ?_ _ | refine Below.drew ?_ | refine Below.setCell ?_ (by have := HB6.out.size; (try simp) <;> omega) _ | exact HB6.out)) (hb7.mono (by have := HB6.out.size; (try simp) <;> omega))⟩
  have hz7_0 : w.heap.size < w7.heap.size := by have := hb7.size; (try simp at this); omega
  have hz7_1 : w.heap.size + 1 < w7.heap.size := by have := hb7.size; (try simp at this); omega
  have hz7_2 : w.heap.size + 1 + 1 < w7.heap.size := by have := hb7.size; (try simp at this); omega
  obtain ⟨hc, hf⟩ := bcell hb7
  have c7_0_0 : w7.cell? ⟨w.heap.size, 0, none⟩ = some (.int .i64 s) := (hc _ _ (by (try simp) <;> omega)).trans (by go_simp)
  have c7_0_1 : w7.cell? ⟨w.heap.size, 1, none⟩ = some ((.slice g1 m c1)) := (hc _ _ (by (try simp) <;> omega)).trans (by go_simp)
  have z7_0 : ∀ j, w7.frozen? ⟨w.heap.size, j, none⟩ = false := fun j => (hf _ _ (by (try simp) <;> omega)).trans (by go_simp)
  have c7_1_0 : w7.cell? ⟨w.heap.size + 1, 0, none⟩ = some (.int .i64 t) := (hc _ _ (by (try simp) <;> omega)).trans (by go_simp)
  have c7_1_1 : w7.cell? ⟨w.heap.size + 1, 1, none⟩ = some ((.slice g2 n c2)) := (hc _ _ (by (try simp) <;> omega)).trans (by go_simp)
  have z7_1 : ∀ j, w7.frozen? ⟨w.heap.size + 1, j, none⟩ = false := fun j => (hf _ _ (by (try simp) <;> omega)).trans (by go_simp)
  have c7_2_0 : w7.cell? ⟨w.heap.size + 1 + 1, 0, none⟩ = some (.int .i64 x0) := (hc _ _ (by (try simp) <;> omega)).trans (by go_simp)
  have c7_2_1 : w7.cell? ⟨w.heap.size + 1 + 1, 1, none⟩ = some (.int .i64 x1) := (hc _ _ (by (try simp) <;> omega)).trans (by go_simp)
  have z7_2 : ∀ j, w7.frozen? ⟨w.heap.size + 1 + 1, j, none⟩ = false := fun j => (hf _ _ (by (try simp) <;> omega)).trans (by go_simp)
  clear hc hf hb7
  clear HF HK
  go_wp2_with fail
  refine (HGR.out _ HB7.out).mono ?_
  rintro en w8 ⟨gl, cl, rfl, hl', hb8⟩
  have HL := Kp.mk hl'
  clear hl'
  have HB8 : Kp (Below w.heap.size w w8) := ⟨Below.trans (by repeat (first | refine Below.alloc ?_ (by have := HB7.out.size; (try simp) <;> omega) _ | refine bDrewN ?_ _ | refine Below.drew ?_ | refine Below.setCell ?_ (by have := HB7.out.size; (try simp) <;> omega) _ | exact HB7.out)) (hb8.mono (by have := HB7.out.size; (try simp) <;> omega))⟩
  have hz8_0 : w.heap.size < w8.heap.size := by have := hb8.size; (try simp at this); omega
  have hz8_1 : w.heap.size + 1 < w8.heap.size := by have := hb8.size; (try simp at this); omega
  have hz8_2 : w.heap.size + 1 + 1 < w8.heap.size := by have := hb8.size; (try simp at this); omega
  obtain ⟨hc, hf⟩ := bcell hb8
  have c8_0_0 : w8.cell? ⟨w.heap.size, 0, none⟩ = some (.int .i64 s) := (hc _ _ (by (try simp) <;> omega)).trans (by go_simp)
  have c8_0_1 : w8.cell? ⟨w.heap.size, 1, none⟩ = some ((.slice g1 m c1)) := (hc _ _ (by (try simp) <;> omega)).trans (by go_simp)
  have z8_0 : ∀ j, w8.frozen? ⟨w.heap.size, j, none⟩ = false := fun j => (hf _ _ (by (try simp) <;> omega)).trans (by go_simp)
  have c8_1_0 : w8.cell? ⟨w.heap.size + 1, 0, none⟩ = some (.int .i64 t) := (hc _ _ (by (try simp) <;> omega)).trans (by go_simp)
  have c8_1_1 : w8.cell? ⟨w.heap.size + 1, 1, none⟩ = some ((.slice g2 n c2)) := (hc _ _ (by (try simp) <;> omega)).trans (by go_simp)
  have z8_1 : ∀ j, w8.frozen? ⟨w.heap.size + 1, j, none⟩ = false := fun j => (hf _ _ (by (try simp) <;> omega)).trans (by go_simp)
  have c8_2_0 : w8.cell? ⟨w.heap.size + 1 + 1, 0, none⟩ = some (.int .i64 x0) := (hc _ _ (by (try simp) <;> omega)).trans (by go_simp)
  have c8_2_1 : w8.cell? ⟨w.heap.size + 1 + 1, 1, none⟩ = some (.int .i64 x1) := (hc _ _ (by (try simp) <;> omega)).trans (by go_simp)
  have z8_2 : ∀ j, w8.frozen? ⟨w.heap.size + 1 + 1, j, none⟩ = false := fun j => (hf _ _ (by (try simp) <;> omega)).trans (by go_simp)
  clear hc hf hb8
  go_wp2_with fail
  refine (HRG.out _ HB8.out).mono ?_
  rintro en w9 ⟨gn, cn, rfl, hn', hb9⟩
  have HN := Kp.mk hn'
  have HL := Kp.mk (HL.out.below hb9)
  clear hn'
  have HB9 : Kp (Below w.heap.size w w9) := ⟨Below.trans (by repeat (first | refine Below.alloc ?_ (by have := HB8.out.size; (try simp) <;> omega) _ | refine bDrewN ?_ _ | refine Below.drew ?_ | refine Below.setCell ?_ (by have := HB8.out.size; (try simp) <;> omega) _ | exact HB8.out)) (hb9.mono (by have := HB8.out.size; (try simp) <;> omega))⟩
  have hz9_0 : w.heap.size < w9.heap.size := by have := hb9.size; (try simp at this); omega
  have hz9_1 : w.heap.size + 1 < w9.heap.size := by have := hb9.size; (try simp at this); omega
  have hz9_2 : w.heap.size + 1 + 1 < w9.heap.size := by have := hb9.size; (try simp at this); omega
  obtain ⟨hc, hf⟩ := bcell hb9
  have c9_0_0 : w9.cell? ⟨w.heap.size, 0, none⟩ = some (.int .i64 s) := (hc _ _ (by (try simp) <;> omega)).trans (by go_simp)
  have c9_0_1 : w9.cell? ⟨w.heap.size, 1, none⟩ = some ((.slice g1 m c1)) := (hc _ _ (by (try simp) <;> omega)).trans (by go_simp)
  have z9_0 : ∀ j, w9.frozen? ⟨w.heap.size, j, none⟩ = false := fun j => (hf _ _ (by (try simp) <;> omega)).trans (by go_simp)
  have c9_1_0 : w9.cell? ⟨w.heap.size + 1, 0, none⟩ = some (.int .i64 t) := (hc _ _ (by (try simp) <;> omega)).trans (by go_simp)
  have c9_1_1 : w9.cell? ⟨w.heap.size + 1, 1, none⟩ = some ((.slice g2 n c2)) := (hc _ _ (by (try simp) <;> omega)).trans (by go_simp)
  have z9_1 : ∀ j, w9.frozen? ⟨w.heap.size + 1, j, none⟩ = false := fun j => (hf _ _ (by (try simp) <;> omega)).trans (by go_simp)
  have c9_2_0 : w9.cell? ⟨w.heap.size + 1 + 1, 0, none⟩ = some (.int .i64 x0) := (hc _ _ (by (try simp) <;> omega)).trans (by go_simp)
  have c9_2_1 : w9.cell? ⟨w.heap.size + 1 + 1, 1, none⟩ = some (.int .i64 x1) := (hc _ _ (by (try simp) <;> omega)).trans (by go_simp)
  have z9_2 : ∀ j, w9.frozen? ⟨w.heap.size + 1 + 1, j, none⟩ = false := fun j => (hf _ _ (by (try simp) <;> omega)).trans (by go_simp)
  clear hc hf hb9
  go_wp2_with fail
  refine (HVW.out _ HB9.out).mono ?_
  rintro en w10 ⟨gp, cp, rfl, hp', hb10⟩
  have HPP := Kp.mk hp'
  have HL := Kp.mk (HL.out.below hb10)
  have HN := Kp.mk (HN.out.below hb10)
  clear hp'
  have HB10 : Kp (Below w.heap.size w w10) := ⟨Below.trans (by repeat (first | refine Below.alloc ?_ (by have := HB9.out.size; (try simp) <;> omega) _ | refine bDrewN ?_ _ | refine Below.drew ?_ | refine Below.setCell ?_ (by have := HB9.out.size; (try simp) <;> omega) _ | exact HB9.out)) (hb10.mono (by have := HB9.out.size; (try simp) <;> omega))⟩
  have hz10_0 : w.heap.size < w10.heap.size := by have := hb10.size; (try simp at this); omega
  have hz10_1 : w.heap.size + 1 < w10.heap.size := by have := hb10.size; (try simp at this); omega
  have hz10_2 : w.heap.size + 1 + 1 < w10.heap.size := by have := hb10.size; (try simp at this); omega
  obtain ⟨hc, hf⟩ := bcell hb10
  have c10_0_0 : w10.cell? ⟨w.heap.size, 0, none⟩ = some (.int .i64 s) := (hc _ _ (by (try simp) <;> omega)).trans (by go_simp)
  have c10_0_1 : w10.cell? ⟨w.heap.size, 1, none⟩ = some ((.slice g1 m c1)) := (hc _ _ (by (try simp) <;> omega)).trans (by go_simp)
  have z10_0 : ∀ j, w10.frozen? ⟨w.heap.size, j, none⟩ = false := fun j => (hf _ _ (by (try simp) <;> omega)).trans (by go_simp)
  have c10_1_0 : w10.cell? ⟨w.heap.size + 1, 0, none⟩ = some (.int .i64 t) := (hc _ _ (by (try simp) <;> omega)).trans (by go_simp)
  have c10_1_1 : w10.cell? ⟨w.heap.size + 1, 1, none⟩ = some ((.slice g2 n c2)) := (hc _ _ (by (try simp) <;> omega)).trans (by go_simp)
  have z10_1 : ∀ j, w10.frozen? ⟨w.heap.size + 1, j, none⟩ = false := fun j => (hf _ _ (by (try simp) <;> omega)).trans (by go_simp)
  have c10_2_0 : w10.cell? ⟨w.heap.size + 1 + 1, 0, none⟩ = some (.int .i64 x0) := (hc _ _ (by (try simp) <;> omega)).trans (by go_simp)
  have c10_2_1 : w10.cell? ⟨w.heap.size + 1 + 1, 1, none⟩ = some (.int .i64 x1) := (hc _ _ (by (try simp) <;> omega)).trans (by go_simp)
  have z10_2 : ∀ j, w10.frozen? ⟨w.heap.size + 1 + 1, j, none⟩ = false := fun j => (hf _ _ (by (try simp) <;> omega)).trans (by go_simp)
  clear hc hf hb10
  go_wp2_with fail
  refine (HRW.out _ (HB10.out.alloc HB10.out.size _)).mono ?_
  rintro en w11 ⟨gq, cq, rfl, hq', hb11⟩
  have HQQ := Kp.mk hq'
  have HPP := Kp.mk ((HPP.out.below ((Below.refl _ _).alloc (Nat.le_refl _) _)).below hb11)
  have HL := Kp.mk ((HL.out.below ((Below.refl _ _).alloc (Nat.le_refl _) _)).below hb11)
  have HN := Kp.mk ((HN.out.below ((Below.refl _ _).alloc (Nat.le_refl _) _)).below hb11)
  clear hq'
  have HB11 : Kp (Below w.heap.size w w11) := ⟨Below.trans (by repeat (first | refine Below.alloc ?_ (by have := HB10.out.size; (try simp) <;> omega) _ | refine bDrewN ?_ _ | refine Below.drew ?_ | refine Below.setCell ?_ (by have := HB10.out.size; (try simp) <;> omega) _ | exact HB10.out)) (hb11.mono (by have := HB10.out.size; (try simp) <;> omega))⟩
  have hz11_0 : w.heap.size < w11.heap.size := by have := hb11.size; (try simp at this); omega
  have hz11_1 : w.heap.size + 1 < w11.heap.size := by have := hb11.size; (try simp at this); omega
  have hz11_2 : w.heap.size + 1 + 1 < w11.heap.size := by have := hb11.size; (try simp at this); omega
  have hz11_3 : w10.heap.size < w11.heap.size := by have := hb11.size; (try simp at this); omega
  obtain ⟨hc, hf⟩ := bcell hb11
  have c11_0_0 : w11.cell? ⟨w.heap.size, 0, none⟩ = some (.int .i64 s) := (hc _ _ (by (try simp) <;> omega)).trans (by go_simp)
  have c11_0_1 : w11.cell? ⟨w.heap.size, 1, none⟩ = some ((.slice g1 m c1)) := (hc _ _ (by (try simp) <;> omega)).trans (by go_simp)
  have z11_0 : ∀ j, w11.frozen? ⟨w.heap.size, j, none⟩ = false := fun j => (hf _ _ (by (try simp) <;> omega)).trans (by go_simp)
  have c11_1_0 : w11.cell? ⟨w.heap.size + 1, 0, none⟩ = some (.int .i64 t) := (hc _ _ (by (try simp) <;> omega)).trans (by go_simp)
  have c11_1_1 : w11.cell? ⟨w.heap.size + 1, 1, none⟩ = some ((.slice g2 n c2)) := (hc _ _ (by (try simp) <;> omega)).trans (by go_simp)
  have z11_1 : ∀ j, w11.frozen? ⟨w.heap.size + 1, j, none⟩ = false := fun j => (hf _ _ (by (try simp) <;> omega)).trans (by go_simp)
  have c11_2_0 : w11.cell? ⟨w.heap.size + 1 + 1, 0, none⟩ = some (.int .i64 x0) := (hc _ _ (by (try simp) <;> omega)).trans (by go_simp)
  have c11_2_1 : w11.cell? ⟨w.heap.size + 1 + 1, 1, none⟩ = some (.int .i64 x1) := (hc _ _ (by (try simp) <;> omega)).trans (by go_simp)
  have z11_2 : ∀ j, w11.frozen? ⟨w.heap.size + 1 + 1, j, none⟩ = false := fun j => (hf _ _ (by (try simp) <;> omega)).trans (by go_simp)
  have c11_3_0 : w11.cell? ⟨w10.heap.size, 0, none⟩ = some (.int .i64 VS) := (hc _ _ (by (try simp) <;> omega)).trans (by go_simp)
  have c11_3_1 : w11.cell? ⟨w10.heap.size, 1, none⟩ = some ((.slice gp VL cp)) := (hc _ _ (by (try simp) <;> omega)).trans (by go_simp)
  have z11_3 : ∀ j, w11.frozen? ⟨w10.heap.size, j, none⟩ = false := fun j => (hf _ _ (by (try simp) <;> omega)).trans (by go_simp)
  clear hc hf hb11
  go_wp2_with fail
  refine (HSG.out _ _ _ _ _ (HL.out.below ((Below.refl _ _).alloc (Nat.le_refl _) _)) (HN.out.below ((Below.refl _ _).alloc (Nat.le_refl _) _))).mono ?_
  rintro en w12 ⟨rfl, hb12⟩
  have HPP := Kp.mk ((HPP.out.below ((Below.refl _ _).alloc (Nat.le_refl _) _)).below hb12)
  have HQQ := Kp.mk ((HQQ.out.below ((Below.refl _ _).alloc (Nat.le_refl _) _)).below hb12)
  have HB12 : Kp (Below w.heap.size w w12) := ⟨Below.trans (by repeat (first | refine Below.alloc ?_ (by have := HB11.out.size; (try simp) <;> omega) _ | refine bDrewN ?_ _ | refine Below.drew ?_ | refine Below.setCell ?_ (by have := HB11.out.size; (try simp) <;> omega) _ | exact HB11.out)) (hb12.mono (by have := HB11.out.size; (try simp) <;> omega))⟩
  have hz12_0 : w10.heap.size < w12.heap.size := by have := hb12.size; (try simp at this); omega
  have hz12_1 : w11.heap.size < w12.heap.size := by have := hb12.size; (try simp at this); omega
  obtain ⟨hc, hf⟩ := bcell hb12
  have c12_0_0 : w12.cell? ⟨w10.heap.size, 0, none⟩ = some (.int .i64 VS) := (hc _ _ (by (try simp) <;> omega)).trans (by go_simp)
  have c12_0_1 : w12.cell? ⟨w10.heap.size, 1, none⟩ = some ((.slice gp VL cp)) := (hc _ _ (by (try simp) <;> omega)).trans (by go_simp)
  have z12_0 : ∀ j, w12.frozen? ⟨w10.heap.size, j, none⟩ = false := fun j => (hf _ _ (by (try simp) <;> omega)).trans (by go_simp)
  have c12_1_0 : w12.cell? ⟨w11.heap.size, 0, none⟩ = some (.int .i64 VS) := (hc _ _ (by (try simp) <;> omega)).trans (by go_simp)
  have c12_1_1 : w12.cell? ⟨w11.heap.size, 1, none⟩ = some ((.slice gq VL cq)) := (hc _ _ (by (try simp) <;> omega)).trans (by go_simp)
  have z12_1 : ∀ j, w12.frozen? ⟨w11.heap.size, j, none⟩ = false := fun j => (hf _ _ (by (try simp) <;> omega)).trans (by go_simp)
  clear hc hf hb12
  go_wp2_with fail
  refine (HSV.out _ _ _ _ _ HPP.out HQQ.out).mono ?_
  rintro en w13 ⟨rfl, hb13⟩
  have HB13 : Kp (Below w.heap.size w w13) := ⟨HB12.out.trans (hb13.mono HB12.out.size)⟩
  clear hb13
  go_wp2_with fail
  refine (awake_any _).mono ?_
  rintro en wz ⟨rfl, hbz⟩
  have HBZ : Kp (Below w.heap.size w wz) := ⟨(HB13.out).trans (hbz.mono (HB13.out).size)⟩
  clear hbz
  go_wp2
  go_ret
  exact ⟨rfl, HBZ.out⟩
theorem lb_res {w w' : World} {u : Value} {L : List Bool} {S E : Int} (hu : LB w' u L) (hb : Below w.heap.size w w') : ∃ g c, Ending.returned (.tuple #[.agg #[.int .i64 S, u], .int .i64 E]) = .returned (.tuple #[.agg #[.int .i64 S, .slice g L.length c], .int .i64 E]) ∧ LB w' (.slice g L.length c) L ∧ Below w.heap.size w w' := by
  obtain ⟨g, c, rfl⟩ := hu.shape
  exact ⟨g, c, rfl, hu, hb⟩
theorem gs_res {w w' : World} {r : Value} {l : List Gr} {E : Int} (hr : GS w' r l) (hb : Below w.heap.size w w') : ∃ g c, Ending.returned (.tuple #[r, .int .i64 E]) = .returned (.tuple #[.slice g l.length c, .int .i64 E]) ∧ GS w' (.slice g l.length c) l ∧ Below w.heap.size w w' := by
  obtain ⟨g, c, rfl⟩ := hr.shape
  exact ⟨g, c, rfl, hr, hb⟩
theorem full_len (n : Int) : (fullL n).length ≤ 1000 := by
  unfold fullL
  split
  · rename_i h
    have hs := side_iff.1 h
    obtain ⟨s, rfl⟩ : ∃ s : Nat, n = s := ⟨n.toNat, by omega⟩
    rw [List.length_map, places_len, Int.toNat_natCast]
    exact (cube_bd (by omega)).2
  · simp
theorem vw_len (n : Int) (h : List Bool) (ax : Int) : (vwL n h ax).length ≤ 1000 := by
  unfold vwL
  split
  · rename_i hh
    have hb : blockB n h.length = true := by
      unfold vwE at hh
      split at hh
      · rename_i h2
        exact h2
      · exact absurd hh (by decide)
    obtain ⟨s, rfl, h1, h2, -⟩ := block_sides hb
    rw [viewL_len, Int.toNat_natCast]
    have := (cube_bd h2).1
    omega
  · simp
theorem grn_len (n : Int) (h : List Bool) : (grnL n h).length ≤ 1000 := by
  unfold grnL
  split
  · rename_i hb
    obtain ⟨s, rfl, h1, h2, -⟩ := block_sides hb
    rw [Int.toNat_natCast]
    exact Nat.le_trans (grains_few s h) (cube_bd h2).2
  · simp
set_option maxHeartbeats 1000000 in
theorem lawBlocks_any (s t x0 x1 : Int) (u v : Value) (h d : List Bool) (w : World) (hu : LB w u h) (hv : LB w v d) :
    Calls Try.prog 3 #[.agg #[.int .i64 s, u], .agg #[.int .i64 t, v], .agg #[.int .i64 x0, .int .i64 x1]] w (EndsB w) := by
  obtain ⟨g1, c1, rfl⟩ := hu.shape
  obtain ⟨g2, c2, rfl⟩ := hv.shape
  by_cases hL : h.length ≤ 2000
  · have HLG : Kp (∀ W Y, W.cell? ⟨Y, 0, none⟩ = some (.int .i64 s) → W.cell? ⟨Y, 1, none⟩ = some (.slice g1 h.length c1) → Calls Try.prog 15 #[.slice (some ⟨Y, 0, none⟩) 1 1] W fun e w' => e = .returned (.bool true) ∧ Below W.heap.size W w') := ⟨fun W Y h0 h1 => by
      have hh := light_any s g1 h.length c1 Y W h0 h1
      rwa [decide_eq_true hL] at hh⟩
    by_cases hK : d.length ≤ 1000
    · have HS : ∀ (S : Int) (L : List Bool), L.length ≤ 2000 → Kp (∀ W g g' c c', LB W (.slice g L.length c) L → LB W (.slice g' L.length c') L → Calls Try.prog 25 #[.agg #[.int .i64 S, .slice g L.length c], .agg #[.int .i64 S, .slice g' L.length c']] W fun e w' => e = .returned (.bool true) ∧ Below W.heap.size W w') := fun S L hl => ⟨fun W g g' c c' k1 k2 => rsame_yes S _ _ L W (by omega) k1 k2⟩
      have HSV : ∀ (S : Int) (L : List Bool), L.length ≤ 2000 → Kp (∀ W g g' c c', LB W (.slice g L.length c) L → LB W (.slice g' L.length c') L → Calls Try.prog 31 #[.agg #[.int .i64 S, .slice g L.length c], .agg #[.int .i64 S, .slice g' L.length c']] W fun e w' => e = .returned (.bool true) ∧ Below W.heap.size W w') := fun S L hl => ⟨fun W g g' c c' k1 k2 => rsameV_yes S _ _ L W (by omega) k1 k2⟩
      refine bl_all s t x0 x1 (fullS x0) (fullE x0) (grnE s h) (grnE s h) (vwS s h x1) (vwE s h x1) g1 g2 h.length c1 d.length c2 (fullL x0).length (grnL s h).length (grnL s h).length (vwL s h x1).length (blockB s h.length) (viewB t d.length) (fullL x0) (vwL s h x1) (grnL s h) w (by omega) HLG
        ⟨fun W => ValidBlock_any s g1 h.length c1 W⟩ ⟨fun W => rValidBlock_any s g1 h.length c1 W⟩ ⟨fun W => ValidView_any t g2 d.length c2 W⟩ ⟨fun W => rValidView_any t g2 d.length c2 W⟩
        ⟨fun W _ => (Full_any x0 W).mono fun e w' ⟨r, he, ⟨z, hz, hr⟩, hb⟩ => by
          subst he hz
          exact lb_res hr hb⟩
        ⟨fun W _ => (rFull_any x0 W).mono fun e w' ⟨r, he, ⟨z, hz, hr⟩, hb⟩ => by
          subst he hz
          exact lb_res hr hb⟩
        (HS _ _ (by have := full_len x0; omega)) ⟨fun W hW => count_any s _ h W (hu.below hW)⟩ ⟨fun W hW => rcount_any s _ h W (hu.below hW)⟩
        ⟨fun W hW => (Grains_any s _ h W (hu.below hW)).mono fun e w' ⟨r, he, ⟨B0, _, ho⟩, hb⟩ => by
          subst he
          exact gs_res ho.gs hb⟩
        ⟨fun W hW => (rGrains_any s _ h W (hu.below hW)).mono fun e w' ⟨r, he, ⟨B0, _, ho⟩, hb⟩ => by
          subst he
          exact gs_res ho.gs hb⟩
        ⟨fun W g g' c c' k1 k2 => (rsameG_yes _ _ (grnL s h) W (by have := grn_len s h; omega) k1 k2).mono fun e w' ⟨he, q, hq⟩ => ⟨he, by subst hq; exact bDrewN (Below.refl _ _) q⟩⟩
        ⟨fun W hW => (View_any s _ h x1 W (hu.below hW)).mono fun e w' ⟨r, he, hr, hb⟩ => by
          subst he
          exact lb_res hr hb⟩
        ⟨fun W hW => (rView_any s _ h x1 W (hu.below hW)).mono fun e w' ⟨r, he, hr, hb⟩ => by
          subst he
          exact lb_res hr hb⟩
        (HSV _ _ (by have := vw_len s h x1; omega))
    · exact bl_long s t x0 x1 g1 g2 h.length c1 d.length c2 w (by omega) HLG
  · refine bl_light s t x0 x1 g1 g2 h.length c1 d.length c2 w ⟨fun W Y h0 h1 => ?_⟩
    have hh := light_any s g1 h.length c1 Y W h0 h1
    rwa [decide_eq_false hL] at hh
end Go.Proofs.Yticcafjogmjkiaa.Cv
