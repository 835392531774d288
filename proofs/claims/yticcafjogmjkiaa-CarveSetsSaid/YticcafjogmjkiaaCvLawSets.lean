/-
  THE WALK of the law CarveSets.
-/
import Derived.Test.YticcafjogmjkiaaCvLight2
import Derived.Test.YticcafjogmjkiaaCvRefH
namespace Go.Proofs.Yticcafjogmjkiaa.Cv
open Go Go.RowKit Go.Sort

def EndsS (w : World) (e : Ending) (w' : World) : Prop := e = .returned (.bool true) ∧ Below w.heap.size w w'
theorem st_light (s t : Int) (g1 g2 : Option Addr) (m c1 n c2 : Nat) (w : World) (HLG : Kp (∀ W Y, W.cell? ⟨Y, 0, none⟩ = some (.int .i64 s) → W.cell? ⟨Y, 1, none⟩ = some (.slice g1 m c1) → W.cell? ⟨Y, 2, none⟩ = some (.int .i64 t) → W.cell? ⟨Y, 3, none⟩ = some (.slice g2 n c2) → Calls Try.prog 15 #[.slice (some ⟨Y, 0, none⟩) 2 2] W fun e w' => e = .returned (.bool false) ∧ Below W.heap.size W w')) :
    Calls Try.prog 6 #[.agg #[.int .i64 s, .slice g1 m c1], .agg #[.int .i64 t, .slice g2 n c2]] w (EndsS w) := by
  go_enter Try.func6, Try.ntmps6
  go_wp2_with fail
  refine (HLG.out _ _ (by go_simp) (by go_simp) (by go_simp) (by go_simp)).mono ?_
  rintro en w1 ⟨rfl, hb1⟩
  have HB1 : Kp (Below w.heap.size w w1) := ⟨Below.trans (by repeat (first | refine Below.alloc ?_ (by (try simp) <;> omega) _ | refine bDrewN ?_ _ | refine Below.drew ?_ | refine Below.setCell ?_ (by (try simp) <;> omega) _ | exact Below.refl _ _)) (hb1.mono (by (try simp) <;> omega))⟩
  have hz1_0 : w.heap.size < w1.heap.size := by have := hb1.size; (try simp at this); omega
  have hz1_1 : w.heap.size + 1 < w1.heap.size := by have := hb1.size; (try simp at this); omega
  obtain ⟨hc, hf⟩ := bcell hb1
  have c1_0_0 : w1.cell? ⟨w.heap.size, 0, none⟩ = some (.int .i64 s) := (hc _ _ (by (try simp) <;> omega)).trans (by go_simp)
  have c1_0_1 : w1.cell? ⟨w.heap.size, 1, none⟩ = some ((.slice g1 m c1)) := (hc _ _ (by (try simp) <;> omega)).trans (by go_simp)
  have z1_0 : ∀ j, w1.frozen? ⟨w.heap.size, j, none⟩ = false := fun j => (hf _ _ (by (try simp) <;> omega)).trans (by go_simp)
  have c1_1_0 : w1.cell? ⟨w.heap.size + 1, 0, none⟩ = some (.int .i64 t) := (hc _ _ (by (try simp) <;> omega)).trans (by go_simp)
  have c1_1_1 : w1.cell? ⟨w.heap.size + 1, 1, none⟩ = some ((.slice g2 n c2)) := (hc _ _ (by (try simp) <;> omega)).trans (by go_simp)
  have z1_1 : ∀ j, w1.frozen? ⟨w.heap.size + 1, j, none⟩ = false := fun j => (hf _ _ (by (try simp) <;> omega)).trans (by go_simp)
  clear hc hf hb1
  go_wp2_with fail
  refine (awake_any _).mono ?_
  rintro en wz ⟨rfl, hbz⟩
  have HBZ : Kp (Below w.heap.size w wz) := ⟨(HB1.out).trans (hbz.mono (HB1.out).size)⟩
  clear hbz
  go_wp2
  go_ret
  exact ⟨rfl, HBZ.out⟩
set_option maxRecDepth 100000 in
set_option maxHeartbeats 4000000 in
theorem st_bad (s t : Int) (g1 g2 : Option Addr) (m c1 n c2 : Nat) (R : Bool) (L L2 : List Bool) (w : World) (HLG : Kp (∀ W Y, W.cell? ⟨Y, 0, none⟩ = some (.int .i64 s) → W.cell? ⟨Y, 1, none⟩ = some (.slice g1 m c1) → W.cell? ⟨Y, 2, none⟩ = some (.int .i64 t) → W.cell? ⟨Y, 3, none⟩ = some (.slice g2 n c2) → Calls Try.prog 15 #[.slice (some ⟨Y, 0, none⟩) 2 2] W fun e w' => e = .returned (.bool true) ∧ Below W.heap.size W w')) (HBO : Kp (∀ W, Below w.heap.size w W → Calls Try.prog 43 #[.agg #[.int .i64 s, .slice g1 m c1], .agg #[.int .i64 t, .slice g2 n c2]] W fun e w' => ∃ g c, e = .returned (.tuple #[.agg #[.int .i64 0, .slice g 0 c], .int .i64 1]) ∧ LB w' (.slice g 0 c) L ∧ Below W.heap.size W w')) (HRB : Kp (∀ W, Below w.heap.size w W → Calls Try.prog 44 #[.agg #[.int .i64 s, .slice g1 m c1], .agg #[.int .i64 t, .slice g2 n c2]] W fun e w' => ∃ g c, e = .returned (.tuple #[.agg #[.int .i64 0, .slice g 0 c], .int .i64 1]) ∧ LB w' (.slice g 0 c) L ∧ Below W.heap.size W w')) (HEI : Kp (∀ W, Below w.heap.size w W → Calls Try.prog 47 #[.agg #[.int .i64 s, .slice g1 m c1], .agg #[.int .i64 t, .slice g2 n c2]] W fun e w' => ∃ g c, e = .returned (.tuple #[.agg #[.int .i64 0, .slice g 0 c], .int .i64 1]) ∧ LB w' (.slice g 0 c) L2 ∧ Below W.heap.size W w')) (HRE : Kp (∀ W, Below w.heap.size w W → Calls Try.prog 48 #[.agg #[.int .i64 s, .slice g1 m c1], .agg #[.int .i64 t, .slice g2 n c2]] W fun e w' => ∃ g c, e = .returned (.tuple #[.agg #[.int .i64 0, .slice g 0 c], .int .i64 1]) ∧ LB w' (.slice g 0 c) L2 ∧ Below W.heap.size W w')) (HSA : Kp (∀ W g g' c c', LB W (.slice g 0 c) L → LB W (.slice g' 0 c') L → Calls Try.prog 25 #[.agg #[.int .i64 0, .slice g 0 c], .agg #[.int .i64 0, .slice g' 0 c']] W fun e w' => e = .returned (.bool true) ∧ Below W.heap.size W w')) (HSB : Kp (∀ W g g' c c', LB W (.slice g 0 c) L2 → LB W (.slice g' 0 c') L2 → Calls Try.prog 25 #[.agg #[.int .i64 0, .slice g 0 c], .agg #[.int .i64 0, .slice g' 0 c']] W fun e w' => e = .returned (.bool true) ∧ Below W.heap.size W w')) (HWI : Kp (∀ W, Below w.heap.size w W → Calls Try.prog 45 #[.agg #[.int .i64 s, .slice g1 m c1], .agg #[.int .i64 t, .slice g2 n c2]] W fun e w' => e = .returned (.bool R) ∧ Below W.heap.size W w')) (HRW : Kp (∀ W, Below w.heap.size w W → Calls Try.prog 46 #[.agg #[.int .i64 s, .slice g1 m c1], .agg #[.int .i64 t, .slice g2 n c2]] W fun e w' => e = .returned (.bool R) ∧ Below W.heap.size W w')) :
    Calls Try.prog 6 #[.agg #[.int .i64 s, .slice g1 m c1], .agg #[.int .i64 t, .slice g2 n c2]] w (EndsS w) := by
  go_enter Try.func6, Try.ntmps6
  go_wp2_with fail
  refine (HLG.out _ _ (by go_simp) (by go_simp) (by go_simp) (by go_simp)).mono ?_
  rintro en w1 ⟨rfl, hb1⟩
  have HB1 : Kp (Below w.heap.size w w1) := ⟨Below.trans (by repeat (first | refine Below.alloc ?_ (by (try simp) <;> omega) _ | refine bDrewN ?_ _ | refine Below.drew ?_ | refine Below.setCell ?_ (by (try simp) <;> omega) _ | exact Below.refl _ _)) (hb1.mono (by (try simp) <;> omega))⟩
  have hz1_0 : w.heap.size < w1.heap.size := by have := hb1.size; (try simp at this); omega
  have hz1_1 : w.heap.size + 1 < w1.heap.size := by have := hb1.size; (try simp at this); omega
  obtain ⟨hc, hf⟩ := bcell hb1
  have c1_0_0 : w1.cell? ⟨w.heap.size, 0, none⟩ = some (.int .i64 s) := (hc _ _ (by (try simp) <;> omega)).trans (by go_simp)
  have c1_0_1 : w1.cell? ⟨w.heap.size, 1, none⟩ = some ((.slice g1 m c1)) := (hc _ _ (by (try simp) <;> omega)).trans (by go_simp)
  have z1_0 : ∀ j, w1.frozen? ⟨w.heap.size, j, none⟩ = false := fun j => (hf _ _ (by (try simp) <;> omega)).trans (by go_simp)
  have c1_1_0 : w1.cell? ⟨w.heap.size + 1, 0, none⟩ = some (.int .i64 t) := (hc _ _ (by (try simp) <;> omega)).trans (by go_simp)
  have c1_1_1 : w1.cell? ⟨w.heap.size + 1, 1, none⟩ = some ((.slice g2 n c2)) := (hc _ _ (by (try simp) <;> omega)).trans (by go_simp)
  have z1_1 : ∀ j, w1.frozen? ⟨w.heap.size + 1, j, none⟩ = false := fun j => (hf _ _ (by (try simp) <;> omega)).trans (by go_simp)
  clear hc hf hb1
  go_wp2_with fail
  refine (HBO.out _ HB1.out).mono ?_
  rintro en w2 ⟨gx, cx, rfl, hx, hb2⟩
  have HX := Kp.mk hx
  clear hx
  have HB2 : Kp (Below w.heap.size w w2) := ⟨Below.trans (by repeat (first | refine Below.alloc ?_ (by have := HB1.out.size; (try simp) <;> omega) _ | refine bDrewN ?_ _ | refine Below.drew ?_ | refine Below.setCell ?_ (by have := HB1.out.size; (try simp) <;> omega) _ | exact HB1.out)) (hb2.mono (by have := HB1.out.size; (try simp) <;> omega))⟩
  have hz2_0 : w.heap.size < w2.heap.size := by have := hb2.size; (try simp at this); omega
  have hz2_1 : w.heap.size + 1 < w2.heap.size := by have := hb2.size; (try simp at this); omega
  obtain ⟨hc, hf⟩ := bcell hb2
  have c2_0_0 : w2.cell? ⟨w.heap.size, 0, none⟩ = some (.int .i64 s) := (hc _ _ (by (try simp) <;> omega)).trans (by go_simp)
  have c2_0_1 : w2.cell? ⟨w.heap.size, 1, none⟩ = some ((.slice g1 m c1)) := (hc _ _ (by (try simp) <;> omega)).trans (by go_simp)
  have z2_0 : ∀ j, w2.frozen? ⟨w.heap.size, j, none⟩ = false := fun j => (hf _ _ (by (try simp) <;> omega)).trans (by go_simp)
  have c2_1_0 : w2.cell? ⟨w.heap.size + 1, 0, none⟩ = some (.int .i64 t) := (hc _ _ (by (try simp) <;> omega)).trans (by go_simp)
  have c2_1_1 : w2.cell? ⟨w.heap.size + 1, 1, none⟩ = some ((.slice g2 n c2)) := (hc _ _ (by (try simp) <;> omega)).trans (by go_simp)
  have z2_1 : ∀ j, w2.frozen? ⟨w.heap.size + 1, j, none⟩ = false := fun j => (hf _ _ (by (try simp) <;> omega)).trans (by go_simp)
  clear hc hf hb2 c1_0_0 c1_0_1 z1_0 c1_1_0 c1_1_1 z1_1
  go_wp2_with fail
  refine (HRB.out _ (HB2.out.alloc HB2.out.size _)).mono ?_
  rintro en w3 ⟨gy, cy, rfl, hy, hb3⟩
  have HY := Kp.mk hy
  have HX := Kp.mk ((HX.out.below ((Below.refl _ _).alloc (Nat.le_refl _) _)).below hb3)
  clear hy
  have HB3 : Kp (Below w.heap.size w w3) := ⟨Below.trans (by repeat (first | refine Below.alloc ?_ (by have := HB2.out.size; (try simp) <;> omega) _ | refine bDrewN ?_ _ | refine Below.drew ?_ | refine Below.setCell ?_ (by have := HB2.out.size; (try simp) <;> omega) _ | exact HB2.out)) (hb3.mono (by have := HB2.out.size; (try simp) <;> omega))⟩
  have hz3_0 : w.heap.size < w3.heap.size := by have := hb3.size; (try simp at this); omega
  have hz3_1 : w.heap.size + 1 < w3.heap.size := by have := hb3.size; (try simp at this); omega
  have hz3_2 : w2.heap.size < w3.heap.size := by have := hb3.size; (try simp at this); omega
  obtain ⟨hc, hf⟩ := bcell hb3
  have c3_0_0 : w3.cell? ⟨w.heap.size, 0, none⟩ = some (.int .i64 s) := (hc _ _ (by (try simp) <;> omega)).trans (by go_simp)
  have c3_0_1 : w3.cell? ⟨w.heap.size, 1, none⟩ = some ((.slice g1 m c1)) := (hc _ _ (by (try simp) <;> omega)).trans (by go_simp)
  have z3_0 : ∀ j, w3.frozen? ⟨w.heap.size, j, none⟩ = false := fun j => (hf _ _ (by (try simp) <;> omega)).trans (by go_simp)
  have c3_1_0 : w3.cell? ⟨w.heap.size + 1, 0, none⟩ = some (.int .i64 t) := (hc _ _ (by (try simp) <;> omega)).trans (by go_simp)
  have c3_1_1 : w3.cell? ⟨w.heap.size + 1, 1, none⟩ = some ((.slice g2 n c2)) := (hc _ _ (by (try simp) <;> omega)).trans (by go_simp)
  have z3_1 : ∀ j, w3.frozen? ⟨w.heap.size + 1, j, none⟩ = false := fun j => (hf _ _ (by (try simp) <;> omega)).trans (by go_simp)
  have c3_2_0 : w3.cell? ⟨w2.heap.size, 0, none⟩ = some (.int .i64 0) := (hc _ _ (by (try simp) <;> omega)).trans (by go_simp)
  have c3_2_1 : w3.cell? ⟨w2.heap.size, 1, none⟩ = some ((.slice gx 0 cx)) := (hc _ _ (by (try simp) <;> omega)).trans (by go_simp)
  have z3_2 : ∀ j, w3.frozen? ⟨w2.heap.size, j, none⟩ = false := fun j => (hf _ _ (by (try simp) <;> omega)).trans (by go_simp)
  clear hc hf hb3 c2_0_0 c2_0_1 z2_0 c2_1_0 c2_1_1 z2_1
  go_wp2
  obtain ⟨w4, hw4⟩ : ∃ w4, w3.alloc (.cells #[.int .i64 0, .slice gy 0 cy] 24) = w4 := ⟨_, rfl⟩
  rw [hw4]
  have hb4 : Below (w3.alloc (.cells #[.int .i64 0, .slice gy 0 cy] 24)).heap.size (w3.alloc (.cells #[.int .i64 0, .slice gy 0 cy] 24)) w4 := by rw [hw4]; exact Below.refl _ _
  have HX := Kp.mk ((HX.out.below ((Below.refl _ _).alloc (Nat.le_refl _) _)).below hb4)
  have HY := Kp.mk ((HY.out.below ((Below.refl _ _).alloc (Nat.le_refl _) _)).below hb4)
  clear hw4
  have HB4 : Kp (Below w.heap.size w w4) := ⟨Below.trans (by repeat (first | refine Below.alloc ?_ (by have := HB3.out.size; (try simp) <;> omega) _ | refine bDrewN ?_ _ | refine Below.drew ?_ | refine Below.setCell ?_ (by have := HB3.out.size; (try simp) <;> omega) _ | exact HB3.out)) (hb4.mono (by have := HB3.out.size; (try simp) <;> omega))⟩
  have hz4_0 : w.heap.size < w4.heap.size := by have := hb4.size; (try simp at this); omega
  have hz4_1 : w.heap.size + 1 < w4.heap.size := by have := hb4.size; (try simp at this); omega
  have hz4_2 : w2.heap.size < w4.heap.size := by have := hb4.size; (try simp at this); omega
  have hz4_3 : w3.heap.size < w4.heap.size := by have := hb4.size; (try simp at this); omega
  obtain ⟨hc, hf⟩ := bcell hb4
  have c4_0_0 : w4.cell? ⟨w.heap.size, 0, none⟩ = some (.int .i64 s) := (hc _ _ (by (try simp) <;> omega)).trans (by go_simp)
  have c4_0_1 : w4.cell? ⟨w.heap.size, 1, none⟩ = some ((.slice g1 m c1)) := (hc _ _ (by (try simp) <;> omega)).trans (by go_simp)
  have z4_0 : ∀ j, w4.frozen? ⟨w.heap.size, j, none⟩ = false := fun j => (hf _ _ (by (try simp) <;> omega)).trans (by go_simp)
  have c4_1_0 : w4.cell? ⟨w.heap.size + 1, 0, none⟩ = some (.int .i64 t) := (hc _ _ (by (try simp) <;> omega)).trans (by go_simp)
  have c4_1_1 : w4.cell? ⟨w.heap.size + 1, 1, none⟩ = some ((.slice g2 n c2)) := (hc _ _ (by (try simp) <;> omega)).trans (by go_simp)
  have z4_1 : ∀ j, w4.frozen? ⟨w.heap.size + 1, j, none⟩ = false := fun j => (hf _ _ (by (try simp) <;> omega)).trans (by go_simp)
  have c4_2_0 : w4.cell? ⟨w2.heap.size, 0, none⟩ = some (.int .i64 0) := (hc _ _ (by (try simp) <;> omega)).trans (by go_simp)
  have c4_2_1 : w4.cell? ⟨w2.heap.size, 1, none⟩ = some ((.slice gx 0 cx)) := (hc _ _ (by (try simp) <;> omega)).trans (by go_simp)
  have z4_2 : ∀ j, w4.frozen? ⟨w2.heap.size, j, none⟩ = false := fun j => (hf _ _ (by (try simp) <;> omega)).trans (by go_simp)
  have c4_3_0 : w4.cell? ⟨w3.heap.size, 0, none⟩ = some (.int .i64 0) := (hc _ _ (by (try simp) <;> omega)).trans (by go_simp)
  have c4_3_1 : w4.cell? ⟨w3.heap.size, 1, none⟩ = some ((.slice gy 0 cy)) := (hc _ _ (by (try simp) <;> omega)).trans (by go_simp)
  have z4_3 : ∀ j, w4.frozen? ⟨w3.heap.size, j, none⟩ = false := fun j => (hf _ _ (by (try simp) <;> omega)).trans (by go_simp)
  clear hc hf hb4 c3_0_0 c3_0_1 z3_0 c3_1_0 c3_1_1 z3_1 c3_2_0 c3_2_1 z3_2
  have r4_0_0 := fun d os => cell_regrown c4_0_0 d os
  have r4_0_1 := fun d os => cell_regrown c4_0_1 d os
  have r4_1_0 := fun d os => cell_regrown c4_1_0 d os
  have r4_1_1 := fun d os => cell_regrown c4_1_1 d os
  have r4_2_0 := fun d os => cell_regrown c4_2_0 d os
  have r4_2_1 := fun d os => cell_regrown c4_2_1 d os
  have r4_3_0 := fun d os => cell_regrown c4_3_0 d os
  have r4_3_1 := fun d os => cell_regrown c4_3_1 d os
  have HCL : Kp (∀ d os, Below w4.heap.size w4 (grow (redrawn w4 d) os) ∧ Below w.heap.size w (grow (redrawn w4 d) os)) := ⟨fun d os => ⟨below_regrown w4 d os, HB4.out.trans ((below_regrown w4 d os).mono HB4.out.size)⟩⟩
  have K1 : Kp (∀ d os, _) := ⟨fun d os => HWI.out (grow (redrawn w4 d) os) (HCL.out d os).2⟩
  have K2 : Kp (∀ d os, _) := ⟨fun d os => HRW.out (grow (redrawn w4 d) os) (HCL.out d os).2⟩
  have K3 : Kp (∀ d os, _) := ⟨fun d os => HSA.out (grow (redrawn w4 d) os) _ _ _ _ (HX.out.below (HCL.out d os).1) (HY.out.below (HCL.out d os).1)⟩
  have t2 : (R != R) = false := by simp
  refine wp_region_quiet_below (by kernel_rfl) (by kernel_rfl) ?_
  repeat (any_goals (first | go_big_quiet_step (first | (with_reducible exact Calls.regrown_of (K1.out _ _)) | (with_reducible exact Calls.regrown_of (K2.out _ _)) | (with_reducible exact Calls.regrown_of (K3.out _ _))) | quiet_step (first | (with_reducible exact Calls.regrown_of (K1.out _ _)) | (with_reducible exact Calls.regrown_of (K2.out _ _)) | (with_reducible exact Calls.regrown_of (K3.out _ _)))))
  refine wpQuiet_nil ?_
  intro _ hqw
  obtain ⟨⟨dq, osq⟩, hqv⟩ := hqw
  subst hqv
  obtain ⟨w5, hw5⟩ : ∃ w5, grow (redrawn w4 dq) osq = w5 := ⟨_, rfl⟩
  rw [hw5]
  have hb5 : Below w4.heap.size w4 w5 := by rw [← hw5]; exact (HCL.out dq osq).1
  have HX := Kp.mk (HX.out.below hb5)
  clear hw5 K1 K2 K3 HCL HY r4_0_0 r4_0_1 r4_1_0 r4_1_1 r4_2_0 r4_2_1 r4_3_0 r4_3_1 t2
  have HB5 : Kp (Below w.heap.size w w5) := ⟨Below.trans (by repeat (first | refine Below.alloc ?_ (by have := HB4.out.size; (try simp) <;> omega) _ | refine bDrewN ?_ _ | refine Below.drew ?_ | refine Below.setCell ?_ (by have := HB4.out.size; (try simp) <;> omega) _ | exact HB4.out)) (hb5.mono (by have := HB4.out.size; (try simp) <;> omega))⟩
  have hz5_0 : w.heap.size < w5.heap.size := by have := hb5.size; (try simp at this); omega
  have hz5_1 : w.heap.size + 1 < w5.heap.size := by have := hb5.size; (try simp at this); omega
  have hz5_2 : w2.heap.size < w5.heap.size := by have := hb5.size; (try simp at this); omega
  obtain ⟨hc, hf⟩ := bcell hb5
  have c5_0_0 : w5.cell? ⟨w.heap.size, 0, none⟩ = some (.int .i64 s) := (hc _ _ (by (try simp) <;> omega)).trans (by go_simp)
  have c5_0_1 : w5.cell? ⟨w.heap.size, 1, none⟩ = some ((.slice g1 m c1)) := (hc _ _ (by (try simp) <;> omega)).trans (by go_simp)
  have z5_0 : ∀ j, w5.frozen? ⟨w.heap.size, j, none⟩ = false := fun j => (hf _ _ (by (try simp) <;> omega)).trans (by go_simp)
  have c5_1_0 : w5.cell? ⟨w.heap.size + 1, 0, none⟩ = some (.int .i64 t) := (hc _ _ (by (try simp) <;> omega)).trans (by go_simp)
  have c5_1_1 : w5.cell? ⟨w.heap.size + 1, 1, none⟩ = some ((.slice g2 n c2)) := (hc _ _ (by (try simp) <;> omega)).trans (by go_simp)
  have z5_1 : ∀ j, w5.frozen? ⟨w.heap.size + 1, j, none⟩ = false := fun j => (hf _ _ (by (try simp) <;> omega)).trans (by go_simp)
  have c5_2_0 : w5.cell? ⟨w2.heap.size, 0, none⟩ = some (.int .i64 0) := (hc _ _ (by (try simp) <;> omega)).trans (by go_simp)
  have c5_2_1 : w5.cell? ⟨w2.heap.size, 1, none⟩ = some ((.slice gx 0 cx)) := (hc _ _ (by (try simp) <;> omega)).trans (by go_simp)
  have z5_2 : ∀ j, w5.frozen? ⟨w2.heap.size, j, none⟩ = false := fun j => (hf _ _ (by (try simp) <;> omega)).trans (by go_simp)
  clear hc hf hb5 c4_0_0 c4_0_1 z4_0 c4_1_0 c4_1_1 z4_1 c4_2_0 c4_2_1 z4_2 c4_3_0 c4_3_1 z4_3
  go_wp2_with fail
  refine (HEI.out _ HB5.out).mono ?_
  rintro en w6 ⟨gu, cu, rfl, hu, hb6⟩
  have HU := Kp.mk hu
  have HX := Kp.mk (HX.out.below hb6)
  clear hu
  have HB6 : Kp (Below w.heap.size w w6) := ⟨Below.trans (by repeat (first | refine Below.alloc ?_ (by have := HB5.out.size; (try simp) <;> omega) _ | refine bDrewN ?_ _ | refine Below.drew ?_ | refine Below.setCell ?_ (by have := HB5.out.size; (try simp) <;> omega) _ | exact HB5.out)) (hb6.mono (by have := HB5.out.size; (try simp) <;> omega))⟩
  have hz6_0 : w.heap.size < w6.heap.size := by have := hb6.size; (try simp at this); omega
  have hz6_1 : w.heap.size + 1 < w6.heap.size := by have := hb6.size; (try simp at this); omega
  have hz6_2 : w2.heap.size < w6.heap.size := by have := hb6.size; (try simp at this); omega
  obtain ⟨hc, hf⟩ := bcell hb6
  have c6_0_0 : w6.cell? ⟨w.heap.size, 0, none⟩ = some (.int .i64 s) := (hc _ _ (by (try simp) <;> omega)).trans (by go_simp)
  have c6_0_1 : w6.cell? ⟨w.heap.size, 1, none⟩ = some ((.slice g1 m c1)) := (hc _ _ (by (try simp) <;> omega)).trans (by go_simp)
  have z6_0 : ∀ j, w6.frozen? ⟨w.heap.size, j, none⟩ = false := fun j => (hf _ _ (by (try simp) <;> omega)).trans (by go_simp)
  have c6_1_0 : w6.cell? ⟨w.heap.size + 1, 0, none⟩ = some (.int .i64 t) := (hc _ _ (by (try simp) <;> omega)).trans (by go_simp)
  have c6_1_1 : w6.cell? ⟨w.heap.size + 1, 1, none⟩ = some ((.slice g2 n c2)) := (hc _ _ (by (try simp) <;> omega)).trans (by go_simp)
  have z6_1 : ∀ j, w6.frozen? ⟨w.heap.size + 1, j, none⟩ = false := fun j => (hf _ _ (by (try simp) <;> omega)).trans (by go_simp)
  have c6_2_0 : w6.cell? ⟨w2.heap.size, 0, none⟩ = some (.int .i64 0) := (hc _ _ (by (try simp) <;> omega)).trans (by go_simp)
  have c6_2_1 : w6.cell? ⟨w2.heap.size, 1, none⟩ = some ((.slice gx 0 cx)) := (hc _ _ (by (try simp) <;> omega)).trans (by go_simp)
  have z6_2 : ∀ j, w6.frozen? ⟨w2.heap.size, j, none⟩ = false := fun j => (hf _ _ (by (try simp) <;> omega)).trans (by go_simp)
  clear hc hf hb6 c5_0_0 c5_0_1 z5_0 c5_1_0 c5_1_1 z5_1 c5_2_0 c5_2_1 z5_2
  go_wp2_with fail
  refine (HRE.out _ (HB6.out.alloc HB6.out.size _)).mono ?_
  rintro en w7 ⟨gv, cv, rfl, hv, hb7⟩
  have HV := Kp.mk hv
  have HU := Kp.mk ((HU.out.below ((Below.refl _ _).alloc (Nat.le_refl _) _)).below hb7)
  have HX := Kp.mk ((HX.out.below ((Below.refl _ _).alloc (Nat.le_refl _) _)).below hb7)
  clear hv
  have HB7 : Kp (Below w.heap.size w w7) := ⟨Below.trans (by repeat (first | refine Below.alloc ?_ (by have := HB6.out.size; (try simp) <;> omega) _ | refine bDrewN ?_ _ | refine Below.drew ?_ | refine Below.setCell ?_ (by have := HB6.out.size; (try simp) <;> omega) _ | exact HB6.out)) (hb7.mono (by have := HB6.out.size; (try simp) <;> omega))⟩
  have hz7_0 : w.heap.size < w7.heap.size := by have := hb7.size; (try simp at this); omega
  have hz7_1 : w.heap.size + 1 < w7.heap.size := by have := hb7.size; (try simp at this); omega
  have hz7_2 : w2.heap.size < w7.heap.size := by have := hb7.size; (try simp at this); omega
  have hz7_3 : w6.heap.size < w7.heap.size := by have := hb7.size; (try simp at this); omega
  obtain ⟨hc, hf⟩ := bcell hb7
  have c7_0_0 : w7.cell? ⟨w.heap.size, 0, none⟩ = some (.int .i64 s) := (hc _ _ (by (try simp) <;> omega)).trans (by go_simp)
  have c7_0_1 : w7.cell? ⟨w.heap.size, 1, none⟩ = some ((.slice g1 m c1)) := (hc _ _ (by (try simp) <;> omega)).trans (by go_simp)
  have z7_0 : ∀ j, w7.frozen? ⟨w.heap.size, j, none⟩ = false := fun j => (hf _ _ (by (try simp) <;> omega)).trans (by go_simp)
  have c7_1_0 : w7.cell? ⟨w.heap.size + 1, 0, none⟩ = some (.int .i64 t) := (hc _ _ (by (try simp) <;> omega)).trans (by go_simp)
  have c7_1_1 : w7.cell? ⟨w.heap.size + 1, 1, none⟩ = some ((.slice g2 n c2)) := (hc _ _ (by (try simp) <;> omega)).trans (by go_simp)
  have z7_1 : ∀ j, w7.frozen? ⟨w.heap.size + 1, j, none⟩ = false := fun j => (hf _ _ (by (try simp) <;> omega)).trans (by go_simp)
  have c7_2_0 : w7.cell? ⟨w2.heap.size, 0, none⟩ = some (.int .i64 0) := (hc _ _ (by (try simp) <;> omega)).trans (by go_simp)
  have c7_2_1 : w7.cell? ⟨w2.heap.size, 1, none⟩ = some ((.slice gx 0 cx)) := (hc _ _ (by (try simp) <;> omega)).trans (by go_simp)
  have z7_2 : ∀ j, w7.frozen? ⟨w2.heap.size, j, none⟩ = false := fun j => (hf _ _ (by (try simp) <;> omega)).trans (by go_simp)
  have c7_3_0 : w7.cell? ⟨w6.heap.size, 0, none⟩ = some (.int .i64 0) := (hc _ _ (by (try simp) <;> omega)).trans (by go_simp)
  have c7_3_1 : w7.cell? ⟨w6.heap.size, 1, none⟩ = some ((.slice gu 0 cu)) := (hc _ _ (by (try simp) <;> omega)).trans (by go_simp)
  have z7_3 : ∀ j, w7.frozen? ⟨w6.heap.size, j, none⟩ = false := fun j => (hf _ _ (by (try simp) <;> omega)).trans (by go_simp)
  clear hc hf hb7 c6_0_0 c6_0_1 z6_0 c6_1_0 c6_1_1 z6_1 c6_2_0 c6_2_1 z6_2
  go_wp2_with fail
  refine (HSB.out _ _ _ _ _ (HU.out.below ((Below.refl _ _).alloc (Nat.le_refl _) _)) (HV.out.below ((Below.refl _ _).alloc (Nat.le_refl _) _))).mono ?_
  rintro en w8 ⟨rfl, hb8⟩
  have HU := Kp.mk ((HU.out.below ((Below.refl _ _).alloc (Nat.le_refl _) _)).below hb8)
  have HX := Kp.mk ((HX.out.below ((Below.refl _ _).alloc (Nat.le_refl _) _)).below hb8)
  have HB8 : Kp (Below w.heap.size w w8) := ⟨Below.trans (by repeat (first | refine Below.alloc ?_ (by have := HB7.out.size; (try simp) <;> omega) _ | refine bDrewN ?_ _ | refine Below.drew ?_ | refine Below.setCell ?_ (by have := HB7.out.size; (try simp) <;> omega) _ | exact HB7.out)) (hb8.mono (by have := HB7.out.size; (try simp) <;> omega))⟩
  have hz8_0 : w.heap.size < w8.heap.size := by have := hb8.size; (try simp at this); omega
  have hz8_1 : w.heap.size + 1 < w8.heap.size := by have := hb8.size; (try simp at this); omega
  have hz8_2 : w2.heap.size < w8.heap.size := by have := hb8.size; (try simp at this); omega
  have hz8_3 : w6.heap.size < w8.heap.size := by have := hb8.size; (try simp at this); omega
  obtain ⟨hc, hf⟩ := bcell hb8
  have c8_0_0 : w8.cell? ⟨w.heap.size, 0, none⟩ = some (.int .i64 s) := (hc _ _ (by (try simp) <;> omega)).trans (by go_simp)
  have c8_0_1 : w8.cell? ⟨w.heap.size, 1, none⟩ = some ((.slice g1 m c1)) := (hc _ _ (by (try simp) <;> omega)).trans (by go_simp)
  have z8_0 : ∀ j, w8.frozen? ⟨w.heap.size, j, none⟩ = false := fun j => (hf _ _ (by (try simp) <;> omega)).trans (by go_simp)
  have c8_1_0 : w8.cell? ⟨w.heap.size + 1, 0, none⟩ = some (.int .i64 t) := (hc _ _ (by (try simp) <;> omega)).trans (by go_simp)
  have c8_1_1 : w8.cell? ⟨w.heap.size + 1, 1, none⟩ = some ((.slice g2 n c2)) := (hc _ _ (by (try simp) <;> omega)).trans (by go_simp)
  have z8_1 : ∀ j, w8.frozen? ⟨w.heap.size + 1, j, none⟩ = false := fun j => (hf _ _ (by (try simp) <;> omega)).trans (by go_simp)
  have c8_2_0 : w8.cell? ⟨w2.heap.size, 0, none⟩ = some (.int .i64 0) := (hc _ _ (by (try simp) <;> omega)).trans (by go_simp)
  have c8_2_1 : w8.cell? ⟨w2.heap.size, 1, none⟩ = some ((.slice gx 0 cx)) := (hc _ _ (by (try simp) <;> omega)).trans (by go_simp)
  have z8_2 : ∀ j, w8.frozen? ⟨w2.heap.size, j, none⟩ = false := fun j => (hf _ _ (by (try simp) <;> omega)).trans (by go_simp)
  have c8_3_0 : w8.cell? ⟨w6.heap.size, 0, none⟩ = some (.int .i64 0) := (hc _ _ (by (try simp) <;> omega)).trans (by go_simp)
  have c8_3_1 : w8.cell? ⟨w6.heap.size, 1, none⟩ = some ((.slice gu 0 cu)) := (hc _ _ (by (try simp) <;> omega)).trans (by go_simp)
  have z8_3 : ∀ j, w8.frozen? ⟨w6.heap.size, j, none⟩ = false := fun j => (hf _ _ (by (try simp) <;> omega)).trans (by go_simp)
  clear hc hf hb8 c7_0_0 c7_0_1 z7_0 c7_1_0 c7_1_1 z7_1 c7_2_0 c7_2_1 z7_2 c7_3_0 c7_3_1 z7_3
  go_wp2_with fail
  refine (awake_any _).mono ?_
  rintro en wz ⟨rfl, hbz⟩
  have HBZ : Kp (Below w.heap.size w wz) := ⟨(HB8.out).trans (hbz.mono (HB8.out).size)⟩
  clear hbz
  go_wp2
  go_ret
  exact ⟨rfl, HBZ.out⟩
set_option maxRecDepth 100000 in
set_option maxHeartbeats 4000000 in
theorem st_good (s N : Nat) (g1 g2 : Option Addr) (c1 c2 : Nat) (R : Bool) (L L2 : List Bool) (w : World) (HLG : Kp (∀ W Y, W.cell? ⟨Y, 0, none⟩ = some (.int .i64 s) → W.cell? ⟨Y, 1, none⟩ = some (.slice g1 N c1) → W.cell? ⟨Y, 2, none⟩ = some (.int .i64 s) → W.cell? ⟨Y, 3, none⟩ = some (.slice g2 N c2) → Calls Try.prog 15 #[.slice (some ⟨Y, 0, none⟩) 2 2] W fun e w' => e = .returned (.bool true) ∧ Below W.heap.size W w')) (HBO : Kp (∀ W, Below w.heap.size w W → Calls Try.prog 43 #[.agg #[.int .i64 s, .slice g1 N c1], .agg #[.int .i64 s, .slice g2 N c2]] W fun e w' => ∃ g c, e = .returned (.tuple #[.agg #[.int .i64 s, .slice g N c], .int .i64 0]) ∧ LB w' (.slice g N c) L ∧ Below W.heap.size W w')) (HRB : Kp (∀ W, Below w.heap.size w W → Calls Try.prog 44 #[.agg #[.int .i64 s, .slice g1 N c1], .agg #[.int .i64 s, .slice g2 N c2]] W fun e w' => ∃ g c, e = .returned (.tuple #[.agg #[.int .i64 s, .slice g N c], .int .i64 0]) ∧ LB w' (.slice g N c) L ∧ Below W.heap.size W w')) (HEI : Kp (∀ W, Below w.heap.size w W → Calls Try.prog 47 #[.agg #[.int .i64 s, .slice g1 N c1], .agg #[.int .i64 s, .slice g2 N c2]] W fun e w' => ∃ g c, e = .returned (.tuple #[.agg #[.int .i64 s, .slice g N c], .int .i64 0]) ∧ LB w' (.slice g N c) L2 ∧ Below W.heap.size W w')) (HRE : Kp (∀ W, Below w.heap.size w W → Calls Try.prog 48 #[.agg #[.int .i64 s, .slice g1 N c1], .agg #[.int .i64 s, .slice g2 N c2]] W fun e w' => ∃ g c, e = .returned (.tuple #[.agg #[.int .i64 s, .slice g N c], .int .i64 0]) ∧ LB w' (.slice g N c) L2 ∧ Below W.heap.size W w')) (HSA : Kp (∀ W g g' c c', LB W (.slice g N c) L → LB W (.slice g' N c') L → Calls Try.prog 25 #[.agg #[.int .i64 s, .slice g N c], .agg #[.int .i64 s, .slice g' N c']] W fun e w' => e = .returned (.bool true) ∧ Below W.heap.size W w')) (HSB : Kp (∀ W g g' c c', LB W (.slice g N c) L2 → LB W (.slice g' N c') L2 → Calls Try.prog 25 #[.agg #[.int .i64 s, .slice g N c], .agg #[.int .i64 s, .slice g' N c']] W fun e w' => e = .returned (.bool true) ∧ Below W.heap.size W w')) (HWI : Kp (∀ W, Below w.heap.size w W → Calls Try.prog 45 #[.agg #[.int .i64 s, .slice g1 N c1], .agg #[.int .i64 s, .slice g2 N c2]] W fun e w' => e = .returned (.bool R) ∧ Below W.heap.size W w')) (HRW : Kp (∀ W, Below w.heap.size w W → Calls Try.prog 46 #[.agg #[.int .i64 s, .slice g1 N c1], .agg #[.int .i64 s, .slice g2 N c2]] W fun e w' => e = .returned (.bool R) ∧ Below W.heap.size W w')) (HT1 : Kp (∀ W g c, Below w.heap.size w W → LB W (.slice g N c) L → Calls Try.prog 45 #[.agg #[.int .i64 s, .slice g N c], .agg #[.int .i64 s, .slice g1 N c1]] W fun e w' => e = .returned (.bool true) ∧ Below W.heap.size W w')) (HT2 : Kp (∀ W g c, Below w.heap.size w W → LB W (.slice g N c) L → Calls Try.prog 45 #[.agg #[.int .i64 s, .slice g N c], .agg #[.int .i64 s, .slice g2 N c2]] W fun e w' => e = .returned (.bool true) ∧ Below W.heap.size W w')) (HT3 : Kp (∀ W g c, Below w.heap.size w W → LB W (.slice g N c) L2 → Calls Try.prog 45 #[.agg #[.int .i64 s, .slice g1 N c1], .agg #[.int .i64 s, .slice g N c]] W fun e w' => e = .returned (.bool true) ∧ Below W.heap.size W w')) (HT4 : Kp (∀ W g c, Below w.heap.size w W → LB W (.slice g N c) L2 → Calls Try.prog 45 #[.agg #[.int .i64 s, .slice g2 N c2], .agg #[.int .i64 s, .slice g N c]] W fun e w' => e = .returned (.bool true) ∧ Below W.heap.size W w')) :
    Calls Try.prog 6 #[.agg #[.int .i64 s, .slice g1 N c1], .agg #[.int .i64 s, .slice g2 N c2]] w (EndsS w) := by
  go_enter Try.func6, Try.ntmps6
  go_wp2_with fail
  refine (HLG.out _ _ (by go_simp) (by go_simp) (by go_simp) (by go_simp)).mono ?_
  rintro en w1 ⟨rfl, hb1⟩
  have HB1 : Kp (Below w.heap.size w w1) := ⟨Below.trans (by repeat (first | refine Below.alloc ?_ (by (try simp) <;> omega) _ | refine bDrewN ?_ _ | refine Below.drew ?_ | refine Below.setCell ?_ (by (try simp) <;> omega) _ | exact Below.refl _ _)) (hb1.mono (by (try simp) <;> omega))⟩
  have hz1_0 : w.heap.size < w1.heap.size := by have := hb1.size; (try simp at this); omega
  have hz1_1 : w.heap.size + 1 < w1.heap.size := by have := hb1.size; (try simp at this); omega
  obtain ⟨hc, hf⟩ := bcell hb1
  have c1_0_0 : w1.cell? ⟨w.heap.size, 0, none⟩ = some (.int .i64 s) := (hc _ _ (by (try simp) <;> omega)).trans (by go_simp)
  have c1_0_1 : w1.cell? ⟨w.heap.size, 1, none⟩ = some ((.slice g1 N c1)) := (hc _ _ (by (try simp) <;> omega)).trans (by go_simp)
  have z1_0 : ∀ j, w1.frozen? ⟨w.heap.size, j, none⟩ = false := fun j => (hf _ _ (by (try simp) <;> omega)).trans (by go_simp)
  have c1_1_0 : w1.cell? ⟨w.heap.size + 1, 0, none⟩ = some (.int .i64 s) := (hc _ _ (by (try simp) <;> omega)).trans (by go_simp)
  have c1_1_1 : w1.cell? ⟨w.heap.size + 1, 1, none⟩ = some ((.slice g2 N c2)) := (hc _ _ (by (try simp) <;> omega)).trans (by go_simp)
  have z1_1 : ∀ j, w1.frozen? ⟨w.heap.size + 1, j, none⟩ = false := fun j => (hf _ _ (by (try simp) <;> omega)).trans (by go_simp)
  clear hc hf hb1
  go_wp2_with fail
  refine (HBO.out _ HB1.out).mono ?_
  rintro en w2 ⟨gx, cx, rfl, hx, hb2⟩
  have HX := Kp.mk hx
  clear hx
  have HB2 : Kp (Below w.heap.size w w2) := ⟨Below.trans (by repeat (first | refine Below.alloc ?_ (by have := HB1.out.size; (try simp) <;> omega) _ | refine bDrewN ?_ _ | refine Below.drew ?_ | refine Below.setCell ?_ (by have := HB1.out.size; (try simp) <;> omega) _ | exact HB1.out)) (hb2.mono (by have := HB1.out.size; (try simp) <;> omega))⟩
  have hz2_0 : w.heap.size < w2.heap.size := by have := hb2.size; (try simp at this); omega
  have hz2_1 : w.heap.size + 1 < w2.heap.size := by have := hb2.size; (try simp at this); omega
  obtain ⟨hc, hf⟩ := bcell hb2
  have c2_0_0 : w2.cell? ⟨w.heap.size, 0, none⟩ = some (.int .i64 s) := (hc _ _ (by (try simp) <;> omega)).trans (by go_simp)
  have c2_0_1 : w2.cell? ⟨w.heap.size, 1, none⟩ = some ((.slice g1 N c1)) := (hc _ _ (by (try simp) <;> omega)).trans (by go_simp)
  have z2_0 : ∀ j, w2.frozen? ⟨w.heap.size, j, none⟩ = false := fun j => (hf _ _ (by (try simp) <;> omega)).trans (by go_simp)
  have c2_1_0 : w2.cell? ⟨w.heap.size + 1, 0, none⟩ = some (.int .i64 s) := (hc _ _ (by (try simp) <;> omega)).trans (by go_simp)
  have c2_1_1 : w2.cell? ⟨w.heap.size + 1, 1, none⟩ = some ((.slice g2 N c2)) := (hc _ _ (by (try simp) <;> omega)).trans (by go_simp)
  have z2_1 : ∀ j, w2.frozen? ⟨w.heap.size + 1, j, none⟩ = false := fun j => (hf _ _ (by (try simp) <;> omega)).trans (by go_simp)
  clear hc hf hb2
  go_wp2_with fail
  refine (HRB.out _ (HB2.out.alloc HB2.out.size _)).mono ?_
  rintro en w3 ⟨gy, cy, rfl, hy, hb3⟩
  have HY := Kp.mk hy
  have HX := Kp.mk ((HX.out.below ((Below.refl _ _).alloc (Nat.le_refl _) _)).below hb3)
  clear hy
  have HB3 : Kp (Below w.heap.size w w3) := ⟨Below.trans (by repeat (first | refine Below.alloc ?_ (by have := HB2.out.size; (try simp) <;> omega) _ | refine bDrewN ?_ _ | refine Below.drew ?_ | refine Below.setCell ?_ (by have := HB2.out.size; (try simp) <;> omega) _ | exact HB2.out)) (hb3.mono (by have := HB2.out.size; (try simp) <;> omega))⟩
  have hz3_0 : w.heap.size < w3.heap.size := by have := hb3.size; (try simp at this); omega
  have hz3_1 : w.heap.size + 1 < w3.heap.size := by have := hb3.size; (try simp at this); omega
  have hz3_2 : w2.heap.size < w3.heap.size := by have := hb3.size; (try simp at this); omega
  obtain ⟨hc, hf⟩ := bcell hb3
  have c3_0_0 : w3.cell? ⟨w.heap.size, 0, none⟩ = some (.int .i64 s) := (hc _ _ (by (try simp) <;> omega)).trans (by go_simp)
  have c3_0_1 : w3.cell? ⟨w.heap.size, 1, none⟩ = some ((.slice g1 N c1)) := (hc _ _ (by (try simp) <;> omega)).trans (by go_simp)
  have z3_0 : ∀ j, w3.frozen? ⟨w.heap.size, j, none⟩ = false := fun j => (hf _ _ (by (try simp) <;> omega)).trans (by go_simp)
  have c3_1_0 : w3.cell? ⟨w.heap.size + 1, 0, none⟩ = some (.int .i64 s) := (hc _ _ (by (try simp) <;> omega)).trans (by go_simp)
  have c3_1_1 : w3.cell? ⟨w.heap.size + 1, 1, none⟩ = some ((.slice g2 N c2)) := (hc _ _ (by (try simp) <;> omega)).trans (by go_simp)
  have z3_1 : ∀ j, w3.frozen? ⟨w.heap.size + 1, j, none⟩ = false := fun j => (hf _ _ (by (try simp) <;> omega)).trans (by go_simp)
  have c3_2_0 : w3.cell? ⟨w2.heap.size, 0, none⟩ = some (.int .i64 s) := (hc _ _ (by (try simp) <;> omega)).trans (by go_simp)
  have c3_2_1 : w3.cell? ⟨w2.heap.size, 1, none⟩ = some ((.slice gx N cx)) := (hc _ _ (by (try simp) <;> omega)).trans (by go_simp)
  have z3_2 : ∀ j, w3.frozen? ⟨w2.heap.size, j, none⟩ = false := fun j => (hf _ _ (by (try simp) <;> omega)).trans (by go_simp)
  clear hc hf hb3
  go_wp2
  obtain ⟨w4, hw4⟩ : ∃ w4, w3.alloc (.cells #[.int .i64 s, .slice gy N cy] 24) = w4 := ⟨_, rfl⟩
  rw [hw4]
  have hb4 : Below (w3.alloc (.cells #[.int .i64 s, .slice gy N cy] 24)).heap.size (w3.alloc (.cells #[.int .i64 s, .slice gy N cy] 24)) w4 := by rw [hw4]; exact Below.refl _ _
  have HX := Kp.mk ((HX.out.below ((Below.refl _ _).alloc (Nat.le_refl _) _)).below hb4)
  have HY := Kp.mk ((HY.out.below ((Below.refl _ _).alloc (Nat.le_refl _) _)).below hb4)
  clear hw4
  have HB4 : Kp (Below w.heap.size w w4) := ⟨Below.trans (by repeat (first | refine Below.alloc ?_ (by have := HB3.out.size; (try simp) <;> omega) _ | refine bDrewN ?_ _ | refine Below.drew ?_ | refine Below.setCell ?_ (by have := HB3.out.size; (try simp) <;> omega) _ | exact HB3.out)) (hb4.mono (by have := HB3.out.size; (try simp) <;> omega))⟩
  have hz4_0 : w.heap.size < w4.heap.size := by have := hb4.size; (try simp at this); omega
  have hz4_1 : w.heap.size + 1 < w4.heap.size := by have := hb4.size; (try simp at this); omega
  have hz4_2 : w2.heap.size < w4.heap.size := by have := hb4.size; (try simp at this); omega
  have hz4_3 : w3.heap.size < w4.heap.size := by have := hb4.size; (try simp at this); omega
  obtain ⟨hc, hf⟩ := bcell hb4
  have c4_0_0 : w4.cell? ⟨w.heap.size, 0, none⟩ = some (.int .i64 s) := (hc _ _ (by (try simp) <;> omega)).trans (by go_simp)
  have c4_0_1 : w4.cell? ⟨w.heap.size, 1, none⟩ = some ((.slice g1 N c1)) := (hc _ _ (by (try simp) <;> omega)).trans (by go_simp)
  have z4_0 : ∀ j, w4.frozen? ⟨w.heap.size, j, none⟩ = false := fun j => (hf _ _ (by (try simp) <;> omega)).trans (by go_simp)
  have c4_1_0 : w4.cell? ⟨w.heap.size + 1, 0, none⟩ = some (.int .i64 s) := (hc _ _ (by (try simp) <;> omega)).trans (by go_simp)
  have c4_1_1 : w4.cell? ⟨w.heap.size + 1, 1, none⟩ = some ((.slice g2 N c2)) := (hc _ _ (by (try simp) <;> omega)).trans (by go_simp)
  have z4_1 : ∀ j, w4.frozen? ⟨w.heap.size + 1, j, none⟩ = false := fun j => (hf _ _ (by (try simp) <;> omega)).trans (by go_simp)
  have c4_2_0 : w4.cell? ⟨w2.heap.size, 0, none⟩ = some (.int .i64 s) := (hc _ _ (by (try simp) <;> omega)).trans (by go_simp)
  have c4_2_1 : w4.cell? ⟨w2.heap.size, 1, none⟩ = some ((.slice gx N cx)) := (hc _ _ (by (try simp) <;> omega)).trans (by go_simp)
  have z4_2 : ∀ j, w4.frozen? ⟨w2.heap.size, j, none⟩ = false := fun j => (hf _ _ (by (try simp) <;> omega)).trans (by go_simp)
  have c4_3_0 : w4.cell? ⟨w3.heap.size, 0, none⟩ = some (.int .i64 s) := (hc _ _ (by (try simp) <;> omega)).trans (by go_simp)
  have c4_3_1 : w4.cell? ⟨w3.heap.size, 1, none⟩ = some ((.slice gy N cy)) := (hc _ _ (by (try simp) <;> omega)).trans (by go_simp)
  have z4_3 : ∀ j, w4.frozen? ⟨w3.heap.size, j, none⟩ = false := fun j => (hf _ _ (by (try simp) <;> omega)).trans (by go_simp)
  clear hc hf hb4
  have r4_0_0 := fun d os => cell_regrown c4_0_0 d os
  have r4_0_1 := fun d os => cell_regrown c4_0_1 d os
  have r4_1_0 := fun d os => cell_regrown c4_1_0 d os
  have r4_1_1 := fun d os => cell_regrown c4_1_1 d os
  have r4_2_0 := fun d os => cell_regrown c4_2_0 d os
  have r4_2_1 := fun d os => cell_regrown c4_2_1 d os
  have r4_3_0 := fun d os => cell_regrown c4_3_0 d os
  have r4_3_1 := fun d os => cell_regrown c4_3_1 d os
  have HCL : Kp (∀ d os, Below w4.heap.size w4 (grow (redrawn w4 d) os) ∧ Below w.heap.size w (grow (redrawn w4 d) os)) := ⟨fun d os => ⟨below_regrown w4 d os, HB4.out.trans ((below_regrown w4 d os).mono HB4.out.size)⟩⟩
  have K1 : Kp (∀ d os, _) := ⟨fun d os => HWI.out (grow (redrawn w4 d) os) (HCL.out d os).2⟩
  have K2 : Kp (∀ d os, _) := ⟨fun d os => HRW.out (grow (redrawn w4 d) os) (HCL.out d os).2⟩
  have K3 : Kp (∀ d os, _) := ⟨fun d os => HSA.out (grow (redrawn w4 d) os) _ _ _ _ (HX.out.below (HCL.out d os).1) (HY.out.below (HCL.out d os).1)⟩
  have t2 : (R != R) = false := by simp
  refine wp_region_quiet_below (by kernel_rfl) (by kernel_rfl) ?_
  repeat (any_goals (first | go_big_quiet_step (first | (with_reducible exact Calls.regrown_of (K1.out _ _)) | (with_reducible exact Calls.regrown_of (K2.out _ _)) | (with_reducible exact Calls.regrown_of (K3.out _ _))) | quiet_step (first | (with_reducible exact Calls.regrown_of (K1.out _ _)) | (with_reducible exact Calls.regrown_of (K2.out _ _)) | (with_reducible exact Calls.regrown_of (K3.out _ _)))))
  refine wpQuiet_nil ?_
  intro _ hqw
  obtain ⟨⟨dq, osq⟩, hqv⟩ := hqw
  subst hqv
  obtain ⟨w5, hw5⟩ : ∃ w5, grow (redrawn w4 dq) osq = w5 := ⟨_, rfl⟩
  rw [hw5]
  have hb5 : Below w4.heap.size w4 w5 := by rw [← hw5]; exact (HCL.out dq osq).1
  have HX := Kp.mk (HX.out.below hb5)
  clear hw5 K1 K2 K3 HCL HY r4_0_0 r4_0_1 r4_1_0 r4_1_1 r4_2_0 r4_2_1 r4_3_0 r4_3_1 t2
  have HB5 : Kp (Below w.heap.size w w5) := ⟨Below.trans (by repeat (first | refine Below.alloc ?_ (by have := HB4.out.size; (try simp) <;> omega) _ | refine bDrewN ?_ _ | refine Below.drew ?_ | refine Below.setCell ?_ (by have := HB4.out.size; (try simp) <;> omega) _ | exact HB4.out)) (hb5.mono (by have := HB4.out.size; (try simp) <;> omega))⟩
  have hz5_0 : w.heap.size < w5.heap.size := by have := hb5.size; (try simp at this); omega
  have hz5_1 : w.heap.size + 1 < w5.heap.size := by have := hb5.size; (try simp at this); omega
  have hz5_2 : w2.heap.size < w5.heap.size := by have := hb5.size; (try simp at this); omega
  obtain ⟨hc, hf⟩ := bcell hb5
  have c5_0_0 : w5.cell? ⟨w.heap.size, 0, none⟩ = some (.int .i64 s) := (hc _ _ (by (try simp) <;> omega)).trans (by go_simp)
  have c5_0_1 : w5.cell? ⟨w.heap.size, 1, none⟩ = some ((.slice g1 N c1)) := (hc _ _ (by (try simp) <;> omega)).trans (by go_simp)
  have z5_0 : ∀ j, w5.frozen? ⟨w.heap.size, j, none⟩ = false := fun j => (hf _ _ (by (try simp) <;> omega)).trans (by go_simp)
  have c5_1_0 : w5.cell? ⟨w.heap.size + 1, 0, none⟩ = some (.int .i64 s) := (hc _ _ (by (try simp) <;> omega)).trans (by go_simp)
  have c5_1_1 : w5.cell? ⟨w.heap.size + 1, 1, none⟩ = some ((.slice g2 N c2)) := (hc _ _ (by (try simp) <;> omega)).trans (by go_simp)
  have z5_1 : ∀ j, w5.frozen? ⟨w.heap.size + 1, j, none⟩ = false := fun j => (hf _ _ (by (try simp) <;> omega)).trans (by go_simp)
  have c5_2_0 : w5.cell? ⟨w2.heap.size, 0, none⟩ = some (.int .i64 s) := (hc _ _ (by (try simp) <;> omega)).trans (by go_simp)
  have c5_2_1 : w5.cell? ⟨w2.heap.size, 1, none⟩ = some ((.slice gx N cx)) := (hc _ _ (by (try simp) <;> omega)).trans (by go_simp)
  have z5_2 : ∀ j, w5.frozen? ⟨w2.heap.size, j, none⟩ = false := fun j => (hf _ _ (by (try simp) <;> omega)).trans (by go_simp)
  clear hc hf hb5
  go_wp2_with fail
  refine (HEI.out _ HB5.out).mono ?_
  rintro en w6 ⟨gu, cu, rfl, hu, hb6⟩
  have HU := Kp.mk hu
  have HX := Kp.mk (HX.out.below hb6)
  clear hu
  have HB6 : Kp (Below w.heap.size w w6) := ⟨Below.trans (by repeat (first | refine Below.alloc ?_ (by have := HB5.out.size; (try simp) <;> omega) _ | refine bDrewN ?_ _ | refine Below.drew ?_ | refine Below.setCell ?_ (by have := HB5.out.size; (try simp) <;> omega) _ | exact HB5.out)) (hb6.mono (by have := HB5.out.size; (try simp) <;> omega))⟩
  have hz6_0 : w.heap.size < w6.heap.size := by have := hb6.size; (try simp at this); omega
  have hz6_1 : w.heap.size + 1 < w6.heap.size := by have := hb6.size; (try simp at this); omega
  have hz6_2 : w2.heap.size < w6.heap.size := by have := hb6.size; (try simp at this); omega
  obtain ⟨hc, hf⟩ := bcell hb6
  have c6_0_0 : w6.cell? ⟨w.heap.size, 0, none⟩ = some (.int .i64 s) := (hc _ _ (by (try simp) <;> omega)).trans (by go_simp)
  have c6_0_1 : w6.cell? ⟨w.heap.size, 1, none⟩ = some ((.slice g1 N c1)) := (hc _ _ (by (try simp) <;> omega)).trans (by go_simp)
  have z6_0 : ∀ j, w6.frozen? ⟨w.heap.size, j, none⟩ = false := fun j => (hf _ _ (by (try simp) <;> omega)).trans (by go_simp)
  have c6_1_0 : w6.cell? ⟨w.heap.size + 1, 0, none⟩ = some (.int .i64 s) := (hc _ _ (by (try simp) <;> omega)).trans (by go_simp)
  have c6_1_1 : w6.cell? ⟨w.heap.size + 1, 1, none⟩ = some ((.slice g2 N c2)) := (hc _ _ (by (try simp) <;> omega)).trans (by go_simp)
  have z6_1 : ∀ j, w6.frozen? ⟨w.heap.size + 1, j, none⟩ = false := fun j => (hf _ _ (by (try simp) <;> omega)).trans (by go_simp)
  have c6_2_0 : w6.cell? ⟨w2.heap.size, 0, none⟩ = some (.int .i64 s) := (hc _ _ (by (try simp) <;> omega)).trans (by go_simp)
  have c6_2_1 : w6.cell? ⟨w2.heap.size, 1, none⟩ = some ((.slice gx N cx)) := (hc _ _ (by (try simp) <;> omega)).trans (by go_simp)
  have z6_2 : ∀ j, w6.frozen? ⟨w2.heap.size, j, none⟩ = false := fun j => (hf _ _ (by (try simp) <;> omega)).trans (by go_simp)
  clear hc hf hb6
  go_wp2_with fail
  refine (HRE.out _ (HB6.out.alloc HB6.out.size _)).mono ?_
  rintro en w7 ⟨gv, cv, rfl, hv, hb7⟩
  have HV := Kp.mk hv
  have HU := Kp.mk ((HU.out.below ((Below.refl _ _).alloc (Nat.le_refl _) _)).below hb7)
  have HX := Kp.mk ((HX.out.below ((Below.refl _ _).alloc (Nat.le_refl _) _)).below hb7)
  clear hv
  have HB7 : Kp (Below w.heap.size w w7) := ⟨Below.trans (by repeat (first | refine Below.alloc ?_ (by have := HB6.out.size; (try simp) <;> omega) _ | refine bDrewN ?_ _ | refine Below.drew ?_ | refine Below.setCell ?_ (by have := HB6.out.size; (try simp) <;> omega) _ | exact HB6.out)) (hb7.mono (by have := HB6.out.size; (try simp) <;> omega))⟩
  have hz7_0 : w.heap.size < w7.heap.size := by have := hb7.size; (try simp at this); omega
  have hz7_1 : w.heap.size + 1 < w7.heap.size := by have := hb7.size; (try simp at this); omega
  have hz7_2 : w2.heap.size < w7.heap.size := by have := hb7.size; (try simp at this); omega
  have hz7_3 : w6.heap.size < w7.heap.size := by have := hb7.size; (try simp at this); omega
  obtain ⟨hc, hf⟩ := bcell hb7
  have c7_0_0 : w7.cell? ⟨w.heap.size, 0, none⟩ = some (.int .i64 s) := (hc _ _ (by (try simp) <;> omega)).trans (by go_simp)
  have c7_0_1 : w7.cell? ⟨w.heap.size, 1, none⟩ = some ((.slice g1 N c1)) := (hc _ _ (by (try simp) <;> omega)).trans (by go_simp)
  have z7_0 : ∀ j, w7.frozen? ⟨w.heap.size, j, none⟩ = false := fun j => (hf _ _ (by (try simp) <;> omega)).trans (by go_simp)
  have c7_1_0 : w7.cell? ⟨w.heap.size + 1, 0, none⟩ = some (.int .i64 s) := (hc _ _ (by (try simp) <;> omega)).trans (by go_simp)
  have c7_1_1 : w7.cell? ⟨w.heap.size + 1, 1, none⟩ = some ((.slice g2 N c2)) := (hc _ _ (by (try simp) <;> omega)).trans (by go_simp)
  have z7_1 : ∀ j, w7.frozen? ⟨w.heap.size + 1, j, none⟩ = false := fun j => (hf _ _ (by (try simp) <;> omega)).trans (by go_simp)
  have c7_2_0 : w7.cell? ⟨w2.heap.size, 0, none⟩ = some (.int .i64 s) := (hc _ _ (by (try simp) <;> omega)).trans (by go_simp)
  have c7_2_1 : w7.cell? ⟨w2.heap.size, 1, none⟩ = some ((.slice gx N cx)) := (hc _ _ (by (try simp) <;> omega)).trans (by go_simp)
  have z7_2 : ∀ j, w7.frozen? ⟨w2.heap.size, j, none⟩ = false := fun j => (hf _ _ (by (try simp) <;> omega)).trans (by go_simp)
  have c7_3_0 : w7.cell? ⟨w6.heap.size, 0, none⟩ = some (.int .i64 s) := (hc _ _ (by (try simp) <;> omega)).trans (by go_simp)
  have c7_3_1 : w7.cell? ⟨w6.heap.size, 1, none⟩ = some ((.slice gu N cu)) := (hc _ _ (by (try simp) <;> omega)).trans (by go_simp)
  have z7_3 : ∀ j, w7.frozen? ⟨w6.heap.size, j, none⟩ = false := fun j => (hf _ _ (by (try simp) <;> omega)).trans (by go_simp)
  clear hc hf hb7
  go_wp2_with fail
  refine (HSB.out _ _ _ _ _ (HU.out.below ((Below.refl _ _).alloc (Nat.le_refl _) _)) (HV.out.below ((Below.refl _ _).alloc (Nat.le_refl _) _))).mono ?_
  rintro en w8 ⟨rfl, hb8⟩
  have HU := Kp.mk ((HU.out.below ((Below.refl _ _).alloc (Nat.le_refl _) _)).below hb8)
  have HX := Kp.mk ((HX.out.below ((Below.refl _ _).alloc (Nat.le_refl _) _)).below hb8)
  have HB8 : Kp (Below w.heap.size w w8) := ⟨Below.trans (by repeat (first | refine Below.alloc ?_ (by have := HB7.out.size; (try simp) <;> omega) _ | refine bDrewN ?_ _ | refine Below.drew ?_ | refine Below.setCell ?_ (by have := HB7.out.size; (try simp) <;> omega) _ | exact HB7.out)) (hb8.mono (by have := HB7.out.size; (try simp) <;> omega))⟩
  have hz8_0 : w.heap.size < w8.heap.size := by have := hb8.size; (try simp at this); omega
  have hz8_1 : w.heap.size + 1 < w8.heap.size := by have := hb8.size; (try simp at this); omega
  have hz8_2 : w2.heap.size < w8.heap.size := by have := hb8.size; (try simp at this); omega
  have hz8_3 : w6.heap.size < w8.heap.size := by have := hb8.size; (try simp at this); omega
  obtain ⟨hc, hf⟩ := bcell hb8
  have c8_0_0 : w8.cell? ⟨w.heap.size, 0, none⟩ = some (.int .i64 s) := (hc _ _ (by (try simp) <;> omega)).trans (by go_simp)
  have c8_0_1 : w8.cell? ⟨w.heap.size, 1, none⟩ = some ((.slice g1 N c1)) := (hc _ _ (by (try simp) <;> omega)).trans (by go_simp)
  have z8_0 : ∀ j, w8.frozen? ⟨w.heap.size, j, none⟩ = false := fun j => (hf _ _ (by (try simp) <;> omega)).trans (by go_simp)
  have c8_1_0 : w8.cell? ⟨w.heap.size + 1, 0, none⟩ = some (.int .i64 s) := (hc _ _ (by (try simp) <;> omega)).trans (by go_simp)
  have c8_1_1 : w8.cell? ⟨w.heap.size + 1, 1, none⟩ = some ((.slice g2 N c2)) := (hc _ _ (by (try simp) <;> omega)).trans (by go_simp)
  have z8_1 : ∀ j, w8.frozen? ⟨w.heap.size + 1, j, none⟩ = false := fun j => (hf _ _ (by (try simp) <;> omega)).trans (by go_simp)
  have c8_2_0 : w8.cell? ⟨w2.heap.size, 0, none⟩ = some (.int .i64 s) := (hc _ _ (by (try simp) <;> omega)).trans (by go_simp)
  have c8_2_1 : w8.cell? ⟨w2.heap.size, 1, none⟩ = some ((.slice gx N cx)) := (hc _ _ (by (try simp) <;> omega)).trans (by go_simp)
  have z8_2 : ∀ j, w8.frozen? ⟨w2.heap.size, j, none⟩ = false := fun j => (hf _ _ (by (try simp) <;> omega)).trans (by go_simp)
  have c8_3_0 : w8.cell? ⟨w6.heap.size, 0, none⟩ = some (.int .i64 s) := (hc _ _ (by (try simp) <;> omega)).trans (by go_simp)
  have c8_3_1 : w8.cell? ⟨w6.heap.size, 1, none⟩ = some ((.slice gu N cu)) := (hc _ _ (by (try simp) <;> omega)).trans (by go_simp)
  have z8_3 : ∀ j, w8.frozen? ⟨w6.heap.size, j, none⟩ = false := fun j => (hf _ _ (by (try simp) <;> omega)).trans (by go_simp)
  clear hc hf hb8
  go_wp2_with fail
  refine (HT1.out _ _ _ HB8.out HX.out).mono ?_
  rintro en w9 ⟨rfl, hb9⟩
  have HX := Kp.mk (HX.out.below hb9)
  have HU := Kp.mk (HU.out.below hb9)
  have HB9 : Kp (Below w.heap.size w w9) := ⟨Below.trans (by repeat (first | refine Below.alloc ?_ (by have := HB8.out.size; (try simp) <;> omega) _ | refine bDrewN ?_ _ | refine Below.drew ?_ | refine Below.setCell ?_ (by have := HB8.out.size; (try simp) <;> omega) _ | exact HB8.out)) (hb9.mono (by have := HB8.out.size; (try simp) <;> omega))⟩
  have hz9_0 : w.heap.size < w9.heap.size := by have := hb9.size; (try simp at this); omega
  have hz9_1 : w.heap.size + 1 < w9.heap.size := by have := hb9.size; (try simp at this); omega
  have hz9_2 : w2.heap.size < w9.heap.size := by have := hb9.size; (try simp at this); omega
  have hz9_3 : w6.heap.size < w9.heap.size := by have := hb9.size; (try simp at this); omega
  obtain ⟨hc, hf⟩ := bcell hb9
  have c9_0_0 : w9.cell? ⟨w.heap.size, 0, none⟩ = some (.int .i64 s) := (hc _ _ (by (try simp) <;> omega)).trans (by go_simp)
  have c9_0_1 : w9.cell? ⟨w.heap.size, 1, none⟩ = some ((.slice g1 N c1)) := (hc _ _ (by (try simp) <;> omega)).trans (by go_simp)
  have z9_0 : ∀ j, w9.frozen? ⟨w.heap.size, j, none⟩ = false := fun j => (hf _ _ (by (try simp) <;> omega)).trans (by go_simp)
  have c9_1_0 : w9.cell? ⟨w.heap.size + 1, 0, none⟩ = some (.int .i64 s) := (hc _ _ (by (try simp) <;> omega)).trans (by go_simp)
  have c9_1_1 : w9.cell? ⟨w.heap.size + 1, 1, none⟩ = some ((.slice g2 N c2)) := (hc _ _ (by (try simp) <;> omega)).trans (by go_simp)
  have z9_1 : ∀ j, w9.frozen? ⟨w.heap.size + 1, j, none⟩ = false := fun j => (hf _ _ (by (try simp) <;> omega)).trans (by go_simp)
  have c9_2_0 : w9.cell? ⟨w2.heap.size, 0, none⟩ = some (.int .i64 s) := (hc _ _ (by (try simp) <;> omega)).trans (by go_simp)
  have c9_2_1 : w9.cell? ⟨w2.heap.size, 1, none⟩ = some ((.slice gx N cx)) := (hc _ _ (by (try simp) <;> omega)).trans (by go_simp)
  have z9_2 : ∀ j, w9.frozen? ⟨w2.heap.size, j, none⟩ = false := fun j => (hf _ _ (by (try simp) <;> omega)).trans (by go_simp)
  have c9_3_0 : w9.cell? ⟨w6.heap.size, 0, none⟩ = some (.int .i64 s) := (hc _ _ (by (try simp) <;> omega)).trans (by go_simp)
  have c9_3_1 : w9.cell? ⟨w6.heap.size, 1, none⟩ = some ((.slice gu N cu)) := (hc _ _ (by (try simp) <;> omega)).trans (by go_simp)
  have z9_3 : ∀ j, w9.frozen? ⟨w6.heap.size, j, none⟩ = false := fun j => (hf _ _ (by (try simp) <;> omega)).trans (by go_simp)
  clear hc hf hb9
  go_wp2_with fail
  refine (HT2.out _ _ _ HB9.out HX.out).mono ?_
  rintro en w10 ⟨rfl, hb10⟩
  have HU := Kp.mk (HU.out.below hb10)
  have HB10 : Kp (Below w.heap.size w w10) := ⟨Below.trans (by repeat (first | refine Below.alloc ?_ (by have := HB9.out.size; (try simp) <;> omega) _ | refine bDrewN ?_ _ | refine Below.drew ?_ | refine Below.setCell ?_ (by have := HB9.out.size; (try simp) <;> omega) _ | exact HB9.out)) (hb10.mono (by have := HB9.out.size; (try simp) <;> omega))⟩
  have hz10_0 : w.heap.size < w10.heap.size := by have := hb10.size; (try simp at this); omega
  have hz10_1 : w.heap.size + 1 < w10.heap.size := by have := hb10.size; (try simp at this); omega
  have hz10_2 : w2.heap.size < w10.heap.size := by have := hb10.size; (try simp at this); omega
  have hz10_3 : w6.heap.size < w10.heap.size := by have := hb10.size; (try simp at this); omega
  obtain ⟨hc, hf⟩ := bcell hb10
  have c10_0_0 : w10.cell? ⟨w.heap.size, 0, none⟩ = some (.int .i64 s) := (hc _ _ (by (try simp) <;> omega)).trans (by go_simp)
  have c10_0_1 : w10.cell? ⟨w.heap.size, 1, none⟩ = some ((.slice g1 N c1)) := (hc _ _ (by (try simp) <;> omega)).trans (by go_simp)
  have z10_0 : ∀ j, w10.frozen? ⟨w.heap.size, j, none⟩ = false := fun j => (hf _ _ (by (try simp) <;> omega)).trans (by go_simp)
  have c10_1_0 : w10.cell? ⟨w.heap.size + 1, 0, none⟩ = some (.int .i64 s) := (hc _ _ (by (try simp) <;> omega)).trans (by go_simp)
  have c10_1_1 : w10.cell? ⟨w.heap.size + 1, 1, none⟩ = some ((.slice g2 N c2)) := (hc _ _ (by (try simp) <;> omega)).trans (by go_simp)
  have z10_1 : ∀ j, w10.frozen? ⟨w.heap.size + 1, j, none⟩ = false := fun j => (hf _ _ (by (try simp) <;> omega)).trans (by go_simp)
  have c10_2_0 : w10.cell? ⟨w2.heap.size, 0, none⟩ = some (.int .i64 s) := (hc _ _ (by (try simp) <;> omega)).trans (by go_simp)
  have c10_2_1 : w10.cell? ⟨w2.heap.size, 1, none⟩ = some ((.slice gx N cx)) := (hc _ _ (by (try simp) <;> omega)).trans (by go_simp)
  have z10_2 : ∀ j, w10.frozen? ⟨w2.heap.size, j, none⟩ = false := fun j => (hf _ _ (by (try simp) <;> omega)).trans (by go_simp)
  have c10_3_0 : w10.cell? ⟨w6.heap.size, 0, none⟩ = some (.int .i64 s) := (hc _ _ (by (try simp) <;> omega)).trans (by go_simp)
  have c10_3_1 : w10.cell? ⟨w6.heap.size, 1, none⟩ = some ((.slice gu N cu)) := (hc _ _ (by (try simp) <;> omega)).trans (by go_simp)
  have z10_3 : ∀ j, w10.frozen? ⟨w6.heap.size, j, none⟩ = false := fun j => (hf _ _ (by (try simp) <;> omega)).trans (by go_simp)
  clear hc hf hb10
  go_wp2_with fail
  refine (HT3.out _ _ _ HB10.out HU.out).mono ?_
  rintro en w11 ⟨rfl, hb11⟩
  have HU := Kp.mk (HU.out.below hb11)
  have HB11 : Kp (Below w.heap.size w w11) := ⟨Below.trans (by repeat (first | refine Below.alloc ?_ (by have := HB10.out.size; (try simp) <;> omega) _ | refine bDrewN ?_ _ | refine Below.drew ?_ | refine Below.setCell ?_ (by have := HB10.out.size; (try simp) <;> omega) _ | exact HB10.out)) (hb11.mono (by have := HB10.out.size; (try simp) <;> omega))⟩
  have hz11_0 : w.heap.size < w11.heap.size := by have := hb11.size; (try simp at this); omega
  have hz11_1 : w.heap.size + 1 < w11.heap.size := by have := hb11.size; (try simp at this); omega
  have hz11_2 : w2.heap.size < w11.heap.size := by have := hb11.size; (try simp at this); omega
  have hz11_3 : w6.heap.size < w11.heap.size := by have := hb11.size; (try simp at this); omega
  obtain ⟨hc, hf⟩ := bcell hb11
  have c11_0_0 : w11.cell? ⟨w.heap.size, 0, none⟩ = some (.int .i64 s) := (hc _ _ (by (try simp) <;> omega)).trans (by go_simp)
  have c11_0_1 : w11.cell? ⟨w.heap.size, 1, none⟩ = some ((.slice g1 N c1)) := (hc _ _ (by (try simp) <;> omega)).trans (by go_simp)
  have z11_0 : ∀ j, w11.frozen? ⟨w.heap.size, j, none⟩ = false := fun j => (hf _ _ (by (try simp) <;> omega)).trans (by go_simp)
  have c11_1_0 : w11.cell? ⟨w.heap.size + 1, 0, none⟩ = some (.int .i64 s) := (hc _ _ (by (try simp) <;> omega)).trans (by go_simp)
  have c11_1_1 : w11.cell? ⟨w.heap.size + 1, 1, none⟩ = some ((.slice g2 N c2)) := (hc _ _ (by (try simp) <;> omega)).trans (by go_simp)
  have z11_1 : ∀ j, w11.frozen? ⟨w.heap.size + 1, j, none⟩ = false := fun j => (hf _ _ (by (try simp) <;> omega)).trans (by go_simp)
  have c11_2_0 : w11.cell? ⟨w2.heap.size, 0, none⟩ = some (.int .i64 s) := (hc _ _ (by (try simp) <;> omega)).trans (by go_simp)
  have c11_2_1 : w11.cell? ⟨w2.heap.size, 1, none⟩ = some ((.slice gx N cx)) := (hc _ _ (by (try simp) <;> omega)).trans (by go_simp)
  have z11_2 : ∀ j, w11.frozen? ⟨w2.heap.size, j, none⟩ = false := fun j => (hf _ _ (by (try simp) <;> omega)).trans (by go_simp)
  have c11_3_0 : w11.cell? ⟨w6.heap.size, 0, none⟩ = some (.int .i64 s) := (hc _ _ (by (try simp) <;> omega)).trans (by go_simp)
  have c11_3_1 : w11.cell? ⟨w6.heap.size, 1, none⟩ = some ((.slice gu N cu)) := (hc _ _ (by (try simp) <;> omega)).trans (by go_simp)
  have z11_3 : ∀ j, w11.frozen? ⟨w6.heap.size, j, none⟩ = false := fun j => (hf _ _ (by (try simp) <;> omega)).trans (by go_simp)
  clear hc hf hb11
  go_wp2_with fail
  refine (HT4.out _ _ _ HB11.out HU.out).mono ?_
  rintro en w12 ⟨rfl, hb12⟩
  have HB12 : Kp (Below w.heap.size w w12) := ⟨Below.trans (by repeat (first | refine Below.alloc ?_ (by have := HB11.out.size; (try simp) <;> omega) _ | refine bDrewN ?_ _ | refine Below.drew ?_ | refine Below.setCell ?_ (by have := HB11.out.size; (try simp) <;> omega) _ | exact HB11.out)) (hb12.mono (by have := HB11.out.size; (try simp) <;> omega))⟩
  have hz12_0 : w.heap.size < w12.heap.size := by have := hb12.size; (try simp at this); omega
  have hz12_1 : w.heap.size + 1 < w12.heap.size := by have := hb12.size; (try simp at this); omega
  obtain ⟨hc, hf⟩ := bcell hb12
  have c12_0_0 : w12.cell? ⟨w.heap.size, 0, none⟩ = some (.int .i64 s) := (hc _ _ (by (try simp) <;> omega)).trans (by go_simp)
  have c12_0_1 : w12.cell? ⟨w.heap.size, 1, none⟩ = some ((.slice g1 N c1)) := (hc _ _ (by (try simp) <;> omega)).trans (by go_simp)
  have z12_0 : ∀ j, w12.frozen? ⟨w.heap.size, j, none⟩ = false := fun j => (hf _ _ (by (try simp) <;> omega)).trans (by go_simp)
  have c12_1_0 : w12.cell? ⟨w.heap.size + 1, 0, none⟩ = some (.int .i64 s) := (hc _ _ (by (try simp) <;> omega)).trans (by go_simp)
  have c12_1_1 : w12.cell? ⟨w.heap.size + 1, 1, none⟩ = some ((.slice g2 N c2)) := (hc _ _ (by (try simp) <;> omega)).trans (by go_simp)
  have z12_1 : ∀ j, w12.frozen? ⟨w.heap.size + 1, j, none⟩ = false := fun j => (hf _ _ (by (try simp) <;> omega)).trans (by go_simp)
  clear hc hf hb12
  go_wp2_with fail
  refine (awake_any _).mono ?_
  rintro en wz ⟨rfl, hbz⟩
  have HBZ : Kp (Below w.heap.size w wz) := ⟨(HB12.out).trans (hbz.mono (HB12.out).size)⟩
  clear hbz
  go_wp2
  go_ret
  exact ⟨rfl, HBZ.out⟩
theorem jn_cases (s t : Int) (h k : List Bool) : (alikeB s t h.length k.length = false ∧ jnE s t h.length k.length = 1 ∧ jnS s t h.length k.length = 0 ∧ ∀ op, jnR op s t h k = []) ∨ alikeB s t h.length k.length = true := by
  cases ha : alikeB s t h.length k.length with
  | false => exact .inl ⟨rfl, by unfold jnE; rw [ha]; rfl, by unfold jnS; rw [ha]; rfl, fun op => by unfold jnR; rw [ha]; rfl⟩
  | true => exact .inr rfl
theorem sb_res {w w' : World} {u : Value} {L : List Bool} {S E : Int} (hu : LB w' u L) (hb : Below w.heap.size w w') : ∃ g c, Ending.returned (.tuple #[.agg #[.int .i64 S, u], .int .i64 E]) = .returned (.tuple #[.agg #[.int .i64 S, .slice g L.length c], .int .i64 E]) ∧ LB w' (.slice g L.length c) L ∧ Below w.heap.size w w' := by
  obtain ⟨g, c, rfl⟩ := hu.shape
  exact ⟨g, c, rfl, hu, hb⟩
set_option maxHeartbeats 1000000 in
theorem lawSets_any (s t : Int) (u v : Value) (h k : List Bool) (w : World) (hu : LB w u h) (hv : LB w v k) :
    Calls Try.prog 6 #[.agg #[.int .i64 s, u], .agg #[.int .i64 t, v]] w (EndsS w) := by
  obtain ⟨g1, c1, rfl⟩ := hu.shape
  obtain ⟨g2, c2, rfl⟩ := hv.shape
  by_cases hL : (decide (h.length ≤ 2000) && decide (k.length ≤ 2000)) = true
  · have HLG : Kp (∀ W Y, W.cell? ⟨Y, 0, none⟩ = some (.int .i64 s) → W.cell? ⟨Y, 1, none⟩ = some (.slice g1 h.length c1) → W.cell? ⟨Y, 2, none⟩ = some (.int .i64 t) → W.cell? ⟨Y, 3, none⟩ = some (.slice g2 k.length c2) → Calls Try.prog 15 #[.slice (some ⟨Y, 0, none⟩) 2 2] W fun e w' => e = .returned (.bool true) ∧ Below W.heap.size W w') := ⟨fun W Y h0 h1 h2 h3 => by
      have hh := light2_any s t g1 g2 h.length c1 k.length c2 Y W h0 h1 h2 h3
      rwa [hL] at hh⟩
    have HWI : Kp (∀ W, Below w.heap.size w W → Calls Try.prog 45 #[.agg #[.int .i64 s, .slice g1 h.length c1], .agg #[.int .i64 t, .slice g2 k.length c2]] W fun e w' => e = .returned (.bool (withinB s t h k)) ∧ Below W.heap.size W w') := ⟨fun W hW => Within_any s t _ _ h k W (hu.below hW) (hv.below hW)⟩
    have HRW : Kp (∀ W, Below w.heap.size w W → Calls Try.prog 46 #[.agg #[.int .i64 s, .slice g1 h.length c1], .agg #[.int .i64 t, .slice g2 k.length c2]] W fun e w' => e = .returned (.bool (withinB s t h k)) ∧ Below W.heap.size W w') := ⟨fun W hW => rWithin_any s t _ _ h k W (hu.below hW) (hv.below hW)⟩
    have HS : ∀ (S : Int) (L : List Bool), L.length ≤ 1000 → Kp (∀ W g g' c c', LB W (.slice g L.length c) L → LB W (.slice g' L.length c') L → Calls Try.prog 25 #[.agg #[.int .i64 S, .slice g L.length c], .agg #[.int .i64 S, .slice g' L.length c']] W fun e w' => e = .returned (.bool true) ∧ Below W.heap.size W w') := fun S L hl => ⟨fun W g g' c c' k1 k2 => rsame_yes S _ _ L W (by omega) k1 k2⟩
    have HBO : Kp (∀ W, Below w.heap.size w W → Calls Try.prog 43 #[.agg #[.int .i64 s, .slice g1 h.length c1], .agg #[.int .i64 t, .slice g2 k.length c2]] W fun e w' => ∃ g c, e = .returned (.tuple #[.agg #[.int .i64 (jnS s t h.length k.length), .slice g (jnR (fun x y => x && y) s t h k).length c], .int .i64 (jnE s t h.length k.length)]) ∧ LB w' (.slice g (jnR (fun x y => x && y) s t h k).length c) (jnR (fun x y => x && y) s t h k) ∧ Below W.heap.size W w') := ⟨fun W hW => (Both_any s t _ _ h k W (hu.below hW) (hv.below hW)).mono fun e w' ⟨r, he, hr, hb⟩ => by
      subst he
      exact sb_res hr.lb hb⟩
    have HEI : Kp (∀ W, Below w.heap.size w W → Calls Try.prog 47 #[.agg #[.int .i64 s, .slice g1 h.length c1], .agg #[.int .i64 t, .slice g2 k.length c2]] W fun e w' => ∃ g c, e = .returned (.tuple #[.agg #[.int .i64 (jnS s t h.length k.length), .slice g (jnR (fun x y => x || y) s t h k).length c], .int .i64 (jnE s t h.length k.length)]) ∧ LB w' (.slice g (jnR (fun x y => x || y) s t h k).length c) (jnR (fun x y => x || y) s t h k) ∧ Below W.heap.size W w') := ⟨fun W hW => (Either_any s t _ _ h k W (hu.below hW) (hv.below hW)).mono fun e w' ⟨r, he, hr, hb⟩ => by
      subst he
      exact sb_res hr.lb hb⟩
    have HRB : Kp (∀ W, Below w.heap.size w W → Calls Try.prog 44 #[.agg #[.int .i64 s, .slice g1 h.length c1], .agg #[.int .i64 t, .slice g2 k.length c2]] W fun e w' => ∃ g c, e = .returned (.tuple #[.agg #[.int .i64 (jnS s t h.length k.length), .slice g (jnR (fun x y => x && y) s t h k).length c], .int .i64 (jnE s t h.length k.length)]) ∧ LB w' (.slice g (jnR (fun x y => x && y) s t h k).length c) (jnR (fun x y => x && y) s t h k) ∧ Below W.heap.size W w') := ⟨fun W hW => (rBoth_any s t _ _ h k W (hu.below hW) (hv.below hW)).mono fun e w' ⟨r, he, ⟨z, hz, hr⟩, hb⟩ => by
      subst he hz
      exact sb_res hr hb⟩
    have HRE : Kp (∀ W, Below w.heap.size w W → Calls Try.prog 48 #[.agg #[.int .i64 s, .slice g1 h.length c1], .agg #[.int .i64 t, .slice g2 k.length c2]] W fun e w' => ∃ g c, e = .returned (.tuple #[.agg #[.int .i64 (jnS s t h.length k.length), .slice g (jnR (fun x y => x || y) s t h k).length c], .int .i64 (jnE s t h.length k.length)]) ∧ LB w' (.slice g (jnR (fun x y => x || y) s t h k).length c) (jnR (fun x y => x || y) s t h k) ∧ Below W.heap.size W w') := ⟨fun W hW => (rEither_any s t _ _ h k W (hu.below hW) (hv.below hW)).mono fun e w' ⟨r, he, ⟨z, hz, hr⟩, hb⟩ => by
      subst he hz
      exact sb_res hr hb⟩
    rcases jn_cases s t h k with ⟨ha, e1, e2, e3⟩ | ha
    · rw [e1, e2, e3] at HBO HRB HEI HRE
      exact st_bad s t g1 g2 h.length c1 k.length c2 _ [] [] w HLG HBO HRB HEI HRE (HS 0 [] (by simp)) (HS 0 [] (by simp)) HWI HRW
    · have e1 : jnE s t h.length k.length = 0 := by unfold jnE; rw [ha]; rfl
      have e2 : jnS s t h.length k.length = s := by unfold jnS; rw [ha]; rfl
      have e3 : ∀ op, jnR op s t h k = jnL op s.toNat h k := fun op => by unfold jnR; rw [ha]; rfl
      rw [e1, e2, e3, jnL_len] at HBO HRB HEI HRE
      obtain ⟨x, rfl, rfl, h1, h2, l1, l2⟩ := jn_sides ha
      rw [Int.toNat_natCast] at HBO HRB HEI HRE
      have hc := (cube_bd h2).2
      have HSA := HS x (jnL (fun x y => x && y) x h k) (by rw [jnL_len]; omega)
      have HSB := HS x (jnL (fun x y => x || y) x h k) (by rw [jnL_len]; omega)
      rw [jnL_len] at HSA HSB
      rw [l1, l2] at HLG HBO HRB HEI HRE HWI HRW ⊢
      rw [l1] at hu
      rw [l2] at hv
      have al : ∀ {A B : List Bool}, A.length = x * x * x → B.length = x * x * x → withinB x x A B = (grainsL x A).all (hasB x B) := fun hA hB => by
        unfold withinB
        rw [hA, hB]
        rw [l1, l2] at ha
        rw [ha, Bool.true_and, Int.toNat_natCast]
      have jb := @jn_within (fun x y => x && y) x h k
      have je := @jn_within (fun x y => x || y) x h k
      refine st_good x (x * x * x) g1 g2 c1 c2 _ _ _ w HLG HBO HRB HEI HRE HSA HSB HWI HRW ⟨fun W g c hW hl => ?_⟩ ⟨fun W g c hW hl => ?_⟩ ⟨fun W g c hW hl => ?_⟩ ⟨fun W g c hW hl => ?_⟩
      · have hh := Within_any x x _ _ _ h W hl (hu.below hW)
        rwa [al (jnL_len _ _ _ _) l1, jb.1 (fun a b e => by simp at e; exact e.1)] at hh
      · have hh := Within_any x x _ _ _ k W hl (hv.below hW)
        rwa [al (jnL_len _ _ _ _) l2, jb.2.1 (fun a b e => by simp at e; exact e.2)] at hh
      · have hh := Within_any x x _ _ h _ W (hu.below hW) hl
        rwa [al l1 (jnL_len _ _ _ _), je.2.2.1 (fun a b e => by simp [e])] at hh
      · have hh := Within_any x x _ _ k _ W (hv.below hW) hl
        rwa [al l2 (jnL_len _ _ _ _), je.2.2.2 (fun a b e => by simp [e])] at hh
  · have hF : (decide (h.length ≤ 2000) && decide (k.length ≤ 2000)) = false := by simpa using hL
    refine st_light s t g1 g2 _ c1 _ c2 w ⟨fun W Y h0 h1 h2 h3 => ?_⟩
    have hh := light2_any s t g1 g2 h.length c1 k.length c2 Y W h0 h1 h2 h3
    rwa [hF] at hh
end Go.Proofs.Yticcafjogmjkiaa.Cv
