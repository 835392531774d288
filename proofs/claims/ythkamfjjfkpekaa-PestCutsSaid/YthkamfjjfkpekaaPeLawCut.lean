/-
  WALKS (layer 8, pest): the law PestCuts.
-/
import Derived.Test.YthkamfjjfkpekaaPeAwake
import Derived.Test.YthkamfjjfkpekaaPeRefK
import Derived.Test.YthkamfjjfkpekaaPeDual
namespace Go.Proofs.Ythkamfjjfkpekaa.Pe
open Go Go.RowKit Go.Proofs Go.Sort

theorem fitC_any (R x y : Int) (g : Option Addr) (M c : Nat) (w : World) : Calls Try.prog 11 #[.agg #[.int .i64 R, .slice g M c, .int .i64 x, .int .i64 y]] w fun e w' => e = .returned (.bool (decide (M ≤ 50))) ∧ Below w.heap.size w w' := by
  by_cases h : M ≤ 50
  · have h1 : decide ((M : Int) ≤ 50) = true := decide_eq_true (by omega)
    have HD : Kp (decide (M ≤ 50) = true) := ⟨decide_eq_true h⟩
    clear h
    go_enter Try.func11, Try.ntmps11
    go_wp2
    go_ret
    exact ⟨by rw [HD.out]; rfl, by repeat (first | exact Below.refl _ _ | refine Below.alloc ?_ (by simp <;> omega) _ | refine bDrewN ?_ _ | refine Below.drew ?_)⟩
  · have h1 : decide ((M : Int) ≤ 50) = false := decide_eq_false (by omega)
    have HD : Kp (decide (M ≤ 50) = false) := ⟨decide_eq_false h⟩
    clear h
    go_enter Try.func11, Try.ntmps11
    go_wp2
    go_ret
    exact ⟨by rw [HD.out]; rfl, by repeat (first | exact Below.refl _ _ | refine Below.alloc ?_ (by simp <;> omega) _ | refine bDrewN ?_ _ | refine Below.drew ?_)⟩

set_option maxRecDepth 100000 in
set_option maxHeartbeats 2000000 in
theorem cuts_out (R x y : Int) (g : Option Addr) (M c : Nat) (g1 : Option Addr) (n1 k1 : Nat) (g2 : Option Addr) (n2 k2 : Nat) (w : World) (h : ¬ (M ≤ 50 ∧ n1 ≤ 60 ∧ n2 ≤ 60)) :
    Calls Try.prog 5 #[.agg #[.int .i64 R, .slice g M c, .int .i64 x, .int .i64 y], .slice g1 n1 k1, .slice g2 n2 k2] w fun e w' => e = .returned (.bool true) ∧ Below w.heap.size w w' := by
  have HAW := Kp.mk (fun W => awake_any W)
  have HFT := Kp.mk (fun W => fitC_any R x y g M c W)
  by_cases h1 : M ≤ 50
  · have e1 : decide (M ≤ 50) = true := decide_eq_true h1
    rw [e1] at HFT
    by_cases h2 : n1 ≤ 60
    · have e2 : ¬ (60 : Int) < (n1 : Int) := by omega
      have e3 : (60 : Int) < (n2 : Int) := by omega
      clear h e1 h1 h2
      go_enter Try.func5, Try.ntmps5
      go_wp2_with fail
      refine (HFT.out _).mono ?_
      rintro en w0 ⟨rfl, hb0⟩
      have HB0 : Kp (Below w.heap.size w w0) := ⟨Below.trans (by repeat (first | exact Below.refl _ _ | refine Below.alloc ?_ (by simp <;> omega) _ | refine bDrewN ?_ _ | refine Below.drew ?_)) (hb0.mono (by simp <;> omega))⟩
      clear hb0
      go_wp2_with fail
      refine (HAW.out _).mono ?_
      rintro en w9 ⟨rfl, hb9⟩
      have HB9 := Kp.mk (HB0.out.trans (hb9.mono HB0.out.size))
      clear hb9
      go_wp2
      go_ret
      exact ⟨rfl, HB9.out⟩
    · have e2 : (60 : Int) < (n1 : Int) := by omega
      clear h e1 h1 h2
      go_enter Try.func5, Try.ntmps5
      go_wp2_with fail
      refine (HFT.out _).mono ?_
      rintro en w0 ⟨rfl, hb0⟩
      have HB0 : Kp (Below w.heap.size w w0) := ⟨Below.trans (by repeat (first | exact Below.refl _ _ | refine Below.alloc ?_ (by simp <;> omega) _ | refine bDrewN ?_ _ | refine Below.drew ?_)) (hb0.mono (by simp <;> omega))⟩
      clear hb0
      go_wp2_with fail
      refine (HAW.out _).mono ?_
      rintro en w9 ⟨rfl, hb9⟩
      have HB9 := Kp.mk (HB0.out.trans (hb9.mono HB0.out.size))
      clear hb9
      go_wp2
      go_ret
      exact ⟨rfl, HB9.out⟩
  · have e1 : decide (M ≤ 50) = false := decide_eq_false h1
    rw [e1] at HFT
    clear h e1 h1
    go_enter Try.func5, Try.ntmps5
    go_wp2_with fail
    refine (HFT.out _).mono ?_
    rintro en w0 ⟨rfl, hb0⟩
    have HB0 : Kp (Below w.heap.size w w0) := ⟨Below.trans (by repeat (first | exact Below.refl _ _ | refine Below.alloc ?_ (by simp <;> omega) _ | refine bDrewN ?_ _ | refine Below.drew ?_)) (hb0.mono (by simp <;> omega))⟩
    clear hb0
    go_wp2_with fail
    refine (HAW.out _).mono ?_
    rintro en w9 ⟨rfl, hb9⟩
    have HB9 := Kp.mk (HB0.out.trans (hb9.mono HB0.out.size))
    clear hb9
    go_wp2
    go_ret
    exact ⟨rfl, HB9.out⟩
set_option maxRecDepth 100000 in
set_option maxHeartbeats 8000000 in
theorem cuts_in (R x y : Int) (g : Option Addr) (M c : Nat) (g1 : Option Addr) (n1 k1 : Nat) (g2 : Option Addr) (n2 k2 : Nat) (w : World) (Q F P : Bool) (QE A AE FE V VE : Int) (h1 : M ≤ 50) (h2 : n1 ≤ 60) (h3 : n2 ≤ 60)
    (HCutspest : Kp (∀ W, Below w.heap.size w W → Calls Try.prog 21 #[.agg #[.int .i64 R, .slice g M c, .int .i64 x, .int .i64 y], .slice g1 n1 k1] W fun e w' => e = .returned (.tuple #[.bool Q, .int .i64 QE]) ∧ Below W.heap.size W w'))
    (HCutsref : Kp (∀ W, Below w.heap.size w W → Calls Try.prog 22 #[.agg #[.int .i64 R, .slice g M c, .int .i64 x, .int .i64 y], .slice g1 n1 k1] W fun e w' => e = .returned (.tuple #[.bool Q, .int .i64 QE]) ∧ Below W.heap.size W w'))
    (HCostpest : Kp (∀ W, Below w.heap.size w W → Calls Try.prog 23 #[.agg #[.int .i64 R, .slice g M c, .int .i64 x, .int .i64 y], .slice g1 n1 k1] W fun e w' => e = .returned (.tuple #[.int .i64 A, .int .i64 AE]) ∧ Below W.heap.size W w'))
    (HCostref : Kp (∀ W, Below w.heap.size w W → Calls Try.prog 24 #[.agg #[.int .i64 R, .slice g M c, .int .i64 x, .int .i64 y], .slice g1 n1 k1] W fun e w' => e = .returned (.tuple #[.int .i64 A, .int .i64 AE]) ∧ Below W.heap.size W w'))
    (HFlowpest : Kp (∀ W, Below w.heap.size w W → Calls Try.prog 25 #[.agg #[.int .i64 R, .slice g M c, .int .i64 x, .int .i64 y], .slice g2 n2 k2] W fun e w' => e = .returned (.tuple #[.bool F, .int .i64 FE]) ∧ Below W.heap.size W w'))
    (HFlowref : Kp (∀ W, Below w.heap.size w W → Calls Try.prog 26 #[.agg #[.int .i64 R, .slice g M c, .int .i64 x, .int .i64 y], .slice g2 n2 k2] W fun e w' => e = .returned (.tuple #[.bool F, .int .i64 FE]) ∧ Below W.heap.size W w'))
    (HValuepest : Kp (∀ W, Below w.heap.size w W → Calls Try.prog 27 #[.agg #[.int .i64 R, .slice g M c, .int .i64 x, .int .i64 y], .slice g2 n2 k2] W fun e w' => e = .returned (.tuple #[.int .i64 V, .int .i64 VE]) ∧ Below W.heap.size W w'))
    (HValueref : Kp (∀ W, Below w.heap.size w W → Calls Try.prog 28 #[.agg #[.int .i64 R, .slice g M c, .int .i64 x, .int .i64 y], .slice g2 n2 k2] W fun e w' => e = .returned (.tuple #[.int .i64 V, .int .i64 VE]) ∧ Below W.heap.size W w'))
    (HP1 : Kp (∀ W, Below w.heap.size w W → Calls Try.prog 29 #[.agg #[.int .i64 R, .slice g M c, .int .i64 x, .int .i64 y], .agg #[.slice g1 n1 k1, .slice g2 n2 k2]] W fun e w' => e = .returned (.bool P) ∧ Below W.heap.size W w'))
    (HP2 : Kp (∀ W, Below w.heap.size w W → Calls Try.prog 30 #[.agg #[.int .i64 R, .slice g M c, .int .i64 x, .int .i64 y], .agg #[.slice g1 n1 k1, .slice g2 n2 k2]] W fun e w' => e = .returned (.bool P) ∧ Below W.heap.size W w'))
    (HDL : Kp (Q = true → VE = 0 → V ≤ A)) :
    Calls Try.prog 5 #[.agg #[.int .i64 R, .slice g M c, .int .i64 x, .int .i64 y], .slice g1 n1 k1, .slice g2 n2 k2] w fun e w' => e = .returned (.bool true) ∧ Below w.heap.size w w' := by
  have HAW := Kp.mk (fun W => awake_any W)
  have HFT := Kp.mk (fun W => fitC_any R x y g M c W)
  rw [decide_eq_true h1] at HFT
  have e2 : ¬ (60 : Int) < (n1 : Int) := by omega
  have e3 : ¬ (60 : Int) < (n2 : Int) := by omega
  go_enter Try.func5, Try.ntmps5
  go_wp2_with fail
  refine (HFT.out _).mono ?_
  rintro en w1 ⟨rfl, hb1⟩
  have HB1 : Kp (Below w.heap.size w w1) := ⟨Below.trans (by repeat (first | refine Below.alloc ?_ (by (try simp) <;> omega) _ | refine bDrewN ?_ _ | refine Below.drew ?_ | refine Below.setCell ?_ (by (try simp) <;> omega) _ | exact Below.refl _ _)) (hb1.mono (by (try simp) <;> omega))⟩
  have hz1_0 : w.heap.size < w1.heap.size := by have := hb1.size; (try simp at this); omega
  obtain ⟨hc, hf⟩ := bcell hb1
  have c1_0_0 : w1.cell? ⟨w.heap.size, 0, none⟩ = some (.int .i64 R) := (hc _ _ (by (try simp) <;> omega)).trans (by go_simp)
  have c1_0_1 : w1.cell? ⟨w.heap.size, 1, none⟩ = some ((.slice g M c)) := (hc _ _ (by (try simp) <;> omega)).trans (by go_simp)
  have c1_0_2 : w1.cell? ⟨w.heap.size, 2, none⟩ = some (.int .i64 x) := (hc _ _ (by (try simp) <;> omega)).trans (by go_simp)
  have c1_0_3 : w1.cell? ⟨w.heap.size, 3, none⟩ = some (.int .i64 y) := (hc _ _ (by (try simp) <;> omega)).trans (by go_simp)
  have z1_0 : ∀ j, w1.frozen? ⟨w.heap.size, j, none⟩ = false := fun j => (hf _ _ (by (try simp) <;> omega)).trans (by go_simp)
  clear hc hf hb1
  go_wp2_with fail
  refine (HCutspest.out _ HB1.out).mono ?_
  rintro en w2 ⟨rfl, hb2⟩
  have HB2 : Kp (Below w.heap.size w w2) := ⟨Below.trans (by repeat (first | refine Below.alloc ?_ (by have := HB1.out.size; (try simp) <;> omega) _ | refine bDrewN ?_ _ | refine Below.drew ?_ | refine Below.setCell ?_ (by have := HB1.out.size; (try simp) <;> omega) _ | exact HB1.out)) (hb2.mono (by have := HB1.out.size; (try simp) <;> omega))⟩
  have hz2_0 : w.heap.size < w2.heap.size := by have := hb2.size; (try simp at this); omega
  obtain ⟨hc, hf⟩ := bcell hb2
  have c2_0_0 : w2.cell? ⟨w.heap.size, 0, none⟩ = some (.int .i64 R) := (hc _ _ (by (try simp) <;> omega)).trans (by go_simp)
  have c2_0_1 : w2.cell? ⟨w.heap.size, 1, none⟩ = some ((.slice g M c)) := (hc _ _ (by (try simp) <;> omega)).trans (by go_simp)
  have c2_0_2 : w2.cell? ⟨w.heap.size, 2, none⟩ = some (.int .i64 x) := (hc _ _ (by (try simp) <;> omega)).trans (by go_simp)
  have c2_0_3 : w2.cell? ⟨w.heap.size, 3, none⟩ = some (.int .i64 y) := (hc _ _ (by (try simp) <;> omega)).trans (by go_simp)
  have z2_0 : ∀ j, w2.frozen? ⟨w.heap.size, j, none⟩ = false := fun j => (hf _ _ (by (try simp) <;> omega)).trans (by go_simp)
  clear hc hf hb2
  go_wp2_with fail
  refine (HCutsref.out _ HB2.out).mono ?_
  rintro en w3 ⟨rfl, hb3⟩
  have HB3 : Kp (Below w.heap.size w w3) := ⟨Below.trans (by repeat (first | refine Below.alloc ?_ (by have := HB2.out.size; (try simp) <;> omega) _ | refine bDrewN ?_ _ | refine Below.drew ?_ | refine Below.setCell ?_ (by have := HB2.out.size; (try simp) <;> omega) _ | exact HB2.out)) (hb3.mono (by have := HB2.out.size; (try simp) <;> omega))⟩
  have hz3_0 : w.heap.size < w3.heap.size := by have := hb3.size; (try simp at this); omega
  obtain ⟨hc, hf⟩ := bcell hb3
  have c3_0_0 : w3.cell? ⟨w.heap.size, 0, none⟩ = some (.int .i64 R) := (hc _ _ (by (try simp) <;> omega)).trans (by go_simp)
  have c3_0_1 : w3.cell? ⟨w.heap.size, 1, none⟩ = some ((.slice g M c)) := (hc _ _ (by (try simp) <;> omega)).trans (by go_simp)
  have c3_0_2 : w3.cell? ⟨w.heap.size, 2, none⟩ = some (.int .i64 x) := (hc _ _ (by (try simp) <;> omega)).trans (by go_simp)
  have c3_0_3 : w3.cell? ⟨w.heap.size, 3, none⟩ = some (.int .i64 y) := (hc _ _ (by (try simp) <;> omega)).trans (by go_simp)
  have z3_0 : ∀ j, w3.frozen? ⟨w.heap.size, j, none⟩ = false := fun j => (hf _ _ (by (try simp) <;> omega)).trans (by go_simp)
  clear hc hf hb3
  go_wp2_with fail
  refine (HCostpest.out _ HB3.out).mono ?_
  rintro en w4 ⟨rfl, hb4⟩
  have HB4 : Kp (Below w.heap.size w w4) := ⟨Below.trans (by repeat (first | refine Below.alloc ?_ (by have := HB3.out.size; (try simp) <;> omega) _ | refine bDrewN ?_ _ | refine Below.drew ?_ | refine Below.setCell ?_ (by have := HB3.out.size; (try simp) <;> omega) _ | exact HB3.out)) (hb4.mono (by have := HB3.out.size; (try simp) <;> omega))⟩
  have hz4_0 : w.heap.size < w4.heap.size := by have := hb4.size; (try simp at this); omega
  obtain ⟨hc, hf⟩ := bcell hb4
  have c4_0_0 : w4.cell? ⟨w.heap.size, 0, none⟩ = some (.int .i64 R) := (hc _ _ (by (try simp) <;> omega)).trans (by go_simp)
  have c4_0_1 : w4.cell? ⟨w.heap.size, 1, none⟩ = some ((.slice g M c)) := (hc _ _ (by (try simp) <;> omega)).trans (by go_simp)
  have c4_0_2 : w4.cell? ⟨w.heap.size, 2, none⟩ = some (.int .i64 x) := (hc _ _ (by (try simp) <;> omega)).trans (by go_simp)
  have c4_0_3 : w4.cell? ⟨w.heap.size, 3, none⟩ = some (.int .i64 y) := (hc _ _ (by (try simp) <;> omega)).trans (by go_simp)
  have z4_0 : ∀ j, w4.frozen? ⟨w.heap.size, j, none⟩ = false := fun j => (hf _ _ (by (try simp) <;> omega)).trans (by go_simp)
  clear hc hf hb4
  go_wp2_with fail
  refine (HCostref.out _ HB4.out).mono ?_
  rintro en w5 ⟨rfl, hb5⟩
  have HB5 : Kp (Below w.heap.size w w5) := ⟨Below.trans (by repeat (first | refine Below.alloc ?_ (by have := HB4.out.size; (try simp) <;> omega) _ | refine bDrewN ?_ _ | refine Below.drew ?_ | refine Below.setCell ?_ (by have := HB4.out.size; (try simp) <;> omega) _ | exact HB4.out)) (hb5.mono (by have := HB4.out.size; (try simp) <;> omega))⟩
  have hz5_0 : w.heap.size < w5.heap.size := by have := hb5.size; (try simp at this); omega
  obtain ⟨hc, hf⟩ := bcell hb5
  have c5_0_0 : w5.cell? ⟨w.heap.size, 0, none⟩ = some (.int .i64 R) := (hc _ _ (by (try simp) <;> omega)).trans (by go_simp)
  have c5_0_1 : w5.cell? ⟨w.heap.size, 1, none⟩ = some ((.slice g M c)) := (hc _ _ (by (try simp) <;> omega)).trans (by go_simp)
  have c5_0_2 : w5.cell? ⟨w.heap.size, 2, none⟩ = some (.int .i64 x) := (hc _ _ (by (try simp) <;> omega)).trans (by go_simp)
  have c5_0_3 : w5.cell? ⟨w.heap.size, 3, none⟩ = some (.int .i64 y) := (hc _ _ (by (try simp) <;> omega)).trans (by go_simp)
  have z5_0 : ∀ j, w5.frozen? ⟨w.heap.size, j, none⟩ = false := fun j => (hf _ _ (by (try simp) <;> omega)).trans (by go_simp)
  clear hc hf hb5
  go_wp2_with fail
  refine (HFlowpest.out _ HB5.out).mono ?_
  rintro en w6 ⟨rfl, hb6⟩
  have HB6 : Kp (Below w.heap.size w w6) := ⟨Below.trans (by repeat (first | refine Below.alloc ?_ (by have := HB5.out.size; (try simp) <;> omega) _ | refine bDrewN ?_ _ | refine Below.drew ?_ | refine Below.setCell ?_ (by have := HB5.out.size; (try simp) <;> omega) _ | exact HB5.out)) (hb6.mono (by have := HB5.out.size; (try simp) <;> omega))⟩
  have hz6_0 : w.heap.size < w6.heap.size := by have := hb6.size; (try simp at this); omega
  obtain ⟨hc, hf⟩ := bcell hb6
  have c6_0_0 : w6.cell? ⟨w.heap.size, 0, none⟩ = some (.int .i64 R) := (hc _ _ (by (try simp) <;> omega)).trans (by go_simp)
  have c6_0_1 : w6.cell? ⟨w.heap.size, 1, none⟩ = some ((.slice g M c)) := (hc _ _ (by (try simp) <;> omega)).trans (by go_simp)
  have c6_0_2 : w6.cell? ⟨w.heap.size, 2, none⟩ = some (.int .i64 x) := (hc _ _ (by (try simp) <;> omega)).trans (by go_simp)
  have c6_0_3 : w6.cell? ⟨w.heap.size, 3, none⟩ = some (.int .i64 y) := (hc _ _ (by (try simp) <;> omega)).trans (by go_simp)
  have z6_0 : ∀ j, w6.frozen? ⟨w.heap.size, j, none⟩ = false := fun j => (hf _ _ (by (try simp) <;> omega)).trans (by go_simp)
  clear hc hf hb6
  go_wp2_with fail
  refine (HFlowref.out _ HB6.out).mono ?_
  rintro en w7 ⟨rfl, hb7⟩
  have HB7 : Kp (Below w.heap.size w w7) := ⟨Below.trans (by repeat (first | refine Below.alloc ?_ (by have := HB6.out.size; (try simp) <;> omega) _ | refine bDrewN ?_ _ | refine Below.drew ?_ | refine Below.setCell ?_ (by have := HB6.out.size; (try simp) <;> omega) _ | exact HB6.out)) (hb7.mono (by have := HB6.out.size; (try simp) <;> omega))⟩
  have hz7_0 : w.heap.size < w7.heap.size := by have := hb7.size; (try simp at this); omega
  obtain ⟨hc, hf⟩ := bcell hb7
  have c7_0_0 : w7.cell? ⟨w.heap.size, 0, none⟩ = some (.int .i64 R) := (hc _ _ (by (try simp) <;> omega)).trans (by go_simp)
  have c7_0_1 : w7.cell? ⟨w.heap.size, 1, none⟩ = some ((.slice g M c)) := (hc _ _ (by (try simp) <;> omega)).trans (by go_simp)
  have c7_0_2 : w7.cell? ⟨w.heap.size, 2, none⟩ = some (.int .i64 x) := (hc _ _ (by (try simp) <;> omega)).trans (by go_simp)
  have c7_0_3 : w7.cell? ⟨w.heap.size, 3, none⟩ = some (.int .i64 y) := (hc _ _ (by (try simp) <;> omega)).trans (by go_simp)
  have z7_0 : ∀ j, w7.frozen? ⟨w.heap.size, j, none⟩ = false := fun j => (hf _ _ (by (try simp) <;> omega)).trans (by go_simp)
  clear hc hf hb7
  go_wp2_with fail
  refine (HValuepest.out _ HB7.out).mono ?_
  rintro en w8 ⟨rfl, hb8⟩
  have HB8 : Kp (Below w.heap.size w w8) := ⟨Below.trans (by repeat (first | refine Below.alloc ?_ (by have := HB7.out.size; (try simp) <;> omega) _ | refine bDrewN ?_ _ | refine Below.drew ?_ | refine Below.setCell ?_ (by have := HB7.out.size; (try simp) <;> omega) _ | exact HB7.out)) (hb8.mono (by have := HB7.out.size; (try simp) <;> omega))⟩
  have hz8_0 : w.heap.size < w8.heap.size := by have := hb8.size; (try simp at this); omega
  obtain ⟨hc, hf⟩ := bcell hb8
  have c8_0_0 : w8.cell? ⟨w.heap.size, 0, none⟩ = some (.int .i64 R) := (hc _ _ (by (try simp) <;> omega)).trans (by go_simp)
  have c8_0_1 : w8.cell? ⟨w.heap.size, 1, none⟩ = some ((.slice g M c)) := (hc _ _ (by (try simp) <;> omega)).trans (by go_simp)
  have c8_0_2 : w8.cell? ⟨w.heap.size, 2, none⟩ = some (.int .i64 x) := (hc _ _ (by (try simp) <;> omega)).trans (by go_simp)
  have c8_0_3 : w8.cell? ⟨w.heap.size, 3, none⟩ = some (.int .i64 y) := (hc _ _ (by (try simp) <;> omega)).trans (by go_simp)
  have z8_0 : ∀ j, w8.frozen? ⟨w.heap.size, j, none⟩ = false := fun j => (hf _ _ (by (try simp) <;> omega)).trans (by go_simp)
  clear hc hf hb8
  go_wp2_with fail
  refine (HValueref.out _ HB8.out).mono ?_
  rintro en w9 ⟨rfl, hb9⟩
  have HB9 : Kp (Below w.heap.size w w9) := ⟨Below.trans (by repeat (first | refine Below.alloc ?_ (by have := HB8.out.size; (try simp) <;> omega) _ | refine bDrewN ?_ _ | refine Below.drew ?_ | refine Below.setCell ?_ (by have := HB8.out.size; (try simp) <;> omega) _ | exact HB8.out)) (hb9.mono (by have := HB8.out.size; (try simp) <;> omega))⟩
  have hz9_0 : w.heap.size < w9.heap.size := by have := hb9.size; (try simp at this); omega
  obtain ⟨hc, hf⟩ := bcell hb9
  have c9_0_0 : w9.cell? ⟨w.heap.size, 0, none⟩ = some (.int .i64 R) := (hc _ _ (by (try simp) <;> omega)).trans (by go_simp)
  have c9_0_1 : w9.cell? ⟨w.heap.size, 1, none⟩ = some ((.slice g M c)) := (hc _ _ (by (try simp) <;> omega)).trans (by go_simp)
  have c9_0_2 : w9.cell? ⟨w.heap.size, 2, none⟩ = some (.int .i64 x) := (hc _ _ (by (try simp) <;> omega)).trans (by go_simp)
  have c9_0_3 : w9.cell? ⟨w.heap.size, 3, none⟩ = some (.int .i64 y) := (hc _ _ (by (try simp) <;> omega)).trans (by go_simp)
  have z9_0 : ∀ j, w9.frozen? ⟨w.heap.size, j, none⟩ = false := fun j => (hf _ _ (by (try simp) <;> omega)).trans (by go_simp)
  clear hc hf hb9
  go_wp2_with fail
  obtain ⟨W10, hW10⟩ : ∃ W, w9.alloc (.cells #[.slice g1 n1 k1, .slice g2 n2 k2] 37) = W := ⟨_, rfl⟩
  have hb10 : Below w9.heap.size w9 W10 := by subst hW10; exact (Below.refl _ _).alloc (Nat.le_refl _) _
  have hp : W10.cell? ⟨w9.heap.size, 0, none⟩ = some (.slice g1 n1 k1) ∧ W10.cell? ⟨w9.heap.size, 1, none⟩ = some (.slice g2 n2 k2) := by subst hW10; exact ⟨by go_simp, by go_simp⟩
  try rw [hW10]
  obtain ⟨D, hD⟩ : ∃ D, w9.heap.size = D := ⟨_, rfl⟩
  rw [hD] at hp
  try simp only [hD]
  have HB10 := Kp.mk (HB9.out.trans (hb10.mono HB9.out.size))
  have HALL : Kp (∀ w', Below W10.heap.size W10 w' → w'.cell? ⟨w.heap.size, 0, none⟩ = some (.int .i64 R) ∧ w'.cell? ⟨w.heap.size, 1, none⟩ = some (.slice g M c) ∧ w'.cell? ⟨w.heap.size, 2, none⟩ = some (.int .i64 x) ∧ w'.cell? ⟨w.heap.size, 3, none⟩ = some (.int .i64 y) ∧ w'.cell? ⟨D, 0, none⟩ = some (.slice g1 n1 k1) ∧ w'.cell? ⟨D, 1, none⟩ = some (.slice g2 n2 k2)) := ⟨fun w' h' => by
    have h := hb10.trans (h'.mono hb10.size)
    exact ⟨(h.cell (p := ⟨w.heap.size, 0, none⟩) (World.block_lt_of_cell? _ _ c9_0_0)).trans c9_0_0, (h.cell (p := ⟨w.heap.size, 1, none⟩) (World.block_lt_of_cell? _ _ c9_0_1)).trans c9_0_1, (h.cell (p := ⟨w.heap.size, 2, none⟩) (World.block_lt_of_cell? _ _ c9_0_2)).trans c9_0_2, (h.cell (p := ⟨w.heap.size, 3, none⟩) (World.block_lt_of_cell? _ _ c9_0_3)).trans c9_0_3, (h'.cell (p := ⟨D, 0, none⟩) (World.block_lt_of_cell? _ _ hp.1)).trans hp.1, (h'.cell (p := ⟨D, 1, none⟩) (World.block_lt_of_cell? _ _ hp.2)).trans hp.2⟩⟩
  clear hW10 hb10 hp hD
  obtain ⟨q0, q1, q2, q3, p0, p1⟩ := HALL.out W10 (Below.refl _ _)
  go_wp2_with fail
  refine wp_region_noPanic ?_
  refine region_nm ?_
  intro ops Qp hops hQp
  have HQP : Kp (∀ c a d v w, Qp (.panic c) (Act.put a d v) w → Qp (.panic c) a w) := ⟨by subst hQp; intro c a d v w h; exact h⟩
  have HFIN : Kp (∀ (w' : World), Below W10.heap.size W10 w' → Qp .normal { tmps := #[.agg #[.int .i64 R, .slice g M c, .int .i64 x, .int .i64 y], .slice g1 n1 k1, .slice g2 n2 k2, .pointer (some ⟨w.heap.size, 0, none⟩), undef, undef, .bool false, .bool Q, .int .i64 QE, .bool Q, .int .i64 QE, .int .i64 A, .int .i64 AE, .int .i64 A, .int .i64 AE, .bool F, .int .i64 FE, .bool F, .int .i64 FE, .int .i64 V, .int .i64 VE, .int .i64 V, .int .i64 VE, .pointer (some ⟨D, 0, none⟩), .agg #[.int .i64 R, .slice g M c, .int .i64 x, .int .i64 y], .bool true, .bool false, .bool false, .slice g1 n1 k1, .int .i64 n1, .bool (decide ((60 : Int) < (n1 : Int))), .bool (decide ((60 : Int) < (n1 : Int))), .bool (decide ((60 : Int) < (n1 : Int))), .slice g2 n2 k2, .int .i64 n2, .bool (decide ((60 : Int) < (n2 : Int))), .bool (decide ((60 : Int) < (n1 : Int)) || decide ((60 : Int) < (n2 : Int))), undef, .tuple #[.bool Q, .int .i64 QE], .agg #[.int .i64 R, .slice g M c, .int .i64 x, .int .i64 y], .slice g1 n1 k1, .tuple #[.bool Q, .int .i64 QE], .bool Q, .int .i64 QE, .tuple #[.bool Q, .int .i64 QE], .agg #[.int .i64 R, .slice g M c, .int .i64 x, .int .i64 y], .slice g1 n1 k1, .tuple #[.bool Q, .int .i64 QE], .bool Q, .int .i64 QE, .tuple #[.int .i64 A, .int .i64 AE], .agg #[.int .i64 R, .slice g M c, .int .i64 x, .int .i64 y], .slice g1 n1 k1, .tuple #[.int .i64 A, .int .i64 AE], .int .i64 A, .int .i64 AE, .tuple #[.int .i64 A, .int .i64 AE], .agg #[.int .i64 R, .slice g M c, .int .i64 x, .int .i64 y], .slice g1 n1 k1, .tuple #[.int .i64 A, .int .i64 AE], .int .i64 A, .int .i64 AE, .tuple #[.bool F, .int .i64 FE], .agg #[.int .i64 R, .slice g M c, .int .i64 x, .int .i64 y], .slice g2 n2 k2, .tuple #[.bool F, .int .i64 FE], .bool F, .int .i64 FE, .tuple #[.bool F, .int .i64 FE], .agg #[.int .i64 R, .slice g M c, .int .i64 x, .int .i64 y], .slice g2 n2 k2, .tuple #[.bool F, .int .i64 FE], .bool F, .int .i64 FE, .tuple #[.int .i64 V, .int .i64 VE], .agg #[.int .i64 R, .slice g M c, .int .i64 x, .int .i64 y], .slice g2 n2 k2, .tuple #[.int .i64 V, .int .i64 VE], .int .i64 V, .int .i64 VE, .tuple #[.int .i64 V, .int .i64 VE], .agg #[.int .i64 R, .slice g M c, .int .i64 x, .int .i64 y], .slice g2 n2 k2, .tuple #[.int .i64 V, .int .i64 VE], .int .i64 V, .int .i64 VE, .slice g1 n1 k1, .slice g2 n2 k2, .agg #[.slice g1 n1 k1, .slice g2 n2 k2], .bool Q, .bool Q, .bool false, .bool false, .int .i64 QE, .int .i64 QE, .bool false, .bool false, .bool false, .int .i64 A, .int .i64 A, .bool false, .bool false, .bool false, .int .i64 AE, .int .i64 AE, .bool false, .bool false, .bool false, .bool F, .bool F, .bool false, .bool false, .bool false, .int .i64 FE, .int .i64 FE, .bool false, .bool false, .bool false, .int .i64 V, .int .i64 V, .bool false, .bool false, .bool false, .int .i64 VE, .int .i64 VE, .bool false, .bool false, .bool false, .agg #[.int .i64 R, .slice g M c, .int .i64 x, .int .i64 y], .agg #[.slice g1 n1 k1, .slice g2 n2 k2], .bool P, .agg #[.int .i64 R, .slice g M c, .int .i64 x, .int .i64 y], .agg #[.slice g1 n1 k1, .slice g2 n2 k2], .bool P, .bool false, .bool false, undef, undef, undef, undef, undef, undef, undef, undef, undef, undef, undef, undef, undef, undef], defers := [] } w') := by
    refine ⟨?_⟩
    intro w' hw 
    have HBW := Kp.mk (HB10.out.trans (hw.mono HB10.out.size))
    have HWB := Kp.mk hw
    clear HQP hops hw
    subst hQp
    refine NoPanic.normal ?_
    cases Q with
    | false =>
      go_wp2_with fail
      refine (HAW.out _).mono ?_
      rintro en w12 ⟨rfl, hb12⟩
      have HB12 := Kp.mk (HBW.out.trans (hb12.mono HBW.out.size))
      clear hb12
      go_wp2
      go_ret
      exact ⟨rfl, HB12.out⟩
    | true =>
      by_cases hVE : VE = 0
      · have hva := HDL.out rfl hVE
        subst hVE
        go_wp2_with fail
        refine (HAW.out _).mono ?_
        rintro en w12 ⟨rfl, hb12⟩
        have HB12 := Kp.mk (HBW.out.trans (hb12.mono HBW.out.size))
        clear hb12
        go_wp2
        go_ret
        exact ⟨rfl, HB12.out⟩
      · have i1 : (VE == (0 : Int)) = false := by simp [hVE]
        have i2 : (VE != (0 : Int)) = true := by simp [hVE]
        clear hVE
        go_wp2_with fail
        refine (HAW.out _).mono ?_
        rintro en w12 ⟨rfl, hb12⟩
        have HB12 := Kp.mk (HBW.out.trans (hb12.mono HBW.out.size))
        clear hb12
        go_wp2
        go_ret
        exact ⟨rfl, HB12.out⟩
  have S0_1_2_3_4_5_6_7_8_9_10_11_12_13_14_15_16_17_18_19_20_21_22_23_24_25_26_27_28_29_30_31_32_33_34_35_36_37_38_39_40_41_42_43_44 : Kp (∀ (w' : World), Below W10.heap.size W10 w' → wpAnyH Try.prog .any ops Qp (fun w' => Below W10.heap.size W10 w') 2 #[true, true, true, true, true, true, true, true, true, true, true, true, true, true, true, true, true, true, true, true, true, true, true, true, true, true, true, true, true, true, true, true, true, true, true, true, true, true, true, true, true, true, true, true, true, false, false] { tmps := #[.agg #[.int .i64 R, .slice g M c, .int .i64 x, .int .i64 y], .slice g1 n1 k1, .slice g2 n2 k2, .pointer (some ⟨w.heap.size, 0, none⟩), undef, undef, .bool false, .bool Q, .int .i64 QE, .bool Q, .int .i64 QE, .int .i64 A, .int .i64 AE, .int .i64 A, .int .i64 AE, .bool F, .int .i64 FE, .bool F, .int .i64 FE, .int .i64 V, .int .i64 VE, .int .i64 V, .int .i64 VE, .pointer (some ⟨D, 0, none⟩), .agg #[.int .i64 R, .slice g M c, .int .i64 x, .int .i64 y], .bool true, .bool false, .bool false, .slice g1 n1 k1, .int .i64 n1, .bool (decide ((60 : Int) < (n1 : Int))), .bool (decide ((60 : Int) < (n1 : Int))), .bool (decide ((60 : Int) < (n1 : Int))), .slice g2 n2 k2, .int .i64 n2, .bool (decide ((60 : Int) < (n2 : Int))), .bool (decide ((60 : Int) < (n1 : Int)) || decide ((60 : Int) < (n2 : Int))), undef, .tuple #[.bool Q, .int .i64 QE], .agg #[.int .i64 R, .slice g M c, .int .i64 x, .int .i64 y], .slice g1 n1 k1, .tuple #[.bool Q, .int .i64 QE], .bool Q, .int .i64 QE, .tuple #[.bool Q, .int .i64 QE], .agg #[.int .i64 R, .slice g M c, .int .i64 x, .int .i64 y], .slice g1 n1 k1, .tuple #[.bool Q, .int .i64 QE], .bool Q, .int .i64 QE, .tuple #[.int .i64 A, .int .i64 AE], .agg #[.int .i64 R, .slice g M c, .int .i64 x, .int .i64 y], .slice g1 n1 k1, .tuple #[.int .i64 A, .int .i64 AE], .int .i64 A, .int .i64 AE, .tuple #[.int .i64 A, .int .i64 AE], .agg #[.int .i64 R, .slice g M c, .int .i64 x, .int .i64 y], .slice g1 n1 k1, .tuple #[.int .i64 A, .int .i64 AE], .int .i64 A, .int .i64 AE, .tuple #[.bool F, .int .i64 FE], .agg #[.int .i64 R, .slice g M c, .int .i64 x, .int .i64 y], .slice g2 n2 k2, .tuple #[.bool F, .int .i64 FE], .bool F, .int .i64 FE, .tuple #[.bool F, .int .i64 FE], .agg #[.int .i64 R, .slice g M c, .int .i64 x, .int .i64 y], .slice g2 n2 k2, .tuple #[.bool F, .int .i64 FE], .bool F, .int .i64 FE, .tuple #[.int .i64 V, .int .i64 VE], .agg #[.int .i64 R, .slice g M c, .int .i64 x, .int .i64 y], .slice g2 n2 k2, .tuple #[.int .i64 V, .int .i64 VE], .int .i64 V, .int .i64 VE, .tuple #[.int .i64 V, .int .i64 VE], .agg #[.int .i64 R, .slice g M c, .int .i64 x, .int .i64 y], .slice g2 n2 k2, .tuple #[.int .i64 V, .int .i64 VE], .int .i64 V, .int .i64 VE, .slice g1 n1 k1, .slice g2 n2 k2, .agg #[.slice g1 n1 k1, .slice g2 n2 k2], .bool Q, .bool Q, .bool false, .bool false, .int .i64 QE, .int .i64 QE, .bool false, .bool false, .bool false, .int .i64 A, .int .i64 A, .bool false, .bool false, .bool false, .int .i64 AE, .int .i64 AE, .bool false, .bool false, .bool false, .bool F, .bool F, .bool false, .bool false, .bool false, .int .i64 FE, .int .i64 FE, .bool false, .bool false, .bool false, .int .i64 V, .int .i64 V, .bool false, .bool false, .bool false, .int .i64 VE, .int .i64 VE, .bool false, .bool false, .bool false, .agg #[.int .i64 R, .slice g M c, .int .i64 x, .int .i64 y], .agg #[.slice g1 n1 k1, .slice g2 n2 k2], .bool P, .agg #[.int .i64 R, .slice g M c, .int .i64 x, .int .i64 y], .agg #[.slice g1 n1 k1, .slice g2 n2 k2], .bool P, undef, undef, undef, undef, undef, undef, undef, undef, undef, undef, undef, undef, undef, undef, undef, undef], defers := [] } w') := by
    refine ⟨?_⟩
    intro w' hw
    refine wpAnyH_take (i := 45) (oi := { dst := some 134, op := Go.Op.binOp Go.BinOp.neq 4 (Go.Operand.tmp 130) (Go.Operand.tmp 133) 4, type := 4, pos := "law.go:99", after := #[{ on := 41, ground := Go.Ground.data }, { on := 44, ground := Go.Ground.data }, { on := 38, ground := Go.Ground.guard }], guard := some (38, false) }) (v := .bool false) (by rw [hops]; kernel_rfl) (by rw [hops]; kernel_rfl) (by rw [hops]; kernel_rfl) (by rw [hops]; kernel_rfl) (fun c a w h => HQP.out c a _ _ w h) (Or.inl ⟨by rw [hops]; kernel_rfl, by intro w _; go_simp⟩) hw ?_
    simp only [Act.put, List.setIfInBounds_toArray, List.set_cons_zero, List.set_cons_succ]
    refine wpAnyH_take (i := 46) (oi := { dst := some 135, op := Go.Op.pick (Go.Operand.tmp 127) (Go.Operand.const (Go.Value.bool true)) (Go.Operand.tmp 134), type := 4, pos := "law.go:99", after := #[{ on := 38, ground := Go.Ground.data }, { on := 45, ground := Go.Ground.data }], guard := none }) (v := .bool false) (by rw [hops]; kernel_rfl) (by rw [hops]; kernel_rfl) (by rw [hops]; kernel_rfl) (by rw [hops]; kernel_rfl) (fun c a w h => HQP.out c a _ _ w h) (Or.inl ⟨by rw [hops]; kernel_rfl, by intro w _; go_simp⟩) hw ?_
    simp only [Act.put, List.setIfInBounds_toArray, List.set_cons_zero, List.set_cons_succ]
    refine wpAnyH_done (by rw [hops]; kernel_rfl) ?_ _
    exact HFIN.out w' hw 
  have S0_1_2_3_4_5_6_7_8_9_10_11_12_13_14_15_16_17_18_19_20_21_22_23_24_25_26_27_28_29_30_31_32_33_34_35_36_37_38_39_40_41_42_43 : Kp (∀ (w' : World), Below W10.heap.size W10 w' → wpAnyH Try.prog .any ops Qp (fun w' => Below W10.heap.size W10 w') 3 #[true, true, true, true, true, true, true, true, true, true, true, true, true, true, true, true, true, true, true, true, true, true, true, true, true, true, true, true, true, true, true, true, true, true, true, true, true, true, true, true, true, true, true, true, false, false, false] { tmps := #[.agg #[.int .i64 R, .slice g M c, .int .i64 x, .int .i64 y], .slice g1 n1 k1, .slice g2 n2 k2, .pointer (some ⟨w.heap.size, 0, none⟩), undef, undef, .bool false, .bool Q, .int .i64 QE, .bool Q, .int .i64 QE, .int .i64 A, .int .i64 AE, .int .i64 A, .int .i64 AE, .bool F, .int .i64 FE, .bool F, .int .i64 FE, .int .i64 V, .int .i64 VE, .int .i64 V, .int .i64 VE, .pointer (some ⟨D, 0, none⟩), .agg #[.int .i64 R, .slice g M c, .int .i64 x, .int .i64 y], .bool true, .bool false, .bool false, .slice g1 n1 k1, .int .i64 n1, .bool (decide ((60 : Int) < (n1 : Int))), .bool (decide ((60 : Int) < (n1 : Int))), .bool (decide ((60 : Int) < (n1 : Int))), .slice g2 n2 k2, .int .i64 n2, .bool (decide ((60 : Int) < (n2 : Int))), .bool (decide ((60 : Int) < (n1 : Int)) || decide ((60 : Int) < (n2 : Int))), undef, .tuple #[.bool Q, .int .i64 QE], .agg #[.int .i64 R, .slice g M c, .int .i64 x, .int .i64 y], .slice g1 n1 k1, .tuple #[.bool Q, .int .i64 QE], .bool Q, .int .i64 QE, .tuple #[.bool Q, .int .i64 QE], .agg #[.int .i64 R, .slice g M c, .int .i64 x, .int .i64 y], .slice g1 n1 k1, .tuple #[.bool Q, .int .i64 QE], .bool Q, .int .i64 QE, .tuple #[.int .i64 A, .int .i64 AE], .agg #[.int .i64 R, .slice g M c, .int .i64 x, .int .i64 y], .slice g1 n1 k1, .tuple #[.int .i64 A, .int .i64 AE], .int .i64 A, .int .i64 AE, .tuple #[.int .i64 A, .int .i64 AE], .agg #[.int .i64 R, .slice g M c, .int .i64 x, .int .i64 y], .slice g1 n1 k1, .tuple #[.int .i64 A, .int .i64 AE], .int .i64 A, .int .i64 AE, .tuple #[.bool F, .int .i64 FE], .agg #[.int .i64 R, .slice g M c, .int .i64 x, .int .i64 y], .slice g2 n2 k2, .tuple #[.bool F, .int .i64 FE], .bool F, .int .i64 FE, .tuple #[.bool F, .int .i64 FE], .agg #[.int .i64 R, .slice g M c, .int .i64 x, .int .i64 y], .slice g2 n2 k2, .tuple #[.bool F, .int .i64 FE], .bool F, .int .i64 FE, .tuple #[.int .i64 V, .int .i64 VE], .agg #[.int .i64 R, .slice g M c, .int .i64 x, .int .i64 y], .slice g2 n2 k2, .tuple #[.int .i64 V, .int .i64 VE], .int .i64 V, .int .i64 VE, .tuple #[.int .i64 V, .int .i64 VE], .agg #[.int .i64 R, .slice g M c, .int .i64 x, .int .i64 y], .slice g2 n2 k2, .tuple #[.int .i64 V, .int .i64 VE], .int .i64 V, .int .i64 VE, .slice g1 n1 k1, .slice g2 n2 k2, .agg #[.slice g1 n1 k1, .slice g2 n2 k2], .bool Q, .bool Q, .bool false, .bool false, .int .i64 QE, .int .i64 QE, .bool false, .bool false, .bool false, .int .i64 A, .int .i64 A, .bool false, .bool false, .bool false, .int .i64 AE, .int .i64 AE, .bool false, .bool false, .bool false, .bool F, .bool F, .bool false, .bool false, .bool false, .int .i64 FE, .int .i64 FE, .bool false, .bool false, .bool false, .int .i64 V, .int .i64 V, .bool false, .bool false, .bool false, .int .i64 VE, .int .i64 VE, .bool false, .bool false, .bool false, .agg #[.int .i64 R, .slice g M c, .int .i64 x, .int .i64 y], .agg #[.slice g1 n1 k1, .slice g2 n2 k2], .bool P, .agg #[.int .i64 R, .slice g M c, .int .i64 x, .int .i64 y], .agg #[.slice g1 n1 k1, .slice g2 n2 k2], undef, undef, undef, undef, undef, undef, undef, undef, undef, undef, undef, undef, undef, undef, undef, undef, undef], defers := [] } w') := by
    refine ⟨?_⟩
    intro w' hw
    refine wpAnyH_ready (rs := [44]) (by rw [hops]; kernel_rfl) (by simp) ?_
    refine AllReadyH.cons (o := { dst := some 133, op := Go.Op.call { callee := Go.Callee.value (Go.Operand.func 30), args := #[Go.Operand.tmp 131, Go.Operand.tmp 132], argTypes := #[24, 37] }, type := 4, pos := "law.go:99", after := #[{ on := 42, ground := Go.Ground.data }, { on := 43, ground := Go.Ground.data }, { on := 41, ground := Go.Ground.chain }, { on := 38, ground := Go.Ground.guard }], guard := some (38, false) }) (by rw [hops]; kernel_rfl) (fun K hK => ?_) ?_
    · rw [if_pos (by rw [hops]; kernel_rfl)]
      go_simp
      refine (HP2.out _ (HB10.out.trans (hw.mono HB10.out.size))).mono ?_
      rintro en w5 ⟨rfl, hb5⟩
      exact hK.out _ _ (hw.trans (hb5.mono hw.size)) (fun hwn => S0_1_2_3_4_5_6_7_8_9_10_11_12_13_14_15_16_17_18_19_20_21_22_23_24_25_26_27_28_29_30_31_32_33_34_35_36_37_38_39_40_41_42_43_44.out w5 hwn )
    exact AllReadyH.nil
  have S : Kp (∀ (w' : World), Below W10.heap.size W10 w' → wpAnyH Try.prog .any ops Qp (fun w' => Below W10.heap.size W10 w') 47 #[false, false, false, false, false, false, false, false, false, false, false, false, false, false, false, false, false, false, false, false, false, false, false, false, false, false, false, false, false, false, false, false, false, false, false, false, false, false, false, false, false, false, false, false, false, false, false] { tmps := #[.agg #[.int .i64 R, .slice g M c, .int .i64 x, .int .i64 y], .slice g1 n1 k1, .slice g2 n2 k2, .pointer (some ⟨w.heap.size, 0, none⟩), undef, undef, .bool false, .bool Q, .int .i64 QE, .bool Q, .int .i64 QE, .int .i64 A, .int .i64 AE, .int .i64 A, .int .i64 AE, .bool F, .int .i64 FE, .bool F, .int .i64 FE, .int .i64 V, .int .i64 VE, .int .i64 V, .int .i64 VE, .pointer (some ⟨D, 0, none⟩), .agg #[.int .i64 R, .slice g M c, .int .i64 x, .int .i64 y], .bool true, .bool false, .bool false, .slice g1 n1 k1, .int .i64 n1, .bool (decide ((60 : Int) < (n1 : Int))), .bool (decide ((60 : Int) < (n1 : Int))), .bool (decide ((60 : Int) < (n1 : Int))), .slice g2 n2 k2, .int .i64 n2, .bool (decide ((60 : Int) < (n2 : Int))), .bool (decide ((60 : Int) < (n1 : Int)) || decide ((60 : Int) < (n2 : Int))), undef, .tuple #[.bool Q, .int .i64 QE], .agg #[.int .i64 R, .slice g M c, .int .i64 x, .int .i64 y], .slice g1 n1 k1, .tuple #[.bool Q, .int .i64 QE], .bool Q, .int .i64 QE, .tuple #[.bool Q, .int .i64 QE], .agg #[.int .i64 R, .slice g M c, .int .i64 x, .int .i64 y], .slice g1 n1 k1, .tuple #[.bool Q, .int .i64 QE], .bool Q, .int .i64 QE, .tuple #[.int .i64 A, .int .i64 AE], .agg #[.int .i64 R, .slice g M c, .int .i64 x, .int .i64 y], .slice g1 n1 k1, .tuple #[.int .i64 A, .int .i64 AE], .int .i64 A, .int .i64 AE, .tuple #[.int .i64 A, .int .i64 AE], .agg #[.int .i64 R, .slice g M c, .int .i64 x, .int .i64 y], .slice g1 n1 k1, .tuple #[.int .i64 A, .int .i64 AE], .int .i64 A, .int .i64 AE, .tuple #[.bool F, .int .i64 FE], .agg #[.int .i64 R, .slice g M c, .int .i64 x, .int .i64 y], .slice g2 n2 k2, .tuple #[.bool F, .int .i64 FE], .bool F, .int .i64 FE, .tuple #[.bool F, .int .i64 FE], .agg #[.int .i64 R, .slice g M c, .int .i64 x, .int .i64 y], .slice g2 n2 k2, .tuple #[.bool F, .int .i64 FE], .bool F, .int .i64 FE, .tuple #[.int .i64 V, .int .i64 VE], .agg #[.int .i64 R, .slice g M c, .int .i64 x, .int .i64 y], .slice g2 n2 k2, .tuple #[.int .i64 V, .int .i64 VE], .int .i64 V, .int .i64 VE, .tuple #[.int .i64 V, .int .i64 VE], .agg #[.int .i64 R, .slice g M c, .int .i64 x, .int .i64 y], .slice g2 n2 k2, .tuple #[.int .i64 V, .int .i64 VE], .int .i64 V, .int .i64 VE, .slice g1 n1 k1, .slice g2 n2 k2, .agg #[.slice g1 n1 k1, .slice g2 n2 k2], undef, undef, undef, undef, undef, undef, undef, undef, undef, undef, undef, undef, undef, undef, undef, undef, undef, undef, undef, undef, undef, undef, undef, undef, undef, undef, undef, undef, undef, undef, undef, undef, undef, undef, undef, undef, undef, undef, undef, undef, undef, undef, undef, undef, undef, undef, undef, undef, undef, undef, undef, undef, undef, undef, undef, undef, undef, undef, undef, undef, undef], defers := [] } w') := by
    refine ⟨?_⟩
    intro w' hw
    refine wpAnyH_take (i := 0) (oi := { dst := some 89, op := Go.Op.move (Go.Operand.tmp 7), type := 4, pos := "law.go:99", after := #[], guard := none }) (v := .bool Q) (by rw [hops]; kernel_rfl) (by rw [hops]; kernel_rfl) (by rw [hops]; kernel_rfl) (by rw [hops]; kernel_rfl) (fun c a w h => HQP.out c a _ _ w h) (Or.inl ⟨by rw [hops]; kernel_rfl, by intro w _; go_simp⟩) hw ?_
    simp only [Act.put, List.setIfInBounds_toArray, List.set_cons_zero, List.set_cons_succ]
    refine wpAnyH_take (i := 1) (oi := { dst := some 90, op := Go.Op.move (Go.Operand.tmp 9), type := 4, pos := "law.go:99", after := #[], guard := none }) (v := .bool Q) (by rw [hops]; kernel_rfl) (by rw [hops]; kernel_rfl) (by rw [hops]; kernel_rfl) (by rw [hops]; kernel_rfl) (fun c a w h => HQP.out c a _ _ w h) (Or.inl ⟨by rw [hops]; kernel_rfl, by intro w _; go_simp⟩) hw ?_
    simp only [Act.put, List.setIfInBounds_toArray, List.set_cons_zero, List.set_cons_succ]
    refine wpAnyH_take (i := 2) (oi := { dst := some 91, op := Go.Op.binOp Go.BinOp.neq 4 (Go.Operand.tmp 89) (Go.Operand.tmp 90) 4, type := 4, pos := "law.go:99", after := #[{ on := 0, ground := Go.Ground.data }, { on := 1, ground := Go.Ground.data }], guard := none }) (v := .bool false) (by rw [hops]; kernel_rfl) (by rw [hops]; kernel_rfl) (by rw [hops]; kernel_rfl) (by rw [hops]; kernel_rfl) (fun c a w h => HQP.out c a _ _ w h) (Or.inl ⟨by rw [hops]; kernel_rfl, by intro w _; go_simp⟩) hw ?_
    simp only [Act.put, List.setIfInBounds_toArray, List.set_cons_zero, List.set_cons_succ]
    refine wpAnyH_take (i := 3) (oi := { dst := some 92, op := Go.Op.move (Go.Operand.tmp 91), type := 4, pos := "law.go:99", after := #[{ on := 2, ground := Go.Ground.data }], guard := none }) (v := .bool false) (by rw [hops]; kernel_rfl) (by rw [hops]; kernel_rfl) (by rw [hops]; kernel_rfl) (by rw [hops]; kernel_rfl) (fun c a w h => HQP.out c a _ _ w h) (Or.inl ⟨by rw [hops]; kernel_rfl, by intro w _; go_simp⟩) hw ?_
    simp only [Act.put, List.setIfInBounds_toArray, List.set_cons_zero, List.set_cons_succ]
    refine wpAnyH_take (i := 4) (oi := { dst := some 93, op := Go.Op.move (Go.Operand.tmp 8), type := 28, pos := "law.go:99", after := #[{ on := 3, ground := Go.Ground.guard }], guard := some (3, false) }) (v := .int .i64 QE) (by rw [hops]; kernel_rfl) (by rw [hops]; kernel_rfl) (by rw [hops]; kernel_rfl) (by rw [hops]; kernel_rfl) (fun c a w h => HQP.out c a _ _ w h) (Or.inl ⟨by rw [hops]; kernel_rfl, by intro w _; go_simp⟩) hw ?_
    simp only [Act.put, List.setIfInBounds_toArray, List.set_cons_zero, List.set_cons_succ]
    refine wpAnyH_take (i := 5) (oi := { dst := some 94, op := Go.Op.move (Go.Operand.tmp 10), type := 28, pos := "law.go:99", after := #[{ on := 3, ground := Go.Ground.guard }], guard := some (3, false) }) (v := .int .i64 QE) (by rw [hops]; kernel_rfl) (by rw [hops]; kernel_rfl) (by rw [hops]; kernel_rfl) (by rw [hops]; kernel_rfl) (fun c a w h => HQP.out c a _ _ w h) (Or.inl ⟨by rw [hops]; kernel_rfl, by intro w _; go_simp⟩) hw ?_
    simp only [Act.put, List.setIfInBounds_toArray, List.set_cons_zero, List.set_cons_succ]
    refine wpAnyH_take (i := 6) (oi := { dst := some 95, op := Go.Op.binOp Go.BinOp.neq 28 (Go.Operand.tmp 93) (Go.Operand.tmp 94) 28, type := 4, pos := "law.go:99", after := #[{ on := 4, ground := Go.Ground.data }, { on := 5, ground := Go.Ground.data }, { on := 3, ground := Go.Ground.guard }], guard := some (3, false) }) (v := .bool false) (by rw [hops]; kernel_rfl) (by rw [hops]; kernel_rfl) (by rw [hops]; kernel_rfl) (by rw [hops]; kernel_rfl) (fun c a w h => HQP.out c a _ _ w h) (Or.inl ⟨by rw [hops]; kernel_rfl, by intro w _; go_simp⟩) hw ?_
    simp only [Act.put, List.setIfInBounds_toArray, List.set_cons_zero, List.set_cons_succ]
    refine wpAnyH_take (i := 7) (oi := { dst := some 96, op := Go.Op.pick (Go.Operand.tmp 92) (Go.Operand.const (Go.Value.bool true)) (Go.Operand.tmp 95), type := 4, pos := "law.go:99", after := #[{ on := 3, ground := Go.Ground.data }, { on := 6, ground := Go.Ground.data }], guard := none }) (v := .bool false) (by rw [hops]; kernel_rfl) (by rw [hops]; kernel_rfl) (by rw [hops]; kernel_rfl) (by rw [hops]; kernel_rfl) (fun c a w h => HQP.out c a _ _ w h) (Or.inl ⟨by rw [hops]; kernel_rfl, by intro w _; go_simp⟩) hw ?_
    simp only [Act.put, List.setIfInBounds_toArray, List.set_cons_zero, List.set_cons_succ]
    refine wpAnyH_take (i := 8) (oi := { dst := some 97, op := Go.Op.move (Go.Operand.tmp 96), type := 4, pos := "law.go:99", after := #[{ on := 7, ground := Go.Ground.data }, { on := 3, ground := Go.Ground.chain }], guard := none }) (v := .bool false) (by rw [hops]; kernel_rfl) (by rw [hops]; kernel_rfl) (by rw [hops]; kernel_rfl) (by rw [hops]; kernel_rfl) (fun c a w h => HQP.out c a _ _ w h) (Or.inl ⟨by rw [hops]; kernel_rfl, by intro w _; go_simp⟩) hw ?_
    simp only [Act.put, List.setIfInBounds_toArray, List.set_cons_zero, List.set_cons_succ]
    refine wpAnyH_take (i := 9) (oi := { dst := some 98, op := Go.Op.move (Go.Operand.tmp 11), type := 3, pos := "law.go:99", after := #[{ on := 8, ground := Go.Ground.guard }], guard := some (8, false) }) (v := .int .i64 A) (by rw [hops]; kernel_rfl) (by rw [hops]; kernel_rfl) (by rw [hops]; kernel_rfl) (by rw [hops]; kernel_rfl) (fun c a w h => HQP.out c a _ _ w h) (Or.inl ⟨by rw [hops]; kernel_rfl, by intro w _; go_simp⟩) hw ?_
    simp only [Act.put, List.setIfInBounds_toArray, List.set_cons_zero, List.set_cons_succ]
    refine wpAnyH_take (i := 10) (oi := { dst := some 99, op := Go.Op.move (Go.Operand.tmp 13), type := 3, pos := "law.go:99", after := #[{ on := 8, ground := Go.Ground.guard }], guard := some (8, false) }) (v := .int .i64 A) (by rw [hops]; kernel_rfl) (by rw [hops]; kernel_rfl) (by rw [hops]; kernel_rfl) (by rw [hops]; kernel_rfl) (fun c a w h => HQP.out c a _ _ w h) (Or.inl ⟨by rw [hops]; kernel_rfl, by intro w _; go_simp⟩) hw ?_
    simp only [Act.put, List.setIfInBounds_toArray, List.set_cons_zero, List.set_cons_succ]
    refine wpAnyH_take (i := 11) (oi := { dst := some 100, op := Go.Op.binOp Go.BinOp.neq 3 (Go.Operand.tmp 98) (Go.Operand.tmp 99) 3, type := 4, pos := "law.go:99", after := #[{ on := 9, ground := Go.Ground.data }, { on := 10, ground := Go.Ground.data }, { on := 8, ground := Go.Ground.guard }], guard := some (8, false) }) (v := .bool false) (by rw [hops]; kernel_rfl) (by rw [hops]; kernel_rfl) (by rw [hops]; kernel_rfl) (by rw [hops]; kernel_rfl) (fun c a w h => HQP.out c a _ _ w h) (Or.inl ⟨by rw [hops]; kernel_rfl, by intro w _; go_simp⟩) hw ?_
    simp only [Act.put, List.setIfInBounds_toArray, List.set_cons_zero, List.set_cons_succ]
    refine wpAnyH_take (i := 12) (oi := { dst := some 101, op := Go.Op.pick (Go.Operand.tmp 97) (Go.Operand.const (Go.Value.bool true)) (Go.Operand.tmp 100), type := 4, pos := "law.go:99", after := #[{ on := 8, ground := Go.Ground.data }, { on := 11, ground := Go.Ground.data }], guard := none }) (v := .bool false) (by rw [hops]; kernel_rfl) (by rw [hops]; kernel_rfl) (by rw [hops]; kernel_rfl) (by rw [hops]; kernel_rfl) (fun c a w h => HQP.out c a _ _ w h) (Or.inl ⟨by rw [hops]; kernel_rfl, by intro w _; go_simp⟩) hw ?_
    simp only [Act.put, List.setIfInBounds_toArray, List.set_cons_zero, List.set_cons_succ]
    refine wpAnyH_take (i := 13) (oi := { dst := some 102, op := Go.Op.move (Go.Operand.tmp 101), type := 4, pos := "law.go:99", after := #[{ on := 12, ground := Go.Ground.data }, { on := 8, ground := Go.Ground.chain }], guard := none }) (v := .bool false) (by rw [hops]; kernel_rfl) (by rw [hops]; kernel_rfl) (by rw [hops]; kernel_rfl) (by rw [hops]; kernel_rfl) (fun c a w h => HQP.out c a _ _ w h) (Or.inl ⟨by rw [hops]; kernel_rfl, by intro w _; go_simp⟩) hw ?_
    simp only [Act.put, List.setIfInBounds_toArray, List.set_cons_zero, List.set_cons_succ]
    refine wpAnyH_take (i := 14) (oi := { dst := some 103, op := Go.Op.move (Go.Operand.tmp 12), type := 28, pos := "law.go:99", after := #[{ on := 13, ground := Go.Ground.guard }], guard := some (13, false) }) (v := .int .i64 AE) (by rw [hops]; kernel_rfl) (by rw [hops]; kernel_rfl) (by rw [hops]; kernel_rfl) (by rw [hops]; kernel_rfl) (fun c a w h => HQP.out c a _ _ w h) (Or.inl ⟨by rw [hops]; kernel_rfl, by intro w _; go_simp⟩) hw ?_
    simp only [Act.put, List.setIfInBounds_toArray, List.set_cons_zero, List.set_cons_succ]
    refine wpAnyH_take (i := 15) (oi := { dst := some 104, op := Go.Op.move (Go.Operand.tmp 14), type := 28, pos := "law.go:99", after := #[{ on := 13, ground := Go.Ground.guard }], guard := some (13, false) }) (v := .int .i64 AE) (by rw [hops]; kernel_rfl) (by rw [hops]; kernel_rfl) (by rw [hops]; kernel_rfl) (by rw [hops]; kernel_rfl) (fun c a w h => HQP.out c a _ _ w h) (Or.inl ⟨by rw [hops]; kernel_rfl, by intro w _; go_simp⟩) hw ?_
    simp only [Act.put, List.setIfInBounds_toArray, List.set_cons_zero, List.set_cons_succ]
    refine wpAnyH_take (i := 16) (oi := { dst := some 105, op := Go.Op.binOp Go.BinOp.neq 28 (Go.Operand.tmp 103) (Go.Operand.tmp 104) 28, type := 4, pos := "law.go:99", after := #[{ on := 14, ground := Go.Ground.data }, { on := 15, ground := Go.Ground.data }, { on := 13, ground := Go.Ground.guard }], guard := some (13, false) }) (v := .bool false) (by rw [hops]; kernel_rfl) (by rw [hops]; kernel_rfl) (by rw [hops]; kernel_rfl) (by rw [hops]; kernel_rfl) (fun c a w h => HQP.out c a _ _ w h) (Or.inl ⟨by rw [hops]; kernel_rfl, by intro w _; go_simp⟩) hw ?_
    simp only [Act.put, List.setIfInBounds_toArray, List.set_cons_zero, List.set_cons_succ]
    refine wpAnyH_take (i := 17) (oi := { dst := some 106, op := Go.Op.pick (Go.Operand.tmp 102) (Go.Operand.const (Go.Value.bool true)) (Go.Operand.tmp 105), type := 4, pos := "law.go:99", after := #[{ on := 13, ground := Go.Ground.data }, { on := 16, ground := Go.Ground.data }], guard := none }) (v := .bool false) (by rw [hops]; kernel_rfl) (by rw [hops]; kernel_rfl) (by rw [hops]; kernel_rfl) (by rw [hops]; kernel_rfl) (fun c a w h => HQP.out c a _ _ w h) (Or.inl ⟨by rw [hops]; kernel_rfl, by intro w _; go_simp⟩) hw ?_
    simp only [Act.put, List.setIfInBounds_toArray, List.set_cons_zero, List.set_cons_succ]
    refine wpAnyH_take (i := 18) (oi := { dst := some 107, op := Go.Op.move (Go.Operand.tmp 106), type := 4, pos := "law.go:99", after := #[{ on := 17, ground := Go.Ground.data }, { on := 13, ground := Go.Ground.chain }], guard := none }) (v := .bool false) (by rw [hops]; kernel_rfl) (by rw [hops]; kernel_rfl) (by rw [hops]; kernel_rfl) (by rw [hops]; kernel_rfl) (fun c a w h => HQP.out c a _ _ w h) (Or.inl ⟨by rw [hops]; kernel_rfl, by intro w _; go_simp⟩) hw ?_
    simp only [Act.put, List.setIfInBounds_toArray, List.set_cons_zero, List.set_cons_succ]
    refine wpAnyH_take (i := 19) (oi := { dst := some 108, op := Go.Op.move (Go.Operand.tmp 15), type := 4, pos := "law.go:99", after := #[{ on := 18, ground := Go.Ground.guard }], guard := some (18, false) }) (v := .bool F) (by rw [hops]; kernel_rfl) (by rw [hops]; kernel_rfl) (by rw [hops]; kernel_rfl) (by rw [hops]; kernel_rfl) (fun c a w h => HQP.out c a _ _ w h) (Or.inl ⟨by rw [hops]; kernel_rfl, by intro w _; go_simp⟩) hw ?_
    simp only [Act.put, List.setIfInBounds_toArray, List.set_cons_zero, List.set_cons_succ]
    refine wpAnyH_take (i := 20) (oi := { dst := some 109, op := Go.Op.move (Go.Operand.tmp 17), type := 4, pos := "law.go:99", after := #[{ on := 18, ground := Go.Ground.guard }], guard := some (18, false) }) (v := .bool F) (by rw [hops]; kernel_rfl) (by rw [hops]; kernel_rfl) (by rw [hops]; kernel_rfl) (by rw [hops]; kernel_rfl) (fun c a w h => HQP.out c a _ _ w h) (Or.inl ⟨by rw [hops]; kernel_rfl, by intro w _; go_simp⟩) hw ?_
    simp only [Act.put, List.setIfInBounds_toArray, List.set_cons_zero, List.set_cons_succ]
    refine wpAnyH_take (i := 21) (oi := { dst := some 110, op := Go.Op.binOp Go.BinOp.neq 4 (Go.Operand.tmp 108) (Go.Operand.tmp 109) 4, type := 4, pos := "law.go:99", after := #[{ on := 19, ground := Go.Ground.data }, { on := 20, ground := Go.Ground.data }, { on := 18, ground := Go.Ground.guard }], guard := some (18, false) }) (v := .bool false) (by rw [hops]; kernel_rfl) (by rw [hops]; kernel_rfl) (by rw [hops]; kernel_rfl) (by rw [hops]; kernel_rfl) (fun c a w h => HQP.out c a _ _ w h) (Or.inl ⟨by rw [hops]; kernel_rfl, by intro w _; go_simp⟩) hw ?_
    simp only [Act.put, List.setIfInBounds_toArray, List.set_cons_zero, List.set_cons_succ]
    refine wpAnyH_take (i := 22) (oi := { dst := some 111, op := Go.Op.pick (Go.Operand.tmp 107) (Go.Operand.const (Go.Value.bool true)) (Go.Operand.tmp 110), type := 4, pos := "law.go:99", after := #[{ on := 18, ground := Go.Ground.data }, { on := 21, ground := Go.Ground.data }], guard := none }) (v := .bool false) (by rw [hops]; kernel_rfl) (by rw [hops]; kernel_rfl) (by rw [hops]; kernel_rfl) (by rw [hops]; kernel_rfl) (fun c a w h => HQP.out c a _ _ w h) (Or.inl ⟨by rw [hops]; kernel_rfl, by intro w _; go_simp⟩) hw ?_
    simp only [Act.put, List.setIfInBounds_toArray, List.set_cons_zero, List.set_cons_succ]
    refine wpAnyH_take (i := 23) (oi := { dst := some 112, op := Go.Op.move (Go.Operand.tmp 111), type := 4, pos := "law.go:99", after := #[{ on := 22, ground := Go.Ground.data }, { on := 18, ground := Go.Ground.chain }], guard := none }) (v := .bool false) (by rw [hops]; kernel_rfl) (by rw [hops]; kernel_rfl) (by rw [hops]; kernel_rfl) (by rw [hops]; kernel_rfl) (fun c a w h => HQP.out c a _ _ w h) (Or.inl ⟨by rw [hops]; kernel_rfl, by intro w _; go_simp⟩) hw ?_
    simp only [Act.put, List.setIfInBounds_toArray, List.set_cons_zero, List.set_cons_succ]
    refine wpAnyH_take (i := 24) (oi := { dst := some 113, op := Go.Op.move (Go.Operand.tmp 16), type := 28, pos := "law.go:99", after := #[{ on := 23, ground := Go.Ground.guard }], guard := some (23, false) }) (v := .int .i64 FE) (by rw [hops]; kernel_rfl) (by rw [hops]; kernel_rfl) (by rw [hops]; kernel_rfl) (by rw [hops]; kernel_rfl) (fun c a w h => HQP.out c a _ _ w h) (Or.inl ⟨by rw [hops]; kernel_rfl, by intro w _; go_simp⟩) hw ?_
    simp only [Act.put, List.setIfInBounds_toArray, List.set_cons_zero, List.set_cons_succ]
    refine wpAnyH_take (i := 25) (oi := { dst := some 114, op := Go.Op.move (Go.Operand.tmp 18), type := 28, pos := "law.go:99", after := #[{ on := 23, ground := Go.Ground.guard }], guard := some (23, false) }) (v := .int .i64 FE) (by rw [hops]; kernel_rfl) (by rw [hops]; kernel_rfl) (by rw [hops]; kernel_rfl) (by rw [hops]; kernel_rfl) (fun c a w h => HQP.out c a _ _ w h) (Or.inl ⟨by rw [hops]; kernel_rfl, by intro w _; go_simp⟩) hw ?_
    simp only [Act.put, List.setIfInBounds_toArray, List.set_cons_zero, List.set_cons_succ]
    refine wpAnyH_take (i := 26) (oi := { dst := some 115, op := Go.Op.binOp Go.BinOp.neq 28 (Go.Operand.tmp 113) (Go.Operand.tmp 114) 28, type := 4, pos := "law.go:99", after := #[{ on := 24, ground := Go.Ground.data }, { on := 25, ground := Go.Ground.data }, { on := 23, ground := Go.Ground.guard }], guard := some (23, false) }) (v := .bool false) (by rw [hops]; kernel_rfl) (by rw [hops]; kernel_rfl) (by rw [hops]; kernel_rfl) (by rw [hops]; kernel_rfl) (fun c a w h => HQP.out c a _ _ w h) (Or.inl ⟨by rw [hops]; kernel_rfl, by intro w _; go_simp⟩) hw ?_
    simp only [Act.put, List.setIfInBounds_toArray, List.set_cons_zero, List.set_cons_succ]
    refine wpAnyH_take (i := 27) (oi := { dst := some 116, op := Go.Op.pick (Go.Operand.tmp 112) (Go.Operand.const (Go.Value.bool true)) (Go.Operand.tmp 115), type := 4, pos := "law.go:99", after := #[{ on := 23, ground := Go.Ground.data }, { on := 26, ground := Go.Ground.data }], guard := none }) (v := .bool false) (by rw [hops]; kernel_rfl) (by rw [hops]; kernel_rfl) (by rw [hops]; kernel_rfl) (by rw [hops]; kernel_rfl) (fun c a w h => HQP.out c a _ _ w h) (Or.inl ⟨by rw [hops]; kernel_rfl, by intro w _; go_simp⟩) hw ?_
    simp only [Act.put, List.setIfInBounds_toArray, List.set_cons_zero, List.set_cons_succ]
    refine wpAnyH_take (i := 28) (oi := { dst := some 117, op := Go.Op.move (Go.Operand.tmp 116), type := 4, pos := "law.go:99", after := #[{ on := 27, ground := Go.Ground.data }, { on := 23, ground := Go.Ground.chain }], guard := none }) (v := .bool false) (by rw [hops]; kernel_rfl) (by rw [hops]; kernel_rfl) (by rw [hops]; kernel_rfl) (by rw [hops]; kernel_rfl) (fun c a w h => HQP.out c a _ _ w h) (Or.inl ⟨by rw [hops]; kernel_rfl, by intro w _; go_simp⟩) hw ?_
    simp only [Act.put, List.setIfInBounds_toArray, List.set_cons_zero, List.set_cons_succ]
    refine wpAnyH_take (i := 29) (oi := { dst := some 118, op := Go.Op.move (Go.Operand.tmp 19), type := 3, pos := "law.go:99", after := #[{ on := 28, ground := Go.Ground.guard }], guard := some (28, false) }) (v := .int .i64 V) (by rw [hops]; kernel_rfl) (by rw [hops]; kernel_rfl) (by rw [hops]; kernel_rfl) (by rw [hops]; kernel_rfl) (fun c a w h => HQP.out c a _ _ w h) (Or.inl ⟨by rw [hops]; kernel_rfl, by intro w _; go_simp⟩) hw ?_
    simp only [Act.put, List.setIfInBounds_toArray, List.set_cons_zero, List.set_cons_succ]
    refine wpAnyH_take (i := 30) (oi := { dst := some 119, op := Go.Op.move (Go.Operand.tmp 21), type := 3, pos := "law.go:99", after := #[{ on := 28, ground := Go.Ground.guard }], guard := some (28, false) }) (v := .int .i64 V) (by rw [hops]; kernel_rfl) (by rw [hops]; kernel_rfl) (by rw [hops]; kernel_rfl) (by rw [hops]; kernel_rfl) (fun c a w h => HQP.out c a _ _ w h) (Or.inl ⟨by rw [hops]; kernel_rfl, by intro w _; go_simp⟩) hw ?_
    simp only [Act.put, List.setIfInBounds_toArray, List.set_cons_zero, List.set_cons_succ]
    refine wpAnyH_take (i := 31) (oi := { dst := some 120, op := Go.Op.binOp Go.BinOp.neq 3 (Go.Operand.tmp 118) (Go.Operand.tmp 119) 3, type := 4, pos := "law.go:99", after := #[{ on := 29, ground := Go.Ground.data }, { on := 30, ground := Go.Ground.data }, { on := 28, ground := Go.Ground.guard }], guard := some (28, false) }) (v := .bool false) (by rw [hops]; kernel_rfl) (by rw [hops]; kernel_rfl) (by rw [hops]; kernel_rfl) (by rw [hops]; kernel_rfl) (fun c a w h => HQP.out c a _ _ w h) (Or.inl ⟨by rw [hops]; kernel_rfl, by intro w _; go_simp⟩) hw ?_
    simp only [Act.put, List.setIfInBounds_toArray, List.set_cons_zero, List.set_cons_succ]
    refine wpAnyH_take (i := 32) (oi := { dst := some 121, op := Go.Op.pick (Go.Operand.tmp 117) (Go.Operand.const (Go.Value.bool true)) (Go.Operand.tmp 120), type := 4, pos := "law.go:99", after := #[{ on := 28, ground := Go.Ground.data }, { on := 31, ground := Go.Ground.data }], guard := none }) (v := .bool false) (by rw [hops]; kernel_rfl) (by rw [hops]; kernel_rfl) (by rw [hops]; kernel_rfl) (by rw [hops]; kernel_rfl) (fun c a w h => HQP.out c a _ _ w h) (Or.inl ⟨by rw [hops]; kernel_rfl, by intro w _; go_simp⟩) hw ?_
    simp only [Act.put, List.setIfInBounds_toArray, List.set_cons_zero, List.set_cons_succ]
    refine wpAnyH_take (i := 33) (oi := { dst := some 122, op := Go.Op.move (Go.Operand.tmp 121), type := 4, pos := "law.go:99", after := #[{ on := 32, ground := Go.Ground.data }, { on := 28, ground := Go.Ground.chain }], guard := none }) (v := .bool false) (by rw [hops]; kernel_rfl) (by rw [hops]; kernel_rfl) (by rw [hops]; kernel_rfl) (by rw [hops]; kernel_rfl) (fun c a w h => HQP.out c a _ _ w h) (Or.inl ⟨by rw [hops]; kernel_rfl, by intro w _; go_simp⟩) hw ?_
    simp only [Act.put, List.setIfInBounds_toArray, List.set_cons_zero, List.set_cons_succ]
    refine wpAnyH_take (i := 34) (oi := { dst := some 123, op := Go.Op.move (Go.Operand.tmp 20), type := 28, pos := "law.go:99", after := #[{ on := 33, ground := Go.Ground.guard }], guard := some (33, false) }) (v := .int .i64 VE) (by rw [hops]; kernel_rfl) (by rw [hops]; kernel_rfl) (by rw [hops]; kernel_rfl) (by rw [hops]; kernel_rfl) (fun c a w h => HQP.out c a _ _ w h) (Or.inl ⟨by rw [hops]; kernel_rfl, by intro w _; go_simp⟩) hw ?_
    simp only [Act.put, List.setIfInBounds_toArray, List.set_cons_zero, List.set_cons_succ]
    refine wpAnyH_take (i := 35) (oi := { dst := some 124, op := Go.Op.move (Go.Operand.tmp 22), type := 28, pos := "law.go:99", after := #[{ on := 33, ground := Go.Ground.guard }], guard := some (33, false) }) (v := .int .i64 VE) (by rw [hops]; kernel_rfl) (by rw [hops]; kernel_rfl) (by rw [hops]; kernel_rfl) (by rw [hops]; kernel_rfl) (fun c a w h => HQP.out c a _ _ w h) (Or.inl ⟨by rw [hops]; kernel_rfl, by intro w _; go_simp⟩) hw ?_
    simp only [Act.put, List.setIfInBounds_toArray, List.set_cons_zero, List.set_cons_succ]
    refine wpAnyH_take (i := 36) (oi := { dst := some 125, op := Go.Op.binOp Go.BinOp.neq 28 (Go.Operand.tmp 123) (Go.Operand.tmp 124) 28, type := 4, pos := "law.go:99", after := #[{ on := 34, ground := Go.Ground.data }, { on := 35, ground := Go.Ground.data }, { on := 33, ground := Go.Ground.guard }], guard := some (33, false) }) (v := .bool false) (by rw [hops]; kernel_rfl) (by rw [hops]; kernel_rfl) (by rw [hops]; kernel_rfl) (by rw [hops]; kernel_rfl) (fun c a w h => HQP.out c a _ _ w h) (Or.inl ⟨by rw [hops]; kernel_rfl, by intro w _; go_simp⟩) hw ?_
    simp only [Act.put, List.setIfInBounds_toArray, List.set_cons_zero, List.set_cons_succ]
    refine wpAnyH_take (i := 37) (oi := { dst := some 126, op := Go.Op.pick (Go.Operand.tmp 122) (Go.Operand.const (Go.Value.bool true)) (Go.Operand.tmp 125), type := 4, pos := "law.go:99", after := #[{ on := 33, ground := Go.Ground.data }, { on := 36, ground := Go.Ground.data }], guard := none }) (v := .bool false) (by rw [hops]; kernel_rfl) (by rw [hops]; kernel_rfl) (by rw [hops]; kernel_rfl) (by rw [hops]; kernel_rfl) (fun c a w h => HQP.out c a _ _ w h) (Or.inl ⟨by rw [hops]; kernel_rfl, by intro w _; go_simp⟩) hw ?_
    simp only [Act.put, List.setIfInBounds_toArray, List.set_cons_zero, List.set_cons_succ]
    refine wpAnyH_take (i := 38) (oi := { dst := some 127, op := Go.Op.move (Go.Operand.tmp 126), type := 4, pos := "law.go:99", after := #[{ on := 37, ground := Go.Ground.data }, { on := 33, ground := Go.Ground.chain }], guard := none }) (v := .bool false) (by rw [hops]; kernel_rfl) (by rw [hops]; kernel_rfl) (by rw [hops]; kernel_rfl) (by rw [hops]; kernel_rfl) (fun c a w h => HQP.out c a _ _ w h) (Or.inl ⟨by rw [hops]; kernel_rfl, by intro w _; go_simp⟩) hw ?_
    simp only [Act.put, List.setIfInBounds_toArray, List.set_cons_zero, List.set_cons_succ]
    refine wpAnyH_take (i := 39) (oi := { dst := some 128, op := Go.Op.load 24 (Go.Operand.tmp 3), type := 24, pos := "law.go:99", after := #[{ on := 38, ground := Go.Ground.guard }], guard := some (38, false) }) (v := .agg #[.int .i64 R, .slice g M c, .int .i64 x, .int .i64 y]) (by rw [hops]; kernel_rfl) (by rw [hops]; kernel_rfl) (by rw [hops]; kernel_rfl) (by rw [hops]; kernel_rfl) (fun c a w h => HQP.out c a _ _ w h) (Or.inl ⟨by rw [hops]; kernel_rfl, by intro w hwS; obtain ⟨q0, q1, q2, q3, p0, p1⟩ := HALL.out w hwS; go_simp⟩) hw ?_
    simp only [Act.put, List.setIfInBounds_toArray, List.set_cons_zero, List.set_cons_succ]
    refine wpAnyH_take (i := 40) (oi := { dst := some 129, op := Go.Op.load 37 (Go.Operand.tmp 23), type := 37, pos := "law.go:99", after := #[{ on := 38, ground := Go.Ground.guard }], guard := some (38, false) }) (v := .agg #[.slice g1 n1 k1, .slice g2 n2 k2]) (by rw [hops]; kernel_rfl) (by rw [hops]; kernel_rfl) (by rw [hops]; kernel_rfl) (by rw [hops]; kernel_rfl) (fun c a w h => HQP.out c a _ _ w h) (Or.inl ⟨by rw [hops]; kernel_rfl, by intro w hwS; obtain ⟨q0, q1, q2, q3, p0, p1⟩ := HALL.out w hwS; go_simp⟩) hw ?_
    simp only [Act.put, List.setIfInBounds_toArray, List.set_cons_zero, List.set_cons_succ]
    refine wpAnyH_take (i := 42) (oi := { dst := some 131, op := Go.Op.load 24 (Go.Operand.tmp 3), type := 24, pos := "law.go:99", after := #[{ on := 38, ground := Go.Ground.guard }], guard := some (38, false) }) (v := .agg #[.int .i64 R, .slice g M c, .int .i64 x, .int .i64 y]) (by rw [hops]; kernel_rfl) (by rw [hops]; kernel_rfl) (by rw [hops]; kernel_rfl) (by rw [hops]; kernel_rfl) (fun c a w h => HQP.out c a _ _ w h) (Or.inl ⟨by rw [hops]; kernel_rfl, by intro w hwS; obtain ⟨q0, q1, q2, q3, p0, p1⟩ := HALL.out w hwS; go_simp⟩) hw ?_
    simp only [Act.put, List.setIfInBounds_toArray, List.set_cons_zero, List.set_cons_succ]
    refine wpAnyH_take (i := 43) (oi := { dst := some 132, op := Go.Op.load 37 (Go.Operand.tmp 23), type := 37, pos := "law.go:99", after := #[{ on := 38, ground := Go.Ground.guard }], guard := some (38, false) }) (v := .agg #[.slice g1 n1 k1, .slice g2 n2 k2]) (by rw [hops]; kernel_rfl) (by rw [hops]; kernel_rfl) (by rw [hops]; kernel_rfl) (by rw [hops]; kernel_rfl) (fun c a w h => HQP.out c a _ _ w h) (Or.inl ⟨by rw [hops]; kernel_rfl, by intro w hwS; obtain ⟨q0, q1, q2, q3, p0, p1⟩ := HALL.out w hwS; go_simp⟩) hw ?_
    simp only [Act.put, List.setIfInBounds_toArray, List.set_cons_zero, List.set_cons_succ]
    refine wpAnyH_ready (rs := [41]) (by rw [hops]; kernel_rfl) (by simp) ?_
    refine AllReadyH.cons (o := { dst := some 130, op := Go.Op.call { callee := Go.Callee.value (Go.Operand.func 29), args := #[Go.Operand.tmp 128, Go.Operand.tmp 129], argTypes := #[24, 37] }, type := 4, pos := "law.go:99", after := #[{ on := 39, ground := Go.Ground.data }, { on := 40, ground := Go.Ground.data }, { on := 38, ground := Go.Ground.chain }, { on := 38, ground := Go.Ground.guard }], guard := some (38, false) }) (by rw [hops]; kernel_rfl) (fun K hK => ?_) ?_
    · rw [if_pos (by rw [hops]; kernel_rfl)]
      go_simp
      refine (HP1.out _ (HB10.out.trans (hw.mono HB10.out.size))).mono ?_
      rintro en w5 ⟨rfl, hb5⟩
      exact hK.out _ _ (hw.trans (hb5.mono hw.size)) (fun hwn => S0_1_2_3_4_5_6_7_8_9_10_11_12_13_14_15_16_17_18_19_20_21_22_23_24_25_26_27_28_29_30_31_32_33_34_35_36_37_38_39_40_41_42_43.out w5 hwn )
    exact AllReadyH.nil
  have hsz : ops.size = 47 := by rw [hops]; rfl
  refine wp_region_held_drew (S := fun w' => Below W10.heap.size W10 w') (by kernel_rfl) (Below.drew (Below.refl _ _)) (fun hw0 => ?_)
  rw [hsz]
  exact S.out _ hw0
theorem law_cuts (R x y : Int) (v u1 u2 : Value) (ds : List Dr) (sl am : List Int) (w : World) (hv : DS w v ds) (hl : ds.length ≤ 9223372036854775807) (hu1 : IS w u1 sl) (hsl : sl.length ≤ 9223372036854775807) (hu2 : IS w u2 am) (hal : am.length ≤ 9223372036854775807) :
    Calls Try.prog 5 #[.agg #[.int .i64 R, v, .int .i64 x, .int .i64 y], u1, u2] w fun e w' => e = .returned (.bool true) ∧ Below w.heap.size w w' := by
  obtain ⟨g, c, rfl⟩ := hv.shape
  obtain ⟨g1, k1, rfl⟩ := hu1.shape
  obtain ⟨g2, k2, rfl⟩ := hu2.shape
  by_cases h : ds.length ≤ 50 ∧ sl.length ≤ 60 ∧ am.length ≤ 60
  · obtain ⟨h1, h2, h3⟩ := h
    have hs2 : sl.length ≤ 9223372036854775806 := by omega
    have ha2 : am.length ≤ 9223372036854775806 := by omega
    refine cuts_in R x y g ds.length c g1 sl.length k1 g2 am.length k2 w (if askE R ds x y sl = 0 then bits .and .i64 (comesT ds x sl : Nat) y == 0 else false) (if amtE R ds x y am = 0 then flowB ds am x y else false) (provB R ds x y sl am) (askE R ds x y sl) (if askE R ds x y sl = 0 then costF ds sl sl.length else 0) (askE R ds x y sl) (amtE R ds x y am) (if amtE R ds x y am = 0 then (if flowB ds am x y then valT ds am x else 0) else 0) (if amtE R ds x y am = 0 then (if flowB ds am x y then 0 else 9) else amtE R ds x y am) h1 h2 h3
      ⟨fun W hW => ?_⟩ ⟨fun W hW => ?_⟩ ⟨fun W hW => ?_⟩ ⟨fun W hW => ?_⟩ ⟨fun W hW => ?_⟩ ⟨fun W hW => ?_⟩ ⟨fun W hW => ?_⟩ ⟨fun W hW => ?_⟩
      ⟨fun W hW => Proves_any R x y _ _ _ ds sl am W (hv.below hW) hl (hu1.below hW) hsl (hu2.below hW) hal⟩
      ⟨fun W hW => rProves_any R x y _ _ _ ds sl am W (hv.below hW) hl (hu1.below hW) hs2 (hu2.below hW) ha2⟩ ⟨fun hq hve => ?_⟩
    · rw [← boolE_val]; exact Cuts_any R x y _ _ ds sl W (hv.below hW) hl (hu1.below hW) hsl
    · rw [← boolE_val]; exact rCuts_any R x y _ _ ds sl W (hv.below hW) hl (hu1.below hW) hs2
    · rw [← numE_val]; exact Cost_any R x y _ _ ds sl W (hv.below hW) hl (hu1.below hW) hsl
    · rw [← numE_val]; exact rCost_any R x y _ _ ds sl W (hv.below hW) hl (hu1.below hW) hs2
    · rw [← boolE_val]; exact Flow_any R x y _ _ ds am W (hv.below hW) hl (hu2.below hW) hal
    · rw [← boolE_val]; exact rFlow_any R x y _ _ ds am W (hv.below hW) hl (hu2.below hW) ha2
    · rw [← valE_val]; exact Value_any R x y _ _ ds am W (hv.below hW) hl (hu2.below hW) hal
    · rw [← valE_val]; exact rValue_any R x y _ _ ds am W (hv.below hW) hl (hu2.below hW) ha2
    · by_cases hA : askE R ds x y sl = 0
      · rw [if_pos hA] at hq ⊢
        by_cases hB : amtE R ds x y am = 0
        · rw [if_pos hB] at hve ⊢
          cases hF : flowB ds am x y with
          | false => rw [hF] at hve; exact absurd hve (by decide)
          | true =>
            rw [if_pos rfl]
            exact weak_dual hA hB (by simpa using hq) hF
        · rw [if_neg hB] at hve
          exact absurd hve hB
      · rw [if_neg hA] at hq
        cases hq
  · exact cuts_out R x y g ds.length c g1 sl.length k1 g2 am.length k2 w h
end Go.Proofs.Ythkamfjjfkpekaa.Pe
