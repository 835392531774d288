/-
  WALKS (layer 8, pest): the law PestTraps.
-/
import Derived.Test.YthkamfjjfkpekaaPeAwake
import Derived.Test.YthkamfjjfkpekaaPeRefM
import Derived.Test.YthkamfjjfkpekaaPeOwnT
namespace Go.Proofs.Ythkamfjjfkpekaa.Pe
open Go Go.RowKit Go.Proofs Go.Sort

theorem fitT_any (R x y : Int) (g : Option Addr) (M c : Nat) (w : World) : Calls Try.prog 11 #[.agg #[.int .i64 R, .slice g M c, .int .i64 x, .int .i64 y]] w fun e w' => e = .returned (.bool (decide (M ≤ 50))) ∧ Below w.heap.size w w' := by
  by_cases h : M ≤ 50
  · have h1 : decide ((M : Int) ≤ 50) = true := decide_eq_true (by omega)
    have HD : Kp (decide (M ≤ 50) = true) := ⟨decide_eq_true h⟩
    clear h
    go_enter Try.func11, Try.ntmps11
    go_wp2
    go_ret
    exact ⟨by rw [HD.out]; rfl, by repeat (first | exact Below.refl _ _ | refine Below.alloc ?_ (by simp <;> omega) _ | refine bDrewN ?_ _ | refine Below.drew ?_)⟩
  · have h1 : decide ((M : Int) ≤ 50) = false := decide_eq_false (by omega)
    have HD : Kp (decide (M ≤ 50) = false) := ⟨decide_eq_false h⟩
    clear h
    go_enter Try.func11, Try.ntmps11
    go_wp2
    go_ret
    exact ⟨by rw [HD.out]; rfl, by repeat (first | exact Below.refl _ _ | refine Below.alloc ?_ (by simp <;> omega) _ | refine bDrewN ?_ _ | refine Below.drew ?_)⟩
set_option maxRecDepth 100000 in
set_option maxHeartbeats 2000000 in
theorem traps_out (R x y begin days : Int) (g : Option Addr) (M c : Nat) (gt : Option Addr) (N ct : Nat) (w : World) (h : ¬ (M ≤ 50 ∧ (N ≤ 30 ∨ 100 < N ∧ N ≤ 110))) :
    Calls Try.prog 9 #[.agg #[.int .i64 R, .slice g M c, .int .i64 x, .int .i64 y], .slice gt N ct, .int .i64 begin, .int .i64 days] w fun e w' => e = .returned (.bool true) ∧ Below w.heap.size w w' := by
  have HAW := Kp.mk (fun W => awake_any W)
  have HFT := Kp.mk (fun W => fitT_any R x y g M c W)
  by_cases h1 : M ≤ 50
  · have e1 : decide (M ≤ 50) = true := decide_eq_true h1
    rw [e1] at HFT
    by_cases h2 : N ≤ 100
    · have e2 : (30 : Int) < (N : Int) := by omega
      have e3 : (N : Int) ≤ 100 := by omega
      clear h e1 h1 h2
      go_enter Try.func9, Try.ntmps9
      go_wp2_with fail
      refine (HFT.out _).mono ?_
      rintro en w0 ⟨rfl, hb0⟩
      have HB0 : Kp (Below w.heap.size w w0) := ⟨Below.trans (by repeat (first | exact Below.refl _ _ | refine Below.alloc ?_ (by simp <;> omega) _ | refine bDrewN ?_ _ | refine Below.drew ?_)) (hb0.mono (by simp <;> omega))⟩
      clear hb0
      go_wp2_with fail
      refine (HAW.out _).mono ?_
      rintro en w9 ⟨rfl, hb9⟩
      have HB9 := Kp.mk (HB0.out.trans (hb9.mono HB0.out.size))
      clear hb9
      go_wp2
      go_ret
      exact ⟨rfl, HB9.out⟩
    · have e2 : (30 : Int) < (N : Int) := by omega
      have e3 : ¬ (N : Int) ≤ 100 := by omega
      have e4 : (110 : Int) < (N : Int) := by omega
      clear h e1 h1 h2
      go_enter Try.func9, Try.ntmps9
      go_wp2_with fail
      refine (HFT.out _).mono ?_
      rintro en w0 ⟨rfl, hb0⟩
      have HB0 : Kp (Below w.heap.size w w0) := ⟨Below.trans (by repeat (first | exact Below.refl _ _ | refine Below.alloc ?_ (by simp <;> omega) _ | refine bDrewN ?_ _ | refine Below.drew ?_)) (hb0.mono (by simp <;> omega))⟩
      clear hb0
      go_wp2_with fail
      refine (HAW.out _).mono ?_
      rintro en w9 ⟨rfl, hb9⟩
      have HB9 := Kp.mk (HB0.out.trans (hb9.mono HB0.out.size))
      clear hb9
      go_wp2
      go_ret
      exact ⟨rfl, HB9.out⟩
  · have e1 : decide (M ≤ 50) = false := decide_eq_false h1
    rw [e1] at HFT
    clear h e1 h1
    go_enter Try.func9, Try.ntmps9
    go_wp2_with fail
    refine (HFT.out _).mono ?_
    rintro en w0 ⟨rfl, hb0⟩
    have HB0 : Kp (Below w.heap.size w w0) := ⟨Below.trans (by repeat (first | exact Below.refl _ _ | refine Below.alloc ?_ (by simp <;> omega) _ | refine bDrewN ?_ _ | refine Below.drew ?_)) (hb0.mono (by simp <;> omega))⟩
    clear hb0
    go_wp2_with fail
    refine (HAW.out _).mono ?_
    rintro en w9 ⟨rfl, hb9⟩
    have HB9 := Kp.mk (HB0.out.trans (hb9.mono HB0.out.size))
    clear hb9
    go_wp2
    go_ret
    exact ⟨rfl, HB9.out⟩
set_option maxRecDepth 100000 in
set_option maxHeartbeats 4000000 in
theorem traps_dull_a (R x y begin days : Int) (g : Option Addr) (M c : Nat) (gt : Option Addr) (N ct : Nat) (w : World) (Q V : Bool) (QE LE : Int) (L : List Int) (h1 : M ≤ 50) (h2 : N ≤ 30) (h3 : V = false ∨ days < 0 ∨ 5 < days)
    (HF1 : Kp (∀ W, Below w.heap.size w W → Calls Try.prog 40 #[.agg #[.int .i64 R, .slice g M c, .int .i64 x, .int .i64 y], .slice gt N ct, .int .i64 begin] W fun e w' => e = .returned (.tuple #[.bool Q, .int .i64 QE]) ∧ Below W.heap.size W w'))
    (HF2 : Kp (∀ W, Below w.heap.size w W → Calls Try.prog 41 #[.agg #[.int .i64 R, .slice g M c, .int .i64 x, .int .i64 y], .slice gt N ct, .int .i64 begin] W fun e w' => e = .returned (.tuple #[.bool Q, .int .i64 QE]) ∧ Below W.heap.size W w'))
    (HG1 : Kp (∀ W, Below w.heap.size w W → Calls Try.prog 42 #[.agg #[.int .i64 R, .slice g M c, .int .i64 x, .int .i64 y], .slice gt N ct] W fun e w' => ∃ r, e = .returned (.tuple #[r, .int .i64 LE]) ∧ IS w' r L ∧ Below W.heap.size W w'))
    (HG2 : Kp (∀ W, Below w.heap.size w W → Calls Try.prog 43 #[.agg #[.int .i64 R, .slice g M c, .int .i64 x, .int .i64 y], .slice gt N ct] W fun e w' => ∃ r, e = .returned (.tuple #[r, .int .i64 LE]) ∧ IS w' r L ∧ Below W.heap.size W w'))
    (HSI : Kp (∀ W v u, IS W v L → IS W u L → Calls Try.prog 39 #[v, u] W fun e w' => e = .returned (.bool true) ∧ Below W.heap.size W w'))
    (HVA : Kp (∀ W, Below w.heap.size w W → Calls Try.prog 19 #[.agg #[.int .i64 R, .slice g M c, .int .i64 x, .int .i64 y]] W fun e w' => e = .returned (.bool V) ∧ Below W.heap.size W w')) :
    Calls Try.prog 9 #[.agg #[.int .i64 R, .slice g M c, .int .i64 x, .int .i64 y], .slice gt N ct, .int .i64 begin, .int .i64 days] w fun e w' => e = .returned (.bool true) ∧ Below w.heap.size w w' := by
  have HAW := Kp.mk (fun W => awake_any W)
  have HFT := Kp.mk (fun W => fitT_any R x y g M c W)
  rw [decide_eq_true h1] at HFT
  have e2 : ¬ (30 : Int) < (N : Int) := by omega
  have e4 : ¬ (110 : Int) < (N : Int) := by omega
  go_enter Try.func9, Try.ntmps9
  go_wp2_with fail
  refine (HFT.out _).mono ?_
  rintro en w1 ⟨rfl, hb1⟩
  have HB1 : Kp (Below w.heap.size w w1) := ⟨Below.trans (by repeat (first | refine Below.alloc ?_ (by (try simp) <;> omega) _ | refine bDrewN ?_ _ | refine Below.drew ?_ | refine Below.setCell ?_ (by (try simp) <;> omega) _ | exact Below.refl _ _)) (hb1.mono (by (try simp) <;> omega))⟩
  have hz1_0 : w.heap.size < w1.heap.size := by have := hb1.size; (try simp at this); omega
  obtain ⟨hc, hf⟩ := bcell hb1
  have c1_0_0 : w1.cell? ⟨w.heap.size, 0, none⟩ = some (.int .i64 R) := (hc _ _ (by (try simp) <;> omega)).trans (by go_simp)
  have c1_0_1 : w1.cell? ⟨w.heap.size, 1, none⟩ = some ((.slice g M c)) := (hc _ _ (by (try simp) <;> omega)).trans (by go_simp)
  have c1_0_2 : w1.cell? ⟨w.heap.size, 2, none⟩ = some (.int .i64 x) := (hc _ _ (by (try simp) <;> omega)).trans (by go_simp)
  have c1_0_3 : w1.cell? ⟨w.heap.size, 3, none⟩ = some (.int .i64 y) := (hc _ _ (by (try simp) <;> omega)).trans (by go_simp)
  have z1_0 : ∀ j, w1.frozen? ⟨w.heap.size, j, none⟩ = false := fun j => (hf _ _ (by (try simp) <;> omega)).trans (by go_simp)
  clear hc hf hb1
  go_wp2_with fail
  refine (HF1.out _ HB1.out).mono ?_
  rintro en w2 ⟨rfl, hb2⟩
  have HB2 : Kp (Below w.heap.size w w2) := ⟨Below.trans (by repeat (first | refine Below.alloc ?_ (by have := HB1.out.size; (try simp) <;> omega) _ | refine bDrewN ?_ _ | refine Below.drew ?_ | refine Below.setCell ?_ (by have := HB1.out.size; (try simp) <;> omega) _ | exact HB1.out)) (hb2.mono (by have := HB1.out.size; (try simp) <;> omega))⟩
  have hz2_0 : w.heap.size < w2.heap.size := by have := hb2.size; (try simp at this); omega
  obtain ⟨hc, hf⟩ := bcell hb2
  have c2_0_0 : w2.cell? ⟨w.heap.size, 0, none⟩ = some (.int .i64 R) := (hc _ _ (by (try simp) <;> omega)).trans (by go_simp)
  have c2_0_1 : w2.cell? ⟨w.heap.size, 1, none⟩ = some ((.slice g M c)) := (hc _ _ (by (try simp) <;> omega)).trans (by go_simp)
  have c2_0_2 : w2.cell? ⟨w.heap.size, 2, none⟩ = some (.int .i64 x) := (hc _ _ (by (try simp) <;> omega)).trans (by go_simp)
  have c2_0_3 : w2.cell? ⟨w.heap.size, 3, none⟩ = some (.int .i64 y) := (hc _ _ (by (try simp) <;> omega)).trans (by go_simp)
  have z2_0 : ∀ j, w2.frozen? ⟨w.heap.size, j, none⟩ = false := fun j => (hf _ _ (by (try simp) <;> omega)).trans (by go_simp)
  clear hc hf hb2 c1_0_0 c1_0_1 c1_0_2 c1_0_3 z1_0
  go_wp2_with fail
  refine (HF2.out _ HB2.out).mono ?_
  rintro en w3 ⟨rfl, hb3⟩
  have HB3 : Kp (Below w.heap.size w w3) := ⟨Below.trans (by repeat (first | refine Below.alloc ?_ (by have := HB2.out.size; (try simp) <;> omega) _ | refine bDrewN ?_ _ | refine Below.drew ?_ | refine Below.setCell ?_ (by have := HB2.out.size; (try simp) <;> omega) _ | exact HB2.out)) (hb3.mono (by have := HB2.out.size; (try simp) <;> omega))⟩
  have hz3_0 : w.heap.size < w3.heap.size := by have := hb3.size; (try simp at this); omega
  obtain ⟨hc, hf⟩ := bcell hb3
  have c3_0_0 : w3.cell? ⟨w.heap.size, 0, none⟩ = some (.int .i64 R) := (hc _ _ (by (try simp) <;> omega)).trans (by go_simp)
  have c3_0_1 : w3.cell? ⟨w.heap.size, 1, none⟩ = some ((.slice g M c)) := (hc _ _ (by (try simp) <;> omega)).trans (by go_simp)
  have c3_0_2 : w3.cell? ⟨w.heap.size, 2, none⟩ = some (.int .i64 x) := (hc _ _ (by (try simp) <;> omega)).trans (by go_simp)
  have c3_0_3 : w3.cell? ⟨w.heap.size, 3, none⟩ = some (.int .i64 y) := (hc _ _ (by (try simp) <;> omega)).trans (by go_simp)
  have z3_0 : ∀ j, w3.frozen? ⟨w.heap.size, j, none⟩ = false := fun j => (hf _ _ (by (try simp) <;> omega)).trans (by go_simp)
  clear hc hf hb3 c2_0_0 c2_0_1 c2_0_2 c2_0_3 z2_0
  go_wp2_with fail
  refine (HG1.out _ HB3.out).mono ?_
  rintro en w4 ⟨r1, rfl, hr1, hb4⟩
  have HB4 : Kp (Below w.heap.size w w4) := ⟨Below.trans (by repeat (first | refine Below.alloc ?_ (by have := HB3.out.size; (try simp) <;> omega) _ | refine bDrewN ?_ _ | refine Below.drew ?_ | refine Below.setCell ?_ (by have := HB3.out.size; (try simp) <;> omega) _ | exact HB3.out)) (hb4.mono (by have := HB3.out.size; (try simp) <;> omega))⟩
  have hz4_0 : w.heap.size < w4.heap.size := by have := hb4.size; (try simp at this); omega
  obtain ⟨hc, hf⟩ := bcell hb4
  have c4_0_0 : w4.cell? ⟨w.heap.size, 0, none⟩ = some (.int .i64 R) := (hc _ _ (by (try simp) <;> omega)).trans (by go_simp)
  have c4_0_1 : w4.cell? ⟨w.heap.size, 1, none⟩ = some ((.slice g M c)) := (hc _ _ (by (try simp) <;> omega)).trans (by go_simp)
  have c4_0_2 : w4.cell? ⟨w.heap.size, 2, none⟩ = some (.int .i64 x) := (hc _ _ (by (try simp) <;> omega)).trans (by go_simp)
  have c4_0_3 : w4.cell? ⟨w.heap.size, 3, none⟩ = some (.int .i64 y) := (hc _ _ (by (try simp) <;> omega)).trans (by go_simp)
  have z4_0 : ∀ j, w4.frozen? ⟨w.heap.size, j, none⟩ = false := fun j => (hf _ _ (by (try simp) <;> omega)).trans (by go_simp)
  clear hc hf hb4 c3_0_0 c3_0_1 c3_0_2 c3_0_3 z3_0
  go_wp2_with fail
  refine (HG2.out _ HB4.out).mono ?_
  rintro en w5 ⟨r2, rfl, hr2, hb5⟩
  have HR1 := Kp.mk (hr1.below hb5)
  have HR2 := Kp.mk hr2
  clear hr1 hr2
  have HB5 : Kp (Below w.heap.size w w5) := ⟨Below.trans (by repeat (first | refine Below.alloc ?_ (by have := HB4.out.size; (try simp) <;> omega) _ | refine bDrewN ?_ _ | refine Below.drew ?_ | refine Below.setCell ?_ (by have := HB4.out.size; (try simp) <;> omega) _ | exact HB4.out)) (hb5.mono (by have := HB4.out.size; (try simp) <;> omega))⟩
  have hz5_0 : w.heap.size < w5.heap.size := by have := hb5.size; (try simp at this); omega
  obtain ⟨hc, hf⟩ := bcell hb5
  have c5_0_0 : w5.cell? ⟨w.heap.size, 0, none⟩ = some (.int .i64 R) := (hc _ _ (by (try simp) <;> omega)).trans (by go_simp)
  have c5_0_1 : w5.cell? ⟨w.heap.size, 1, none⟩ = some ((.slice g M c)) := (hc _ _ (by (try simp) <;> omega)).trans (by go_simp)
  have c5_0_2 : w5.cell? ⟨w.heap.size, 2, none⟩ = some (.int .i64 x) := (hc _ _ (by (try simp) <;> omega)).trans (by go_simp)
  have c5_0_3 : w5.cell? ⟨w.heap.size, 3, none⟩ = some (.int .i64 y) := (hc _ _ (by (try simp) <;> omega)).trans (by go_simp)
  have z5_0 : ∀ j, w5.frozen? ⟨w.heap.size, j, none⟩ = false := fun j => (hf _ _ (by (try simp) <;> omega)).trans (by go_simp)
  clear hc hf hb5 c4_0_0 c4_0_1 c4_0_2 c4_0_3 z4_0
  go_wp2_with fail
  refine (HSI.out _ _ _ HR1.out HR2.out).mono ?_
  rintro en w6 ⟨rfl, hb6⟩
  have HB6 : Kp (Below w.heap.size w w6) := ⟨Below.trans (by repeat (first | refine Below.alloc ?_ (by have := HB5.out.size; (try simp) <;> omega) _ | refine bDrewN ?_ _ | refine Below.drew ?_ | refine Below.setCell ?_ (by have := HB5.out.size; (try simp) <;> omega) _ | exact HB5.out)) (hb6.mono (by have := HB5.out.size; (try simp) <;> omega))⟩
  have hz6_0 : w.heap.size < w6.heap.size := by have := hb6.size; (try simp at this); omega
  obtain ⟨hc, hf⟩ := bcell hb6
  have c6_0_0 : w6.cell? ⟨w.heap.size, 0, none⟩ = some (.int .i64 R) := (hc _ _ (by (try simp) <;> omega)).trans (by go_simp)
  have c6_0_1 : w6.cell? ⟨w.heap.size, 1, none⟩ = some ((.slice g M c)) := (hc _ _ (by (try simp) <;> omega)).trans (by go_simp)
  have c6_0_2 : w6.cell? ⟨w.heap.size, 2, none⟩ = some (.int .i64 x) := (hc _ _ (by (try simp) <;> omega)).trans (by go_simp)
  have c6_0_3 : w6.cell? ⟨w.heap.size, 3, none⟩ = some (.int .i64 y) := (hc _ _ (by (try simp) <;> omega)).trans (by go_simp)
  have z6_0 : ∀ j, w6.frozen? ⟨w.heap.size, j, none⟩ = false := fun j => (hf _ _ (by (try simp) <;> omega)).trans (by go_simp)
  clear hc hf hb6 c5_0_0 c5_0_1 c5_0_2 c5_0_3 z5_0
  clear HR1 HR2
  go_wp2_with fail
  refine (HVA.out _ HB6.out).mono ?_
  rintro en w7 ⟨rfl, hb7⟩
  have HB7 : Kp (Below w.heap.size w w7) := ⟨Below.trans (by repeat (first | refine Below.alloc ?_ (by have := HB6.out.size; (try simp) <;> omega) _ | refine bDrewN ?_ _ | refine Below.drew ?_ | refine Below.setCell ?_ (by have := HB6.out.size; (try simp) <;> omega) _ | exact HB6.out)) (hb7.mono (by have := HB6.out.size; (try simp) <;> omega))⟩
  have hz7_0 : w.heap.size < w7.heap.size := by have := hb7.size; (try simp at this); omega
  obtain ⟨hc, hf⟩ := bcell hb7
  have c7_0_0 : w7.cell? ⟨w.heap.size, 0, none⟩ = some (.int .i64 R) := (hc _ _ (by (try simp) <;> omega)).trans (by go_simp)
  have c7_0_1 : w7.cell? ⟨w.heap.size, 1, none⟩ = some ((.slice g M c)) := (hc _ _ (by (try simp) <;> omega)).trans (by go_simp)
  have c7_0_2 : w7.cell? ⟨w.heap.size, 2, none⟩ = some (.int .i64 x) := (hc _ _ (by (try simp) <;> omega)).trans (by go_simp)
  have c7_0_3 : w7.cell? ⟨w.heap.size, 3, none⟩ = some (.int .i64 y) := (hc _ _ (by (try simp) <;> omega)).trans (by go_simp)
  have z7_0 : ∀ j, w7.frozen? ⟨w.heap.size, j, none⟩ = false := fun j => (hf _ _ (by (try simp) <;> omega)).trans (by go_simp)
  clear hc hf hb7 c6_0_0 c6_0_1 c6_0_2 c6_0_3 z6_0
  cases V with
  | false =>
    clear h3
    go_wp2_with fail
    refine (HAW.out _).mono ?_
    rintro en w9 ⟨rfl, hb9⟩
    have HB9 := Kp.mk (HB7.out.trans (hb9.mono HB7.out.size))
    clear hb9
    go_wp2
    go_ret
    exact ⟨rfl, HB9.out⟩
  | true =>
    by_cases h4 : days < 0
    · clear h3
      go_wp2_with fail
      refine (HAW.out _).mono ?_
      rintro en w9 ⟨rfl, hb9⟩
      have HB9 := Kp.mk (HB7.out.trans (hb9.mono HB7.out.size))
      clear hb9
      go_wp2
      go_ret
      exact ⟨rfl, HB9.out⟩
    · have h5 : 5 < days := by
        rcases h3 with h3 | h3 | h3
        · cases h3
        · exact absurd h3 h4
        · exact h3
      clear h3
      go_wp2_with fail
      refine (HAW.out _).mono ?_
      rintro en w9 ⟨rfl, hb9⟩
      have HB9 := Kp.mk (HB7.out.trans (hb9.mono HB7.out.size))
      clear hb9
      go_wp2
      go_ret
      exact ⟨rfl, HB9.out⟩
set_option maxRecDepth 100000 in
set_option maxHeartbeats 4000000 in
theorem traps_dull_b (R x y begin days : Int) (g : Option Addr) (M c : Nat) (gt : Option Addr) (N ct : Nat) (w : World) (Q V : Bool) (QE LE : Int) (L : List Int) (h1 : M ≤ 50) (h2 : 100 < N ∧ N ≤ 110) (h3 : V = false ∨ days < 0 ∨ 5 < days)
    (HF1 : Kp (∀ W, Below w.heap.size w W → Calls Try.prog 40 #[.agg #[.int .i64 R, .slice g M c, .int .i64 x, .int .i64 y], .slice gt N ct, .int .i64 begin] W fun e w' => e = .returned (.tuple #[.bool Q, .int .i64 QE]) ∧ Below W.heap.size W w'))
    (HF2 : Kp (∀ W, Below w.heap.size w W → Calls Try.prog 41 #[.agg #[.int .i64 R, .slice g M c, .int .i64 x, .int .i64 y], .slice gt N ct, .int .i64 begin] W fun e w' => e = .returned (.tuple #[.bool Q, .int .i64 QE]) ∧ Below W.heap.size W w'))
    (HG1 : Kp (∀ W, Below w.heap.size w W → Calls Try.prog 42 #[.agg #[.int .i64 R, .slice g M c, .int .i64 x, .int .i64 y], .slice gt N ct] W fun e w' => ∃ r, e = .returned (.tuple #[r, .int .i64 LE]) ∧ IS w' r L ∧ Below W.heap.size W w'))
    (HG2 : Kp (∀ W, Below w.heap.size w W → Calls Try.prog 43 #[.agg #[.int .i64 R, .slice g M c, .int .i64 x, .int .i64 y], .slice gt N ct] W fun e w' => ∃ r, e = .returned (.tuple #[r, .int .i64 LE]) ∧ IS w' r L ∧ Below W.heap.size W w'))
    (HSI : Kp (∀ W v u, IS W v L → IS W u L → Calls Try.prog 39 #[v, u] W fun e w' => e = .returned (.bool true) ∧ Below W.heap.size W w'))
    (HVA : Kp (∀ W, Below w.heap.size w W → Calls Try.prog 19 #[.agg #[.int .i64 R, .slice g M c, .int .i64 x, .int .i64 y]] W fun e w' => e = .returned (.bool V) ∧ Below W.heap.size W w')) :
    Calls Try.prog 9 #[.agg #[.int .i64 R, .slice g M c, .int .i64 x, .int .i64 y], .slice gt N ct, .int .i64 begin, .int .i64 days] w fun e w' => e = .returned (.bool true) ∧ Below w.heap.size w w' := by
  have HAW := Kp.mk (fun W => awake_any W)
  have HFT := Kp.mk (fun W => fitT_any R x y g M c W)
  rw [decide_eq_true h1] at HFT
  have e2 : (30 : Int) < (N : Int) := by omega
  have e3 : ¬ (N : Int) ≤ 100 := by omega
  have e4 : ¬ (110 : Int) < (N : Int) := by omega
  go_enter Try.func9, Try.ntmps9
  go_wp2_with fail
  refine (HFT.out _).mono ?_
  rintro en w1 ⟨rfl, hb1⟩
  have HB1 : Kp (Below w.heap.size w w1) := ⟨Below.trans (by repeat (first | refine Below.alloc ?_ (by (try simp) <;> omega) _ | refine bDrewN ?_ _ | refine Below.drew ?_ | refine Below.setCell ?_ (by (try simp) <;> omega) _ | exact Below.refl _ _)) (hb1.mono (by (try simp) <;> omega))⟩
  have hz1_0 : w.heap.size < w1.heap.size := by have := hb1.size; (try simp at this); omega
  obtain ⟨hc, hf⟩ := bcell hb1
  have c1_0_0 : w1.cell? ⟨w.heap.size, 0, none⟩ = some (.int .i64 R) := (hc _ _ (by (try simp) <;> omega)).trans (by go_simp)
  have c1_0_1 : w1.cell? ⟨w.heap.size, 1, none⟩ = some ((.slice g M c)) := (hc _ _ (by (try simp) <;> omega)).trans (by go_simp)
  have c1_0_2 : w1.cell? ⟨w.heap.size, 2, none⟩ = some (.int .i64 x) := (hc _ _ (by (try simp) <;> omega)).trans (by go_simp)
  have c1_0_3 : w1.cell? ⟨w.heap.size, 3, none⟩ = some (.int .i64 y) := (hc _ _ (by (try simp) <;> omega)).trans (by go_simp)
  have z1_0 : ∀ j, w1.frozen? ⟨w.heap.size, j, none⟩ = false := fun j => (hf _ _ (by (try simp) <;> omega)).trans (by go_simp)
  clear hc hf hb1
  go_wp2_with fail
  refine (HF1.out _ HB1.out).mono ?_
  rintro en w2 ⟨rfl, hb2⟩
  have HB2 : Kp (Below w.heap.size w w2) := ⟨Below.trans (by repeat (first | refine Below.alloc ?_ (by have := HB1.out.size; (try simp) <;> omega) _ | refine bDrewN ?_ _ | refine Below.drew ?_ | refine Below.setCell ?_ (by have := HB1.out.size; (try simp) <;> omega) _ | exact HB1.out)) (hb2.mono (by have := HB1.out.size; (try simp) <;> omega))⟩
  have hz2_0 : w.heap.size < w2.heap.size := by have := hb2.size; (try simp at this); omega
  obtain ⟨hc, hf⟩ := bcell hb2
  have c2_0_0 : w2.cell? ⟨w.heap.size, 0, none⟩ = some (.int .i64 R) := (hc _ _ (by (try simp) <;> omega)).trans (by go_simp)
  have c2_0_1 : w2.cell? ⟨w.heap.size, 1, none⟩ = some ((.slice g M c)) := (hc _ _ (by (try simp) <;> omega)).trans (by go_simp)
  have c2_0_2 : w2.cell? ⟨w.heap.size, 2, none⟩ = some (.int .i64 x) := (hc _ _ (by (try simp) <;> omega)).trans (by go_simp)
  have c2_0_3 : w2.cell? ⟨w.heap.size, 3, none⟩ = some (.int .i64 y) := (hc _ _ (by (try simp) <;> omega)).trans (by go_simp)
  have z2_0 : ∀ j, w2.frozen? ⟨w.heap.size, j, none⟩ = false := fun j => (hf _ _ (by (try simp) <;> omega)).trans (by go_simp)
  clear hc hf hb2 c1_0_0 c1_0_1 c1_0_2 c1_0_3 z1_0
  go_wp2_with fail
  refine (HF2.out _ HB2.out).mono ?_
  rintro en w3 ⟨rfl, hb3⟩
  have HB3 : Kp (Below w.heap.size w w3) := ⟨Below.trans (by repeat (first | refine Below.alloc ?_ (by have := HB2.out.size; (try simp) <;> omega) _ | refine bDrewN ?_ _ | refine Below.drew ?_ | refine Below.setCell ?_ (by have := HB2.out.size; (try simp) <;> omega) _ | exact HB2.out)) (hb3.mono (by have := HB2.out.size; (try simp) <;> omega))⟩
  have hz3_0 : w.heap.size < w3.heap.size := by have := hb3.size; (try simp at this); omega
  obtain ⟨hc, hf⟩ := bcell hb3
  have c3_0_0 : w3.cell? ⟨w.heap.size, 0, none⟩ = some (.int .i64 R) := (hc _ _ (by (try simp) <;> omega)).trans (by go_simp)
  have c3_0_1 : w3.cell? ⟨w.heap.size, 1, none⟩ = some ((.slice g M c)) := (hc _ _ (by (try simp) <;> omega)).trans (by go_simp)
  have c3_0_2 : w3.cell? ⟨w.heap.size, 2, none⟩ = some (.int .i64 x) := (hc _ _ (by (try simp) <;> omega)).trans (by go_simp)
  have c3_0_3 : w3.cell? ⟨w.heap.size, 3, none⟩ = some (.int .i64 y) := (hc _ _ (by (try simp) <;> omega)).trans (by go_simp)
  have z3_0 : ∀ j, w3.frozen? ⟨w.heap.size, j, none⟩ = false := fun j => (hf _ _ (by (try simp) <;> omega)).trans (by go_simp)
  clear hc hf hb3 c2_0_0 c2_0_1 c2_0_2 c2_0_3 z2_0
  go_wp2_with fail
  refine (HG1.out _ HB3.out).mono ?_
  rintro en w4 ⟨r1, rfl, hr1, hb4⟩
  have HB4 : Kp (Below w.heap.size w w4) := ⟨Below.trans (by repeat (first | refine Below.alloc ?_ (by have := HB3.out.size; (try simp) <;> omega) _ | refine bDrewN ?_ _ | refine Below.drew ?_ | refine Below.setCell ?_ (by have := HB3.out.size; (try simp) <;> omega) _ | exact HB3.out)) (hb4.mono (by have := HB3.out.size; (try simp) <;> omega))⟩
  have hz4_0 : w.heap.size < w4.heap.size := by have := hb4.size; (try simp at this); omega
  obtain ⟨hc, hf⟩ := bcell hb4
  have c4_0_0 : w4.cell? ⟨w.heap.size, 0, none⟩ = some (.int .i64 R) := (hc _ _ (by (try simp) <;> omega)).trans (by go_simp)
  have c4_0_1 : w4.cell? ⟨w.heap.size, 1, none⟩ = some ((.slice g M c)) := (hc _ _ (by (try simp) <;> omega)).trans (by go_simp)
  have c4_0_2 : w4.cell? ⟨w.heap.size, 2, none⟩ = some (.int .i64 x) := (hc _ _ (by (try simp) <;> omega)).trans (by go_simp)
  have c4_0_3 : w4.cell? ⟨w.heap.size, 3, none⟩ = some (.int .i64 y) := (hc _ _ (by (try simp) <;> omega)).trans (by go_simp)
  have z4_0 : ∀ j, w4.frozen? ⟨w.heap.size, j, none⟩ = false := fun j => (hf _ _ (by (try simp) <;> omega)).trans (by go_simp)
  clear hc hf hb4 c3_0_0 c3_0_1 c3_0_2 c3_0_3 z3_0
  go_wp2_with fail
  refine (HG2.out _ HB4.out).mono ?_
  rintro en w5 ⟨r2, rfl, hr2, hb5⟩
  have HR1 := Kp.mk (hr1.below hb5)
  have HR2 := Kp.mk hr2
  clear hr1 hr2
  have HB5 : Kp (Below w.heap.size w w5) := ⟨Below.trans (by repeat (first | refine Below.alloc ?_ (by have := HB4.out.size; (try simp) <;> omega) _ | refine bDrewN ?_ _ | refine Below.drew ?_ | refine Below.setCell ?_ (by have := HB4.out.size; (try simp) <;> omega) _ | exact HB4.out)) (hb5.mono (by have := HB4.out.size; (try simp) <;> omega))⟩
  have hz5_0 : w.heap.size < w5.heap.size := by have := hb5.size; (try simp at this); omega
  obtain ⟨hc, hf⟩ := bcell hb5
  have c5_0_0 : w5.cell? ⟨w.heap.size, 0, none⟩ = some (.int .i64 R) := (hc _ _ (by (try simp) <;> omega)).trans (by go_simp)
  have c5_0_1 : w5.cell? ⟨w.heap.size, 1, none⟩ = some ((.slice g M c)) := (hc _ _ (by (try simp) <;> omega)).trans (by go_simp)
  have c5_0_2 : w5.cell? ⟨w.heap.size, 2, none⟩ = some (.int .i64 x) := (hc _ _ (by (try simp) <;> omega)).trans (by go_simp)
  have c5_0_3 : w5.cell? ⟨w.heap.size, 3, none⟩ = some (.int .i64 y) := (hc _ _ (by (try simp) <;> omega)).trans (by go_simp)
  have z5_0 : ∀ j, w5.frozen? ⟨w.heap.size, j, none⟩ = false := fun j => (hf _ _ (by (try simp) <;> omega)).trans (by go_simp)
  clear hc hf hb5 c4_0_0 c4_0_1 c4_0_2 c4_0_3 z4_0
  go_wp2_with fail
  refine (HSI.out _ _ _ HR1.out HR2.out).mono ?_
  rintro en w6 ⟨rfl, hb6⟩
  have HB6 : Kp (Below w.heap.size w w6) := ⟨Below.trans (by repeat (first | refine Below.alloc ?_ (by have := HB5.out.size; (try simp) <;> omega) _ | refine bDrewN ?_ _ | refine Below.drew ?_ | refine Below.setCell ?_ (by have := HB5.out.size; (try simp) <;> omega) _ | exact HB5.out)) (hb6.mono (by have := HB5.out.size; (try simp) <;> omega))⟩
  have hz6_0 : w.heap.size < w6.heap.size := by have := hb6.size; (try simp at this); omega
  obtain ⟨hc, hf⟩ := bcell hb6
  have c6_0_0 : w6.cell? ⟨w.heap.size, 0, none⟩ = some (.int .i64 R) := (hc _ _ (by (try simp) <;> omega)).trans (by go_simp)
  have c6_0_1 : w6.cell? ⟨w.heap.size, 1, none⟩ = some ((.slice g M c)) := (hc _ _ (by (try simp) <;> omega)).trans (by go_simp)
  have c6_0_2 : w6.cell? ⟨w.heap.size, 2, none⟩ = some (.int .i64 x) := (hc _ _ (by (try simp) <;> omega)).trans (by go_simp)
  have c6_0_3 : w6.cell? ⟨w.heap.size, 3, none⟩ = some (.int .i64 y) := (hc _ _ (by (try simp) <;> omega)).trans (by go_simp)
  have z6_0 : ∀ j, w6.frozen? ⟨w.heap.size, j, none⟩ = false := fun j => (hf _ _ (by (try simp) <;> omega)).trans (by go_simp)
  clear hc hf hb6 c5_0_0 c5_0_1 c5_0_2 c5_0_3 z5_0
  clear HR1 HR2
  go_wp2_with fail
  refine (HVA.out _ HB6.out).mono ?_
  rintro en w7 ⟨rfl, hb7⟩
  have HB7 : Kp (Below w.heap.size w w7) := ⟨Below.trans (by repeat (first | refine Below.alloc ?_ (by have := HB6.out.size; (try simp) <;> omega) _ | refine bDrewN ?_ _ | refine Below.drew ?_ | refine Below.setCell ?_ (by have := HB6.out.size; (try simp) <;> omega) _ | exact HB6.out)) (hb7.mono (by have := HB6.out.size; (try simp) <;> omega))⟩
  have hz7_0 : w.heap.size < w7.heap.size := by have := hb7.size; (try simp at this); omega
  obtain ⟨hc, hf⟩ := bcell hb7
  have c7_0_0 : w7.cell? ⟨w.heap.size, 0, none⟩ = some (.int .i64 R) := (hc _ _ (by (try simp) <;> omega)).trans (by go_simp)
  have c7_0_1 : w7.cell? ⟨w.heap.size, 1, none⟩ = some ((.slice g M c)) := (hc _ _ (by (try simp) <;> omega)).trans (by go_simp)
  have c7_0_2 : w7.cell? ⟨w.heap.size, 2, none⟩ = some (.int .i64 x) := (hc _ _ (by (try simp) <;> omega)).trans (by go_simp)
  have c7_0_3 : w7.cell? ⟨w.heap.size, 3, none⟩ = some (.int .i64 y) := (hc _ _ (by (try simp) <;> omega)).trans (by go_simp)
  have z7_0 : ∀ j, w7.frozen? ⟨w.heap.size, j, none⟩ = false := fun j => (hf _ _ (by (try simp) <;> omega)).trans (by go_simp)
  clear hc hf hb7 c6_0_0 c6_0_1 c6_0_2 c6_0_3 z6_0
  cases V with
  | false =>
    clear h3
    go_wp2_with fail
    refine (HAW.out _).mono ?_
    rintro en w9 ⟨rfl, hb9⟩
    have HB9 := Kp.mk (HB7.out.trans (hb9.mono HB7.out.size))
    clear hb9
    go_wp2
    go_ret
    exact ⟨rfl, HB9.out⟩
  | true =>
    by_cases h4 : days < 0
    · clear h3
      go_wp2_with fail
      refine (HAW.out _).mono ?_
      rintro en w9 ⟨rfl, hb9⟩
      have HB9 := Kp.mk (HB7.out.trans (hb9.mono HB7.out.size))
      clear hb9
      go_wp2
      go_ret
      exact ⟨rfl, HB9.out⟩
    · have h5 : 5 < days := by
        rcases h3 with h3 | h3 | h3
        · cases h3
        · exact absurd h3 h4
        · exact h3
      clear h3
      go_wp2_with fail
      refine (HAW.out _).mono ?_
      rintro en w9 ⟨rfl, hb9⟩
      have HB9 := Kp.mk (HB7.out.trans (hb9.mono HB7.out.size))
      clear hb9
      go_wp2
      go_ret
      exact ⟨rfl, HB9.out⟩
attribute [-go_sem] Builtin.append_
set_option maxRecDepth 100000 in
set_option maxHeartbeats 8000000 in
theorem traps_full_a (x y begin : Int) (Rn D : Nat) (g : Option Addr) (M c : Nat) (gt : Option Addr) (N ct : Nat) (w : World) (Q : Bool) (QE LE : Int) (L : List Int) (p : Nat → Nat) (h1 : M ≤ 50) (h2 : N ≤ 30) (h3 : D ≤ 5) (h4 : Rn ≤ 12) (HPL : Kp (∀ k, p k < 4096))
    (HF1 : Kp (∀ W, Below w.heap.size w W → Calls Try.prog 40 #[.agg #[.int .i64 (Rn : Int), .slice g M c, .int .i64 x, .int .i64 y], .slice gt N ct, .int .i64 begin] W fun e w' => e = .returned (.tuple #[.bool Q, .int .i64 QE]) ∧ Below W.heap.size W w'))
    (HF2 : Kp (∀ W, Below w.heap.size w W → Calls Try.prog 41 #[.agg #[.int .i64 (Rn : Int), .slice g M c, .int .i64 x, .int .i64 y], .slice gt N ct, .int .i64 begin] W fun e w' => e = .returned (.tuple #[.bool Q, .int .i64 QE]) ∧ Below W.heap.size W w'))
    (HG1 : Kp (∀ W, Below w.heap.size w W → Calls Try.prog 42 #[.agg #[.int .i64 (Rn : Int), .slice g M c, .int .i64 x, .int .i64 y], .slice gt N ct] W fun e w' => ∃ r, e = .returned (.tuple #[r, .int .i64 LE]) ∧ IS w' r L ∧ Below W.heap.size W w'))
    (HG2 : Kp (∀ W, Below w.heap.size w W → Calls Try.prog 43 #[.agg #[.int .i64 (Rn : Int), .slice g M c, .int .i64 x, .int .i64 y], .slice gt N ct] W fun e w' => ∃ r, e = .returned (.tuple #[r, .int .i64 LE]) ∧ IS w' r L ∧ Below W.heap.size W w'))
    (HSI : Kp (∀ W v u, IS W v L → IS W u L → Calls Try.prog 39 #[v, u] W fun e w' => e = .returned (.bool true) ∧ Below W.heap.size W w'))
    (HVA : Kp (∀ W, Below w.heap.size w W → Calls Try.prog 19 #[.agg #[.int .i64 (Rn : Int), .slice g M c, .int .i64 x, .int .i64 y]] W fun e w' => e = .returned (.bool true) ∧ Below W.heap.size W w'))
    (HSPR : Kp (∀ (d : Nat) W, d ≤ 5 → Below w.heap.size w W → Calls Try.prog 13 #[.agg #[.int .i64 (Rn : Int), .slice g M c, .int .i64 x, .int .i64 y], .slice none 0 0, .int .i64 (d : Nat)] W fun e w' => e = .returned (.tuple #[.int .i64 (p d : Nat), .int .i64 0]) ∧ Below W.heap.size W w'))
    (HFF : Kp (∀ W v, Below w.heap.size w W → TS W v (fndF p Rn (D + 1)) → Calls Try.prog 40 #[.agg #[.int .i64 (Rn : Int), .slice g M c, .int .i64 x, .int .i64 y], v, .int .i64 x] W fun e w' => e = .returned (.tuple #[.bool true, .int .i64 0]) ∧ Below W.heap.size W w')) :
    Calls Try.prog 9 #[.agg #[.int .i64 (Rn : Int), .slice g M c, .int .i64 x, .int .i64 y], .slice gt N ct, .int .i64 begin, .int .i64 (D : Nat)] w fun e w' => e = .returned (.bool true) ∧ Below w.heap.size w w' := by
  have HAW := Kp.mk (fun W => awake_any W)
  have HFT := Kp.mk (fun W => fitT_any (Rn : Int) x y g M c W)
  rw [decide_eq_true h1] at HFT
  have e2 : ¬ (30 : Int) < (N : Int) := by omega
  have e4 : ¬ (110 : Int) < (N : Int) := by omega
  go_enter Try.func9, Try.ntmps9
  go_wp2_with fail
  refine (HFT.out _).mono ?_
  rintro en w1 ⟨rfl, hb1⟩
  have HB1 : Kp (Below w.heap.size w w1) := ⟨Below.trans (by repeat (first | refine Below.alloc ?_ (by (try simp) <;> omega) _ | refine bDrewN ?_ _ | refine Below.drew ?_ | refine Below.setCell ?_ (by (try simp) <;> omega) _ | exact Below.refl _ _)) (hb1.mono (by (try simp) <;> omega))⟩
  have hz1_0 : w.heap.size < w1.heap.size := by have := hb1.size; (try simp at this); omega
  obtain ⟨hc, hf⟩ := bcell hb1
  have c1_0_0 : w1.cell? ⟨w.heap.size, 0, none⟩ = some (.int .i64 ↑Rn) := (hc _ _ (by (try simp) <;> omega)).trans (by go_simp)
  have c1_0_1 : w1.cell? ⟨w.heap.size, 1, none⟩ = some ((.slice g M c)) := (hc _ _ (by (try simp) <;> omega)).trans (by go_simp)
  have c1_0_2 : w1.cell? ⟨w.heap.size, 2, none⟩ = some (.int .i64 x) := (hc _ _ (by (try simp) <;> omega)).trans (by go_simp)
  have c1_0_3 : w1.cell? ⟨w.heap.size, 3, none⟩ = some (.int .i64 y) := (hc _ _ (by (try simp) <;> omega)).trans (by go_simp)
  have z1_0 : ∀ j, w1.frozen? ⟨w.heap.size, j, none⟩ = false := fun j => (hf _ _ (by (try simp) <;> omega)).trans (by go_simp)
  clear hc hf hb1
  go_wp2_with fail
  refine (HF1.out _ HB1.out).mono ?_
  rintro en w2 ⟨rfl, hb2⟩
  have HB2 : Kp (Below w.heap.size w w2) := ⟨Below.trans (by repeat (first | refine Below.alloc ?_ (by have := HB1.out.size; (try simp) <;> omega) _ | refine bDrewN ?_ _ | refine Below.drew ?_ | refine Below.setCell ?_ (by have := HB1.out.size; (try simp) <;> omega) _ | exact HB1.out)) (hb2.mono (by have := HB1.out.size; (try simp) <;> omega))⟩
  have hz2_0 : w.heap.size < w2.heap.size := by have := hb2.size; (try simp at this); omega
  obtain ⟨hc, hf⟩ := bcell hb2
  have c2_0_0 : w2.cell? ⟨w.heap.size, 0, none⟩ = some (.int .i64 ↑Rn) := (hc _ _ (by (try simp) <;> omega)).trans (by go_simp)
  have c2_0_1 : w2.cell? ⟨w.heap.size, 1, none⟩ = some ((.slice g M c)) := (hc _ _ (by (try simp) <;> omega)).trans (by go_simp)
  have c2_0_2 : w2.cell? ⟨w.heap.size, 2, none⟩ = some (.int .i64 x) := (hc _ _ (by (try simp) <;> omega)).trans (by go_simp)
  have c2_0_3 : w2.cell? ⟨w.heap.size, 3, none⟩ = some (.int .i64 y) := (hc _ _ (by (try simp) <;> omega)).trans (by go_simp)
  have z2_0 : ∀ j, w2.frozen? ⟨w.heap.size, j, none⟩ = false := fun j => (hf _ _ (by (try simp) <;> omega)).trans (by go_simp)
  clear hc hf hb2 c1_0_0 c1_0_1 c1_0_2 c1_0_3 z1_0
  go_wp2_with fail
  refine (HF2.out _ HB2.out).mono ?_
  rintro en w3 ⟨rfl, hb3⟩
  have HB3 : Kp (Below w.heap.size w w3) := ⟨Below.trans (by repeat (first | refine Below.alloc ?_ (by have := HB2.out.size; (try simp) <;> omega) _ | refine bDrewN ?_ _ | refine Below.drew ?_ | refine Below.setCell ?_ (by have := HB2.out.size; (try simp) <;> omega) _ | exact HB2.out)) (hb3.mono (by have := HB2.out.size; (try simp) <;> omega))⟩
  have hz3_0 : w.heap.size < w3.heap.size := by have := hb3.size; (try simp at this); omega
  obtain ⟨hc, hf⟩ := bcell hb3
  have c3_0_0 : w3.cell? ⟨w.heap.size, 0, none⟩ = some (.int .i64 ↑Rn) := (hc _ _ (by (try simp) <;> omega)).trans (by go_simp)
  have c3_0_1 : w3.cell? ⟨w.heap.size, 1, none⟩ = some ((.slice g M c)) := (hc _ _ (by (try simp) <;> omega)).trans (by go_simp)
  have c3_0_2 : w3.cell? ⟨w.heap.size, 2, none⟩ = some (.int .i64 x) := (hc _ _ (by (try simp) <;> omega)).trans (by go_simp)
  have c3_0_3 : w3.cell? ⟨w.heap.size, 3, none⟩ = some (.int .i64 y) := (hc _ _ (by (try simp) <;> omega)).trans (by go_simp)
  have z3_0 : ∀ j, w3.frozen? ⟨w.heap.size, j, none⟩ = false := fun j => (hf _ _ (by (try simp) <;> omega)).trans (by go_simp)
  clear hc hf hb3 c2_0_0 c2_0_1 c2_0_2 c2_0_3 z2_0
  go_wp2_with fail
  refine (HG1.out _ HB3.out).mono ?_
  rintro en w4 ⟨r1, rfl, hr1, hb4⟩
  have HB4 : Kp (Below w.heap.size w w4) := ⟨Below.trans (by repeat (first | refine Below.alloc ?_ (by have := HB3.out.size; (try simp) <;> omega) _ | refine bDrewN ?_ _ | refine Below.drew ?_ | refine Below.setCell ?_ (by have := HB3.out.size; (try simp) <;> omega) _ | exact HB3.out)) (hb4.mono (by have := HB3.out.size; (try simp) <;> omega))⟩
  have hz4_0 : w.heap.size < w4.heap.size := by have := hb4.size; (try simp at this); omega
  obtain ⟨hc, hf⟩ := bcell hb4
  have c4_0_0 : w4.cell? ⟨w.heap.size, 0, none⟩ = some (.int .i64 ↑Rn) := (hc _ _ (by (try simp) <;> omega)).trans (by go_simp)
  have c4_0_1 : w4.cell? ⟨w.heap.size, 1, none⟩ = some ((.slice g M c)) := (hc _ _ (by (try simp) <;> omega)).trans (by go_simp)
  have c4_0_2 : w4.cell? ⟨w.heap.size, 2, none⟩ = some (.int .i64 x) := (hc _ _ (by (try simp) <;> omega)).trans (by go_simp)
  have c4_0_3 : w4.cell? ⟨w.heap.size, 3, none⟩ = some (.int .i64 y) := (hc _ _ (by (try simp) <;> omega)).trans (by go_simp)
  have z4_0 : ∀ j, w4.frozen? ⟨w.heap.size, j, none⟩ = false := fun j => (hf _ _ (by (try simp) <;> omega)).trans (by go_simp)
  clear hc hf hb4 c3_0_0 c3_0_1 c3_0_2 c3_0_3 z3_0
  go_wp2_with fail
  refine (HG2.out _ HB4.out).mono ?_
  rintro en w5 ⟨r2, rfl, hr2, hb5⟩
  have HR1 := Kp.mk (hr1.below hb5)
  have HR2 := Kp.mk hr2
  clear hr1 hr2
  have HB5 : Kp (Below w.heap.size w w5) := ⟨Below.trans (by repeat (first | refine Below.alloc ?_ (by have := HB4.out.size; (try simp) <;> omega) _ | refine bDrewN ?_ _ | refine Below.drew ?_ | refine Below.setCell ?_ (by have := HB4.out.size; (try simp) <;> omega) _ | exact HB4.out)) (hb5.mono (by have := HB4.out.size; (try simp) <;> omega))⟩
  have hz5_0 : w.heap.size < w5.heap.size := by have := hb5.size; (try simp at this); omega
  obtain ⟨hc, hf⟩ := bcell hb5
  have c5_0_0 : w5.cell? ⟨w.heap.size, 0, none⟩ = some (.int .i64 ↑Rn) := (hc _ _ (by (try simp) <;> omega)).trans (by go_simp)
  have c5_0_1 : w5.cell? ⟨w.heap.size, 1, none⟩ = some ((.slice g M c)) := (hc _ _ (by (try simp) <;> omega)).trans (by go_simp)
  have c5_0_2 : w5.cell? ⟨w.heap.size, 2, none⟩ = some (.int .i64 x) := (hc _ _ (by (try simp) <;> omega)).trans (by go_simp)
  have c5_0_3 : w5.cell? ⟨w.heap.size, 3, none⟩ = some (.int .i64 y) := (hc _ _ (by (try simp) <;> omega)).trans (by go_simp)
  have z5_0 : ∀ j, w5.frozen? ⟨w.heap.size, j, none⟩ = false := fun j => (hf _ _ (by (try simp) <;> omega)).trans (by go_simp)
  clear hc hf hb5 c4_0_0 c4_0_1 c4_0_2 c4_0_3 z4_0
  go_wp2_with fail
  refine (HSI.out _ _ _ HR1.out HR2.out).mono ?_
  rintro en w6 ⟨rfl, hb6⟩
  have HB6 : Kp (Below w.heap.size w w6) := ⟨Below.trans (by repeat (first | refine Below.alloc ?_ (by have := HB5.out.size; (try simp) <;> omega) _ | refine bDrewN ?_ _ | refine Below.drew ?_ | refine Below.setCell ?_ (by have := HB5.out.size; (try simp) <;> omega) _ | exact HB5.out)) (hb6.mono (by have := HB5.out.size; (try simp) <;> omega))⟩
  have hz6_0 : w.heap.size < w6.heap.size := by have := hb6.size; (try simp at this); omega
  obtain ⟨hc, hf⟩ := bcell hb6
  have c6_0_0 : w6.cell? ⟨w.heap.size, 0, none⟩ = some (.int .i64 ↑Rn) := (hc _ _ (by (try simp) <;> omega)).trans (by go_simp)
  have c6_0_1 : w6.cell? ⟨w.heap.size, 1, none⟩ = some ((.slice g M c)) := (hc _ _ (by (try simp) <;> omega)).trans (by go_simp)
  have c6_0_2 : w6.cell? ⟨w.heap.size, 2, none⟩ = some (.int .i64 x) := (hc _ _ (by (try simp) <;> omega)).trans (by go_simp)
  have c6_0_3 : w6.cell? ⟨w.heap.size, 3, none⟩ = some (.int .i64 y) := (hc _ _ (by (try simp) <;> omega)).trans (by go_simp)
  have z6_0 : ∀ j, w6.frozen? ⟨w.heap.size, j, none⟩ = false := fun j => (hf _ _ (by (try simp) <;> omega)).trans (by go_simp)
  clear hc hf hb6 c5_0_0 c5_0_1 c5_0_2 c5_0_3 z5_0
  clear HR1 HR2
  go_wp2_with fail
  refine (HVA.out _ HB6.out).mono ?_
  rintro en w7 ⟨rfl, hb7⟩
  have HB7 : Kp (Below w.heap.size w w7) := ⟨Below.trans (by repeat (first | refine Below.alloc ?_ (by have := HB6.out.size; (try simp) <;> omega) _ | refine bDrewN ?_ _ | refine Below.drew ?_ | refine Below.setCell ?_ (by have := HB6.out.size; (try simp) <;> omega) _ | exact HB6.out)) (hb7.mono (by have := HB6.out.size; (try simp) <;> omega))⟩
  have hz7_0 : w.heap.size < w7.heap.size := by have := hb7.size; (try simp at this); omega
  obtain ⟨hc, hf⟩ := bcell hb7
  have c7_0_0 : w7.cell? ⟨w.heap.size, 0, none⟩ = some (.int .i64 ↑Rn) := (hc _ _ (by (try simp) <;> omega)).trans (by go_simp)
  have c7_0_1 : w7.cell? ⟨w.heap.size, 1, none⟩ = some ((.slice g M c)) := (hc _ _ (by (try simp) <;> omega)).trans (by go_simp)
  have c7_0_2 : w7.cell? ⟨w.heap.size, 2, none⟩ = some (.int .i64 x) := (hc _ _ (by (try simp) <;> omega)).trans (by go_simp)
  have c7_0_3 : w7.cell? ⟨w.heap.size, 3, none⟩ = some (.int .i64 y) := (hc _ _ (by (try simp) <;> omega)).trans (by go_simp)
  have z7_0 : ∀ j, w7.frozen? ⟨w.heap.size, j, none⟩ = false := fun j => (hf _ _ (by (try simp) <;> omega)).trans (by go_simp)
  clear hc hf hb7 c6_0_0 c6_0_1 c6_0_2 c6_0_3 z6_0
  have HALL : Kp (∀ w', Below w7.heap.size w7 w' → w'.cell? ⟨w.heap.size, 0, none⟩ = some (.int .i64 (Rn : Int)) ∧ w'.cell? ⟨w.heap.size, 1, none⟩ = some (.slice g M c) ∧ w'.cell? ⟨w.heap.size, 2, none⟩ = some (.int .i64 x) ∧ w'.cell? ⟨w.heap.size, 3, none⟩ = some (.int .i64 y)) := ⟨fun w' h => ⟨(h.cell (p := ⟨w.heap.size, 0, none⟩) (World.block_lt_of_cell? _ _ c7_0_0)).trans c7_0_0, (h.cell (p := ⟨w.heap.size, 1, none⟩) (World.block_lt_of_cell? _ _ c7_0_1)).trans c7_0_1, (h.cell (p := ⟨w.heap.size, 2, none⟩) (World.block_lt_of_cell? _ _ c7_0_2)).trans c7_0_2, (h.cell (p := ⟨w.heap.size, 3, none⟩) (World.block_lt_of_cell? _ _ c7_0_3)).trans c7_0_3⟩⟩
  have e8 : ¬ (D : Int) < 0 := by omega
  have e9 : ¬ 5 < (D : Int) := by omega
  have e10 : IntKind.i64.wrap ((D : Int) + 1) = (D : Int) + 1 := IntWalk.i64_in _ (by omega)
  have HO0 : Kp (OwnT w7 w7.heap.size (.slice none 0 0) (fndF p Rn 0)) := ⟨OwnT.nil _ _⟩
  clear c7_0_0 c7_0_1 c7_0_2 c7_0_3 z7_0
  go_wp2_with fail
  go_loopw [17, 102] (fun v i wr => ∃ d : Nat, d ≤ D + 1 ∧ i = .int .i64 d ∧ Kp (OwnT wr w7.heap.size v (fndF p Rn d)) ∧ Kp (Below w7.heap.size w7 wr)) (fun _ i _ => D + 1 - (intOf i).toNat)
  case atStart => exact ⟨0, Nat.zero_le _, rfl, HO0, ⟨Below.refl _ _⟩⟩
  case round =>
    clear HO0
    obtain ⟨d, hd, rfl, HO, HB⟩ := hrel
    by_cases hlt : d < D + 1
    · have o1 : (d : Int) < (D : Int) + 1 := by omega
      have o4 : d ≤ 5 := by omega
      obtain ⟨q0, q1, q2, q3⟩ := HALL.out wr HB.out
      have HSK := Kp.mk (HSPR.out d wr (by omega) (HB7.out.trans (HB.out.mono HB7.out.size)))
      have HBT := Kp.mk (fun k => bit_has (S := p d) (k := k) (by have := HPL.out d; omega))
      have HFN : Kp (fndF p Rn (d + 1) = fndF p Rn d ++ rowF (p d) (d : Int) Rn) := ⟨rfl⟩
      have HFL := Kp.mk (fndF_len p Rn d)
      obtain ⟨T, hT⟩ : ∃ T, p d = T := ⟨_, rfl⟩
      rw [hT] at HSK HBT HFN
      clear hT
      go_wp2_with fail
      refine (HSK.out).mono ?_
      rintro en w8 ⟨rfl, hb8⟩
      have HB8 := Kp.mk (HB.out.trans (hb8.mono HB.out.size))
      have HO8 : Kp (OwnT w8 w7.heap.size u17 (fndF p Rn d ++ rowF T (d : Int) 0)) := ⟨by
        have := HO.out.on hb8
        rw [show rowF T (d : Int) 0 = [] from rfl, List.append_nil]
        exact this⟩
      clear hb8 q0 q1 q2 q3 HSK HO HB
      obtain ⟨q0, q1, q2, q3⟩ := HALL.out w8 HB8.out
      go_wp2_with fail
      clear q0 q1 q2 q3
      go_loopw [17, 115] (fun v i wr => ∃ k : Nat, k ≤ Rn ∧ i = .int .i64 k ∧ Kp (OwnT wr w7.heap.size v (fndF p Rn d ++ rowF T (d : Int) k)) ∧ Kp (Below w7.heap.size w7 wr)) (fun _ i _ => Rn - (intOf i).toNat)
      case atStart => exact ⟨0, Nat.zero_le _, rfl, HO8, HB8⟩
      case round =>
        clear HO8 HB8
        obtain ⟨k, hk, rfl, HO, HB⟩ := hrel
        by_cases hlk : k < Rn
        · have o2 : (k : Int) < (Rn : Int) := by omega
          have o3 : k ≤ 12 := by omega
          have hbt := HBT.out k
          have HRN : Kp (fndF p Rn d ++ rowF T (d : Int) (k + 1) = (fndF p Rn d ++ rowF T (d : Int) k) ++ [⟨(k : Int), (d : Int), T.testBit k⟩]) := ⟨by rw [List.append_assoc]; rfl⟩
          have HLN : Kp ((fndF p Rn d ++ rowF T (d : Int) k).length ≤ 100000) := ⟨by
            rw [List.length_append, HFL.out, rowF_len]
            have : Rn * d ≤ 12 * 5 := Nat.mul_le_mul (by omega) o4
            omega⟩
          obtain ⟨Bt, hBt⟩ : ∃ B, T.testBit k = B := ⟨_, rfl⟩
          rw [hBt] at hbt HRN
          clear hBt
          cases Bt with
          | true =>
            replace hbt : bits .and .i64 ((T : Int) / 2 ^ k) 1 = 1 := hbt
            have hbz := (Below.refl wr.heap.size wr).alloc (Nat.le_refl _) (.cells #[.int .i64 (k : Int), .int .i64 (d : Int), .bool true] 53)
            have hx3 : TpAt (wr.alloc (.cells #[.int .i64 (k : Int), .int .i64 (d : Int), .bool true] 53)) wr.heap.size ⟨(k : Int), (d : Int), true⟩ := ⟨by go_simp, by go_simp, by go_simp⟩
            obtain ⟨g5, c5, w5, hrun, hown, hgrow, hat⟩ := (HO.out.on hbz).next hx3 HLN.out (by have := HB.out.size; rw [World.size_alloc]; omega)
            have hbw : Below w7.heap.size w7 (wr.alloc (.cells #[.int .i64 (k : Int), .int .i64 (d : Int), .bool true] 53)) := HB.out.trans (hbz.mono HB.out.size)
            have HB5 : Kp (Below w7.heap.size w7 w5) := ⟨hbw.grown hgrow hbw.size (fun j hj => ((HO.out.on hbz).lt j hj).1)⟩
            have HO5 : Kp (OwnT w5 w7.heap.size (.slice g5 ((fndF p Rn d).length + (rowF T (d : Int) k).length + 1) c5) (fndF p Rn d ++ rowF T (d : Int) (k + 1))) := ⟨by rw [HRN.out, ← List.length_append]; exact hown⟩
            clear hown hgrow hat hbz hx3 hbw
            go_wp2
            go_roundw
            case rel => exact ⟨k + 1, by omega, by go_num, HO5, HB5⟩
            case measure => simp [intOf]; omega
          | false =>
            replace hbt : bits .and .i64 ((T : Int) / 2 ^ k) 1 = 0 := hbt
            have hbz := (Below.refl wr.heap.size wr).alloc (Nat.le_refl _) (.cells #[.int .i64 (k : Int), .int .i64 (d : Int), .bool false] 53)
            have hx3 : TpAt (wr.alloc (.cells #[.int .i64 (k : Int), .int .i64 (d : Int), .bool false] 53)) wr.heap.size ⟨(k : Int), (d : Int), false⟩ := ⟨by go_simp, by go_simp, by go_simp⟩
            obtain ⟨g5, c5, w5, hrun, hown, hgrow, hat⟩ := (HO.out.on hbz).next hx3 HLN.out (by have := HB.out.size; rw [World.size_alloc]; omega)
            have hbw : Below w7.heap.size w7 (wr.alloc (.cells #[.int .i64 (k : Int), .int .i64 (d : Int), .bool false] 53)) := HB.out.trans (hbz.mono HB.out.size)
            have HB5 : Kp (Below w7.heap.size w7 w5) := ⟨hbw.grown hgrow hbw.size (fun j hj => ((HO.out.on hbz).lt j hj).1)⟩
            have HO5 : Kp (OwnT w5 w7.heap.size (.slice g5 ((fndF p Rn d).length + (rowF T (d : Int) k).length + 1) c5) (fndF p Rn d ++ rowF T (d : Int) (k + 1))) := ⟨by rw [HRN.out, ← List.length_append]; exact hown⟩
            clear hown hgrow hat hbz hx3 hbw
            go_wp2
            go_roundw
            case rel => exact ⟨k + 1, by omega, by go_num, HO5, HB5⟩
            case measure => simp [intOf]; omega
        · have hkn : k = Rn := by omega
          have HO2 : Kp (OwnT wr w7.heap.size u17 (fndF p Rn (d + 1))) := ⟨by rw [HFN.out, ← hkn]; exact hkn ▸ HO.out⟩
          have o2 : ¬ (k : Int) < (Rn : Int) := by omega
          clear HO
          go_wp2
          go_roundw
          case rel => exact ⟨d + 1, by omega, by go_num, HO2, HB⟩
          case measure => simp [intOf]; omega
    · have hdn : d = D + 1 := by omega
      have HTS : Kp (TS wr u17 (fndF p Rn (D + 1))) := ⟨by rw [← hdn]; exact HO.out.ts⟩
      have HBW := Kp.mk (HB7.out.trans (HB.out.mono HB7.out.size))
      obtain ⟨q0, q1, q2, q3⟩ := HALL.out wr HB.out
      have o1 : ¬ (d : Int) < (D : Int) + 1 := by omega
      clear hdn
      go_wp2_with fail
      refine (HFF.out _ _ HBW.out HTS.out).mono ?_
      rintro en w8 ⟨rfl, hb8⟩
      have HB8 := Kp.mk (HBW.out.trans (hb8.mono HBW.out.size))
      clear hb8 q0 q1 q2 q3
      go_wp2_with fail
      refine (HAW.out _).mono ?_
      rintro en w9 ⟨rfl, hb9⟩
      have HB9 := Kp.mk (HB8.out.trans (hb9.mono HB8.out.size))
      clear hb9
      go_wp2
      go_ret
      exact ⟨rfl, HB9.out⟩
set_option maxRecDepth 100000 in
set_option maxHeartbeats 8000000 in
theorem traps_full_b (x y begin : Int) (Rn D : Nat) (g : Option Addr) (M c : Nat) (gt : Option Addr) (N ct : Nat) (w : World) (Q : Bool) (QE LE : Int) (L : List Int) (p : Nat → Nat) (h1 : M ≤ 50) (h2 : 100 < N ∧ N ≤ 110) (h3 : D ≤ 5) (h4 : Rn ≤ 12) (HPL : Kp (∀ k, p k < 4096))
    (HF1 : Kp (∀ W, Below w.heap.size w W → Calls Try.prog 40 #[.agg #[.int .i64 (Rn : Int), .slice g M c, .int .i64 x, .int .i64 y], .slice gt N ct, .int .i64 begin] W fun e w' => e = .returned (.tuple #[.bool Q, .int .i64 QE]) ∧ Below W.heap.size W w'))
    (HF2 : Kp (∀ W, Below w.heap.size w W → Calls Try.prog 41 #[.agg #[.int .i64 (Rn : Int), .slice g M c, .int .i64 x, .int .i64 y], .slice gt N ct, .int .i64 begin] W fun e w' => e = .returned (.tuple #[.bool Q, .int .i64 QE]) ∧ Below W.heap.size W w'))
    (HG1 : Kp (∀ W, Below w.heap.size w W → Calls Try.prog 42 #[.agg #[.int .i64 (Rn : Int), .slice g M c, .int .i64 x, .int .i64 y], .slice gt N ct] W fun e w' => ∃ r, e = .returned (.tuple #[r, .int .i64 LE]) ∧ IS w' r L ∧ Below W.heap.size W w'))
    (HG2 : Kp (∀ W, Below w.heap.size w W → Calls Try.prog 43 #[.agg #[.int .i64 (Rn : Int), .slice g M c, .int .i64 x, .int .i64 y], .slice gt N ct] W fun e w' => ∃ r, e = .returned (.tuple #[r, .int .i64 LE]) ∧ IS w' r L ∧ Below W.heap.size W w'))
    (HSI : Kp (∀ W v u, IS W v L → IS W u L → Calls Try.prog 39 #[v, u] W fun e w' => e = .returned (.bool true) ∧ Below W.heap.size W w'))
    (HVA : Kp (∀ W, Below w.heap.size w W → Calls Try.prog 19 #[.agg #[.int .i64 (Rn : Int), .slice g M c, .int .i64 x, .int .i64 y]] W fun e w' => e = .returned (.bool true) ∧ Below W.heap.size W w'))
    (HSPR : Kp (∀ (d : Nat) W, d ≤ 5 → Below w.heap.size w W → Calls Try.prog 13 #[.agg #[.int .i64 (Rn : Int), .slice g M c, .int .i64 x, .int .i64 y], .slice none 0 0, .int .i64 (d : Nat)] W fun e w' => e = .returned (.tuple #[.int .i64 (p d : Nat), .int .i64 0]) ∧ Below W.heap.size W w'))
    (HFF : Kp (∀ W v, Below w.heap.size w W → TS W v (fndF p Rn (D + 1)) → Calls Try.prog 40 #[.agg #[.int .i64 (Rn : Int), .slice g M c, .int .i64 x, .int .i64 y], v, .int .i64 x] W fun e w' => e = .returned (.tuple #[.bool true, .int .i64 0]) ∧ Below W.heap.size W w')) :
    Calls Try.prog 9 #[.agg #[.int .i64 (Rn : Int), .slice g M c, .int .i64 x, .int .i64 y], .slice gt N ct, .int .i64 begin, .int .i64 (D : Nat)] w fun e w' => e = .returned (.bool true) ∧ Below w.heap.size w w' := by
  have HAW := Kp.mk (fun W => awake_any W)
  have HFT := Kp.mk (fun W => fitT_any (Rn : Int) x y g M c W)
  rw [decide_eq_true h1] at HFT
  have e2 : (30 : Int) < (N : Int) := by omega
  have e3 : ¬ (N : Int) ≤ 100 := by omega
  have e4 : ¬ (110 : Int) < (N : Int) := by omega
  go_enter Try.func9, Try.ntmps9
  go_wp2_with fail
  refine (HFT.out _).mono ?_
  rintro en w1 ⟨rfl, hb1⟩
  have HB1 : Kp (Below w.heap.size w w1) := ⟨Below.trans (by repeat (first | refine Below.alloc ?_ (by (try simp) <;> omega) _ | refine bDrewN ?_ _ | refine Below.drew ?_ | refine Below.setCell ?_ (by (try simp) <;> omega) _ | exact Below.refl _ _)) (hb1.mono (by (try simp) <;> omega))⟩
  have hz1_0 : w.heap.size < w1.heap.size := by have := hb1.size; (try simp at this); omega
  obtain ⟨hc, hf⟩ := bcell hb1
  have c1_0_0 : w1.cell? ⟨w.heap.size, 0, none⟩ = some (.int .i64 ↑Rn) := (hc _ _ (by (try simp) <;> omega)).trans (by go_simp)
  have c1_0_1 : w1.cell? ⟨w.heap.size, 1, none⟩ = some ((.slice g M c)) := (hc _ _ (by (try simp) <;> omega)).trans (by go_simp)
  have c1_0_2 : w1.cell? ⟨w.heap.size, 2, none⟩ = some (.int .i64 x) := (hc _ _ (by (try simp) <;> omega)).trans (by go_simp)
  have c1_0_3 : w1.cell? ⟨w.heap.size, 3, none⟩ = some (.int .i64 y) := (hc _ _ (by (try simp) <;> omega)).trans (by go_simp)
  have z1_0 : ∀ j, w1.frozen? ⟨w.heap.size, j, none⟩ = false := fun j => (hf _ _ (by (try simp) <;> omega)).trans (by go_simp)
  clear hc hf hb1
  go_wp2_with fail
  refine (HF1.out _ HB1.out).mono ?_
  rintro en w2 ⟨rfl, hb2⟩
  have HB2 : Kp (Below w.heap.size w w2) := ⟨Below.trans (by repeat (first | refine Below.alloc ?_ (by have := HB1.out.size; (try simp) <;> omega) _ | refine bDrewN ?_ _ | refine Below.drew ?_ | refine Below.setCell ?_ (by have := HB1.out.size; (try simp) <;> omega) _ | exact HB1.out)) (hb2.mono (by have := HB1.out.size; (try simp) <;> omega))⟩
  have hz2_0 : w.heap.size < w2.heap.size := by have := hb2.size; (try simp at this); omega
  obtain ⟨hc, hf⟩ := bcell hb2
  have c2_0_0 : w2.cell? ⟨w.heap.size, 0, none⟩ = some (.int .i64 ↑Rn) := (hc _ _ (by (try simp) <;> omega)).trans (by go_simp)
  have c2_0_1 : w2.cell? ⟨w.heap.size, 1, none⟩ = some ((.slice g M c)) := (hc _ _ (by (try simp) <;> omega)).trans (by go_simp)
  have c2_0_2 : w2.cell? ⟨w.heap.size, 2, none⟩ = some (.int .i64 x) := (hc _ _ (by (try simp) <;> omega)).trans (by go_simp)
  have c2_0_3 : w2.cell? ⟨w.heap.size, 3, none⟩ = some (.int .i64 y) := (hc _ _ (by (try simp) <;> omega)).trans (by go_simp)
  have z2_0 : ∀ j, w2.frozen? ⟨w.heap.size, j, none⟩ = false := fun j => (hf _ _ (by (try simp) <;> omega)).trans (by go_simp)
  clear hc hf hb2
  go_wp2_with fail
  refine (HF2.out _ HB2.out).mono ?_
  rintro en w3 ⟨rfl, hb3⟩
  have HB3 : Kp (Below w.heap.size w w3) := ⟨Below.trans (by repeat (first | refine Below.alloc ?_ (by have := HB2.out.size; (try simp) <;> omega) _ | refine bDrewN ?_ _ | refine Below.drew ?_ | refine Below.setCell ?_ (by have := HB2.out.size; (try simp) <;> omega) _ | exact HB2.out)) (hb3.mono (by have := HB2.out.size; (try simp) <;> omega))⟩
  have hz3_0 : w.heap.size < w3.heap.size := by have := hb3.size; (try simp at this); omega
  obtain ⟨hc, hf⟩ := bcell hb3
  have c3_0_0 : w3.cell? ⟨w.heap.size, 0, none⟩ = some (.int .i64 ↑Rn) := (hc _ _ (by (try simp) <;> omega)).trans (by go_simp)
  have c3_0_1 : w3.cell? ⟨w.heap.size, 1, none⟩ = some ((.slice g M c)) := (hc _ _ (by (try simp) <;> omega)).trans (by go_simp)
  have c3_0_2 : w3.cell? ⟨w.heap.size, 2, none⟩ = some (.int .i64 x) := (hc _ _ (by (try simp) <;> omega)).trans (by go_simp)
  have c3_0_3 : w3.cell? ⟨w.heap.size, 3, none⟩ = some (.int .i64 y) := (hc _ _ (by (try simp) <;> omega)).trans (by go_simp)
  have z3_0 : ∀ j, w3.frozen? ⟨w.heap.size, j, none⟩ = false := fun j => (hf _ _ (by (try simp) <;> omega)).trans (by go_simp)
  clear hc hf hb3
  go_wp2_with fail
  refine (HG1.out _ HB3.out).mono ?_
  rintro en w4 ⟨r1, rfl, hr1, hb4⟩
  have HB4 : Kp (Below w.heap.size w w4) := ⟨Below.trans (by repeat (first | refine Below.alloc ?_ (by have := HB3.out.size; (try simp) <;> omega) _ | refine bDrewN ?_ _ | refine Below.drew ?_ | refine Below.setCell ?_ (by have := HB3.out.size; (try simp) <;> omega) _ | exact HB3.out)) (hb4.mono (by have := HB3.out.size; (try simp) <;> omega))⟩
  have hz4_0 : w.heap.size < w4.heap.size := by have := hb4.size; (try simp at this); omega
  obtain ⟨hc, hf⟩ := bcell hb4
  have c4_0_0 : w4.cell? ⟨w.heap.size, 0, none⟩ = some (.int .i64 ↑Rn) := (hc _ _ (by (try simp) <;> omega)).trans (by go_simp)
  have c4_0_1 : w4.cell? ⟨w.heap.size, 1, none⟩ = some ((.slice g M c)) := (hc _ _ (by (try simp) <;> omega)).trans (by go_simp)
  have c4_0_2 : w4.cell? ⟨w.heap.size, 2, none⟩ = some (.int .i64 x) := (hc _ _ (by (try simp) <;> omega)).trans (by go_simp)
  have c4_0_3 : w4.cell? ⟨w.heap.size, 3, none⟩ = some (.int .i64 y) := (hc _ _ (by (try simp) <;> omega)).trans (by go_simp)
  have z4_0 : ∀ j, w4.frozen? ⟨w.heap.size, j, none⟩ = false := fun j => (hf _ _ (by (try simp) <;> omega)).trans (by go_simp)
  clear hc hf hb4
  go_wp2_with fail
  refine (HG2.out _ HB4.out).mono ?_
  rintro en w5 ⟨r2, rfl, hr2, hb5⟩
  have HR1 := Kp.mk (hr1.below hb5)
  have HR2 := Kp.mk hr2
  clear hr1 hr2
  have HB5 : Kp (Below w.heap.size w w5) := ⟨Below.trans (by repeat (first | refine Below.alloc ?_ (by have := HB4.out.size; (try simp) <;> omega) _ | refine bDrewN ?_ _ | refine Below.drew ?_ | refine Below.setCell ?_ (by have := HB4.out.size; (try simp) <;> omega) _ | exact HB4.out)) (hb5.mono (by have := HB4.out.size; (try simp) <;> omega))⟩
  have hz5_0 : w.heap.size < w5.heap.size := by have := hb5.size; (try simp at this); omega
  obtain ⟨hc, hf⟩ := bcell hb5
  have c5_0_0 : w5.cell? ⟨w.heap.size, 0, none⟩ = some (.int .i64 ↑Rn) := (hc _ _ (by (try simp) <;> omega)).trans (by go_simp)
  have c5_0_1 : w5.cell? ⟨w.heap.size, 1, none⟩ = some ((.slice g M c)) := (hc _ _ (by (try simp) <;> omega)).trans (by go_simp)
  have c5_0_2 : w5.cell? ⟨w.heap.size, 2, none⟩ = some (.int .i64 x) := (hc _ _ (by (try simp) <;> omega)).trans (by go_simp)
  have c5_0_3 : w5.cell? ⟨w.heap.size, 3, none⟩ = some (.int .i64 y) := (hc _ _ (by (try simp) <;> omega)).trans (by go_simp)
  have z5_0 : ∀ j, w5.frozen? ⟨w.heap.size, j, none⟩ = false := fun j => (hf _ _ (by (try simp) <;> omega)).trans (by go_simp)
  clear hc hf hb5
  go_wp2_with fail
  refine (HSI.out _ _ _ HR1.out HR2.out).mono ?_
  rintro en w6 ⟨rfl, hb6⟩
  have HB6 : Kp (Below w.heap.size w w6) := ⟨Below.trans (by repeat (first | refine Below.alloc ?_ (by have := HB5.out.size; (try simp) <;> omega) _ | refine bDrewN ?_ _ | refine Below.drew ?_ | refine Below.setCell ?_ (by have := HB5.out.size; (try simp) <;> omega) _ | exact HB5.out)) (hb6.mono (by have := HB5.out.size; (try simp) <;> omega))⟩
  have hz6_0 : w.heap.size < w6.heap.size := by have := hb6.size; (try simp at this); omega
  obtain ⟨hc, hf⟩ := bcell hb6
  have c6_0_0 : w6.cell? ⟨w.heap.size, 0, none⟩ = some (.int .i64 ↑Rn) := (hc _ _ (by (try simp) <;> omega)).trans (by go_simp)
  have c6_0_1 : w6.cell? ⟨w.heap.size, 1, none⟩ = some ((.slice g M c)) := (hc _ _ (by (try simp) <;> omega)).trans (by go_simp)
  have c6_0_2 : w6.cell? ⟨w.heap.size, 2, none⟩ = some (.int .i64 x) := (hc _ _ (by (try simp) <;> omega)).trans (by go_simp)
  have c6_0_3 : w6.cell? ⟨w.heap.size, 3, none⟩ = some (.int .i64 y) := (hc _ _ (by (try simp) <;> omega)).trans (by go_simp)
  have z6_0 : ∀ j, w6.frozen? ⟨w.heap.size, j, none⟩ = false := fun j => (hf _ _ (by (try simp) <;> omega)).trans (by go_simp)
  clear hc hf hb6
  clear HR1 HR2
  go_wp2_with fail
  refine (HVA.out _ HB6.out).mono ?_
  rintro en w7 ⟨rfl, hb7⟩
  have HB7 : Kp (Below w.heap.size w w7) := ⟨Below.trans (by repeat (first | refine Below.alloc ?_ (by have := HB6.out.size; (try simp) <;> omega) _ | refine bDrewN ?_ _ | refine Below.drew ?_ | refine Below.setCell ?_ (by have := HB6.out.size; (try simp) <;> omega) _ | exact HB6.out)) (hb7.mono (by have := HB6.out.size; (try simp) <;> omega))⟩
  have hz7_0 : w.heap.size < w7.heap.size := by have := hb7.size; (try simp at this); omega
  obtain ⟨hc, hf⟩ := bcell hb7
  have c7_0_0 : w7.cell? ⟨w.heap.size, 0, none⟩ = some (.int .i64 ↑Rn) := (hc _ _ (by (try simp) <;> omega)).trans (by go_simp)
  have c7_0_1 : w7.cell? ⟨w.heap.size, 1, none⟩ = some ((.slice g M c)) := (hc _ _ (by (try simp) <;> omega)).trans (by go_simp)
  have c7_0_2 : w7.cell? ⟨w.heap.size, 2, none⟩ = some (.int .i64 x) := (hc _ _ (by (try simp) <;> omega)).trans (by go_simp)
  have c7_0_3 : w7.cell? ⟨w.heap.size, 3, none⟩ = some (.int .i64 y) := (hc _ _ (by (try simp) <;> omega)).trans (by go_simp)
  have z7_0 : ∀ j, w7.frozen? ⟨w.heap.size, j, none⟩ = false := fun j => (hf _ _ (by (try simp) <;> omega)).trans (by go_simp)
  clear hc hf hb7
  have HALL : Kp (∀ w', Below w7.heap.size w7 w' → w'.cell? ⟨w.heap.size, 0, none⟩ = some (.int .i64 (Rn : Int)) ∧ w'.cell? ⟨w.heap.size, 1, none⟩ = some (.slice g M c) ∧ w'.cell? ⟨w.heap.size, 2, none⟩ = some (.int .i64 x) ∧ w'.cell? ⟨w.heap.size, 3, none⟩ = some (.int .i64 y)) := ⟨fun w' h => ⟨(h.cell (p := ⟨w.heap.size, 0, none⟩) (World.block_lt_of_cell? _ _ c7_0_0)).trans c7_0_0, (h.cell (p := ⟨w.heap.size, 1, none⟩) (World.block_lt_of_cell? _ _ c7_0_1)).trans c7_0_1, (h.cell (p := ⟨w.heap.size, 2, none⟩) (World.block_lt_of_cell? _ _ c7_0_2)).trans c7_0_2, (h.cell (p := ⟨w.heap.size, 3, none⟩) (World.block_lt_of_cell? _ _ c7_0_3)).trans c7_0_3⟩⟩
  have e8 : ¬ (D : Int) < 0 := by omega
  have e9 : ¬ 5 < (D : Int) := by omega
  have e10 : IntKind.i64.wrap ((D : Int) + 1) = (D : Int) + 1 := IntWalk.i64_in _ (by omega)
  have HO0 : Kp (OwnT w7 w7.heap.size (.slice none 0 0) (fndF p Rn 0)) := ⟨OwnT.nil _ _⟩
  clear c7_0_0 c7_0_1 c7_0_2 c7_0_3 z7_0
  go_wp2_with fail
  go_loopw [17, 102] (fun v i wr => ∃ d : Nat, d ≤ D + 1 ∧ i = .int .i64 d ∧ Kp (OwnT wr w7.heap.size v (fndF p Rn d)) ∧ Kp (Below w7.heap.size w7 wr)) (fun _ i _ => D + 1 - (intOf i).toNat)
  case atStart => exact ⟨0, Nat.zero_le _, rfl, HO0, ⟨Below.refl _ _⟩⟩
  case round =>
    clear HO0
    obtain ⟨d, hd, rfl, HO, HB⟩ := hrel
    by_cases hlt : d < D + 1
    · have o1 : (d : Int) < (D : Int) + 1 := by omega
      have o4 : d ≤ 5 := by omega
      obtain ⟨q0, q1, q2, q3⟩ := HALL.out wr HB.out
      have HSK := Kp.mk (HSPR.out d wr (by omega) (HB7.out.trans (HB.out.mono HB7.out.size)))
      have HBT := Kp.mk (fun k => bit_has (S := p d) (k := k) (by have := HPL.out d; omega))
      have HFN : Kp (fndF p Rn (d + 1) = fndF p Rn d ++ rowF (p d) (d : Int) Rn) := ⟨rfl⟩
      have HFL := Kp.mk (fndF_len p Rn d)
      obtain ⟨T, hT⟩ : ∃ T, p d = T := ⟨_, rfl⟩
      rw [hT] at HSK HBT HFN
      clear hT
      go_wp2_with fail
      refine (HSK.out).mono ?_
      rintro en w8 ⟨rfl, hb8⟩
      have HB8 := Kp.mk (HB.out.trans (hb8.mono HB.out.size))
      have HO8 : Kp (OwnT w8 w7.heap.size u17 (fndF p Rn d ++ rowF T (d : Int) 0)) := ⟨by
        have := HO.out.on hb8
        rw [show rowF T (d : Int) 0 = [] from rfl, List.append_nil]
        exact this⟩
      clear hb8 q0 q1 q2 q3 HSK HO HB
      obtain ⟨q0, q1, q2, q3⟩ := HALL.out w8 HB8.out
      go_wp2_with fail
      clear q0 q1 q2 q3
      go_loopw [17, 115] (fun v i wr => ∃ k : Nat, k ≤ Rn ∧ i = .int .i64 k ∧ Kp (OwnT wr w7.heap.size v (fndF p Rn d ++ rowF T (d : Int) k)) ∧ Kp (Below w7.heap.size w7 wr)) (fun _ i _ => Rn - (intOf i).toNat)
      case atStart => exact ⟨0, Nat.zero_le _, rfl, HO8, HB8⟩
      case round =>
        clear HO8 HB8
        obtain ⟨k, hk, rfl, HO, HB⟩ := hrel
        by_cases hlk : k < Rn
        · have o2 : (k : Int) < (Rn : Int) := by omega
          have o3 : k ≤ 12 := by omega
          have hbt := HBT.out k
          have HRN : Kp (fndF p Rn d ++ rowF T (d : Int) (k + 1) = (fndF p Rn d ++ rowF T (d : Int) k) ++ [⟨(k : Int), (d : Int), T.testBit k⟩]) := ⟨by rw [List.append_assoc]; rfl⟩
          have HLN : Kp ((fndF p Rn d ++ rowF T (d : Int) k).length ≤ 100000) := ⟨by
            rw [List.length_append, HFL.out, rowF_len]
            have : Rn * d ≤ 12 * 5 := Nat.mul_le_mul (by omega) o4
            omega⟩
          obtain ⟨Bt, hBt⟩ : ∃ B, T.testBit k = B := ⟨_, rfl⟩
          rw [hBt] at hbt HRN
          clear hBt
          cases Bt with
          | true =>
            replace hbt : bits .and .i64 ((T : Int) / 2 ^ k) 1 = 1 := hbt
            have hbz := (Below.refl wr.heap.size wr).alloc (Nat.le_refl _) (.cells #[.int .i64 (k : Int), .int .i64 (d : Int), .bool true] 53)
            have hx3 : TpAt (wr.alloc (.cells #[.int .i64 (k : Int), .int .i64 (d : Int), .bool true] 53)) wr.heap.size ⟨(k : Int), (d : Int), true⟩ := ⟨by go_simp, by go_simp, by go_simp⟩
            obtain ⟨g5, c5, w5, hrun, hown, hgrow, hat⟩ := (HO.out.on hbz).next hx3 HLN.out (by have := HB.out.size; rw [World.size_alloc]; omega)
            have hbw : Below w7.heap.size w7 (wr.alloc (.cells #[.int .i64 (k : Int), .int .i64 (d : Int), .bool true] 53)) := HB.out.trans (hbz.mono HB.out.size)
            have HB5 : Kp (Below w7.heap.size w7 w5) := ⟨hbw.grown hgrow hbw.size (fun j hj => ((HO.out.on hbz).lt j hj).1)⟩
            have HO5 : Kp (OwnT w5 w7.heap.size (.slice g5 ((fndF p Rn d).length + (rowF T (d : Int) k).length + 1) c5) (fndF p Rn d ++ rowF T (d : Int) (k + 1))) := ⟨by rw [HRN.out, ← List.length_append]; exact hown⟩
            clear hown hgrow hat hbz hx3 hbw
            go_wp2
            go_roundw
            case rel => exact ⟨k + 1, by omega, by go_num, HO5, HB5⟩
            case measure => simp [intOf]; omega
          | false =>
            replace hbt : bits .and .i64 ((T : Int) / 2 ^ k) 1 = 0 := hbt
            have hbz := (Below.refl wr.heap.size wr).alloc (Nat.le_refl _) (.cells #[.int .i64 (k : Int), .int .i64 (d : Int), .bool false] 53)
            have hx3 : TpAt (wr.alloc (.cells #[.int .i64 (k : Int), .int .i64 (d : Int), .bool false] 53)) wr.heap.size ⟨(k : Int), (d : Int), false⟩ := ⟨by go_simp, by go_simp, by go_simp⟩
            obtain ⟨g5, c5, w5, hrun, hown, hgrow, hat⟩ := (HO.out.on hbz).next hx3 HLN.out (by have := HB.out.size; rw [World.size_alloc]; omega)
            have hbw : Below w7.heap.size w7 (wr.alloc (.cells #[.int .i64 (k : Int), .int .i64 (d : Int), .bool false] 53)) := HB.out.trans (hbz.mono HB.out.size)
            have HB5 : Kp (Below w7.heap.size w7 w5) := ⟨hbw.grown hgrow hbw.size (fun j hj => ((HO.out.on hbz).lt j hj).1)⟩
            have HO5 : Kp (OwnT w5 w7.heap.size (.slice g5 ((fndF p Rn d).length + (rowF T (d : Int) k).length + 1) c5) (fndF p Rn d ++ rowF T (d : Int) (k + 1))) := ⟨by rw [HRN.out, ← List.length_append]; exact hown⟩
            clear hown hgrow hat hbz hx3 hbw
            go_wp2
            go_roundw
            case rel => exact ⟨k + 1, by omega, by go_num, HO5, HB5⟩
            case measure => simp [intOf]; omega
        · have hkn : k = Rn := by omega
          have HO2 : Kp (OwnT wr w7.heap.size u17 (fndF p Rn (d + 1))) := ⟨by rw [HFN.out, ← hkn]; exact hkn ▸ HO.out⟩
          have o2 : ¬ (k : Int) < (Rn : Int) := by omega
          clear HO
          go_wp2
          go_roundw
          case rel => exact ⟨d + 1, by omega, by go_num, HO2, HB⟩
          case measure => simp [intOf]; omega
    · have hdn : d = D + 1 := by omega
      have HTS : Kp (TS wr u17 (fndF p Rn (D + 1))) := ⟨by rw [← hdn]; exact HO.out.ts⟩
      have HBW := Kp.mk (HB7.out.trans (HB.out.mono HB7.out.size))
      obtain ⟨q0, q1, q2, q3⟩ := HALL.out wr HB.out
      have o1 : ¬ (d : Int) < (D : Int) + 1 := by omega
      clear hdn
      go_wp2_with fail
      refine (HFF.out _ _ HBW.out HTS.out).mono ?_
      rintro en w8 ⟨rfl, hb8⟩
      have HB8 := Kp.mk (HBW.out.trans (hb8.mono HBW.out.size))
      clear hb8 q0 q1 q2 q3
      go_wp2_with fail
      refine (HAW.out _).mono ?_
      rintro en w9 ⟨rfl, hb9⟩
      have HB9 := Kp.mk (HB8.out.trans (hb9.mono HB8.out.size))
      clear hb9
      go_wp2
      go_ret
      exact ⟨rfl, HB9.out⟩
theorem fndF_ok {R : Int} {ds : List Dr} {x y : Int} (hk : HouseOk R ds x y) (hV : valB R ds x y = true) {D : Nat} (hD : D ≤ 5) : fitE R ds x y (fndF (fun d => spreadF ds x.toNat d) R.toNat (D + 1)) x = 0 ∧ fitsB ds x.toNat (fndF (fun d => spreadF ds x.toNat d) R.toNat (D + 1)) = true := by
  obtain ⟨r1, r2⟩ := hk.rooms
  have hm : ∀ t ∈ fndF (fun d => spreadF ds x.toNat d) R.toNat (D + 1), ∃ n j : Nat, n < D + 1 ∧ j < R.toNat ∧ t = ⟨(j : Int), (n : Int), (spreadF ds x.toNat n).testBit j⟩ := fun t ht => fndF_mem _ ht
  have hlen : (fndF (fun d => spreadF ds x.toNat d) R.toNat (D + 1)).length ≤ 100 := by
    rw [fndF_len]
    have : R.toNat * (D + 1) ≤ 12 * 6 := Nat.mul_le_mul (by omega) (by omega)
    omega
  have hT : trapsB R (fndF (fun d => spreadF ds x.toNat d) R.toNat (D + 1)) = true := by
    unfold trapsB
    rw [decide_eq_true hlen, Bool.true_and, List.all_eq_true]
    intro t ht
    obtain ⟨n, j, hn, hj, rfl⟩ := hm t ht
    unfold okT
    rw [roomB_ok r1 r2, Bool.and_eq_true, inB_iff, inB_iff]
    simp only
    omega
  have hS : setB R x = true := by
    unfold setB
    rw [Bool.and_eq_true, inB_iff, inB_iff]
    have h1 := hk.inf
    have : ((2 ^ R.toNat : Nat) : Int) = (2 : Int) ^ R.toNat := by simp
    omega
  refine ⟨?_, ?_⟩
  · unfold fitE
    rw [hV, hT, hS]
    rfl
  · unfold fitsB
    rw [List.all_eq_true]
    intro t ht
    obtain ⟨n, j, hn, hj, rfl⟩ := hm t ht
    unfold fitT
    simp
theorem law_traps (R x y begin days : Int) (v u : Value) (ds : List Dr) (ts : List Tp) (w : World) (hv : DS w v ds) (hl : ds.length ≤ 9223372036854775807) (hu : TS w u ts) (htl : ts.length ≤ 9223372036854775807) :
    Calls Try.prog 9 #[.agg #[.int .i64 R, v, .int .i64 x, .int .i64 y], u, .int .i64 begin, .int .i64 days] w fun e w' => e = .returned (.bool true) ∧ Below w.heap.size w w' := by
  obtain ⟨g, c, rfl⟩ := hv.shape
  obtain ⟨gt, ct, rfl⟩ := hu.shape
  by_cases h : ds.length ≤ 50 ∧ (ts.length ≤ 30 ∨ 100 < ts.length ∧ ts.length ≤ 110)
  · obtain ⟨h1, h2⟩ := h
    have ht2 : ts.length ≤ 9223372036854775806 := by omega
    obtain ⟨L, hL⟩ : ∃ L, (if trapE R ds x y ts = 0 then begF ds ts R.toNat else []) = L := ⟨_, rfl⟩
    have hLl : L.length ≤ 9223372036854775806 := by
      rw [← hL]
      split
      · next hE =>
        have := begF_len ds ts R.toNat
        have := (valB_ok (chkE_zero hE).1).rooms
        omega
      · simp
    have HF1 : ∀ W, Below w.heap.size w W → Calls Try.prog 40 #[.agg #[.int .i64 R, .slice g ds.length c, .int .i64 x, .int .i64 y], .slice gt ts.length ct, .int .i64 begin] W fun e w' => e = .returned (.tuple #[.bool (if fitE R ds x y ts begin = 0 then fitsB ds begin.toNat ts else false), .int .i64 (fitE R ds x y ts begin)]) ∧ Below W.heap.size W w' := fun W hW => by
      rw [← boolE_val]; exact Fits_any R x y begin _ _ ds ts W (hv.below hW) hl (hu.below hW) htl
    have HF2 : ∀ W, Below w.heap.size w W → Calls Try.prog 41 #[.agg #[.int .i64 R, .slice g ds.length c, .int .i64 x, .int .i64 y], .slice gt ts.length ct, .int .i64 begin] W fun e w' => e = .returned (.tuple #[.bool (if fitE R ds x y ts begin = 0 then fitsB ds begin.toNat ts else false), .int .i64 (fitE R ds x y ts begin)]) ∧ Below W.heap.size W w' := fun W hW => by
      rw [← boolE_val]; exact rFits_any R x y begin _ _ ds ts W (hv.below hW) hl (hu.below hW) ht2
    have HG1 : ∀ W, Below w.heap.size w W → Calls Try.prog 42 #[.agg #[.int .i64 R, .slice g ds.length c, .int .i64 x, .int .i64 y], .slice gt ts.length ct] W fun e w' => ∃ r, e = .returned (.tuple #[r, .int .i64 (trapE R ds x y ts)]) ∧ IS w' r L ∧ Below W.heap.size W w' := fun W hW => hL ▸ Begins_any R x y _ _ ds ts W (hv.below hW) hl (hu.below hW) htl
    have HG2 : ∀ W, Below w.heap.size w W → Calls Try.prog 43 #[.agg #[.int .i64 R, .slice g ds.length c, .int .i64 x, .int .i64 y], .slice gt ts.length ct] W fun e w' => ∃ r, e = .returned (.tuple #[r, .int .i64 (trapE R ds x y ts)]) ∧ IS w' r L ∧ Below W.heap.size W w' := fun W hW => hL ▸ rBegins_any R x y _ _ ds ts W (hv.below hW) hl (hu.below hW) ht2
    have HSI : ∀ W v u, IS W v L → IS W u L → Calls Try.prog 39 #[v, u] W fun e w' => e = .returned (.bool true) ∧ Below W.heap.size W w' := fun W v u h1 h2 => sameInts_any v u L W h1 h2 hLl
    have HVA : ∀ W, Below w.heap.size w W → Calls Try.prog 19 #[.agg #[.int .i64 R, .slice g ds.length c, .int .i64 x, .int .i64 y]] W fun e w' => e = .returned (.bool (valB R ds x y)) ∧ Below W.heap.size W w' := fun W hW => Valid_any R x y _ ds W (hv.below hW) hl
    by_cases h3 : valB R ds x y = false ∨ days < 0 ∨ 5 < days
    · rcases h2 with h2 | h2
      · exact traps_dull_a R x y begin days g ds.length c gt ts.length ct w _ _ _ _ L h1 h2 h3 ⟨HF1⟩ ⟨HF2⟩ ⟨HG1⟩ ⟨HG2⟩ ⟨HSI⟩ ⟨HVA⟩
      · exact traps_dull_b R x y begin days g ds.length c gt ts.length ct w _ _ _ _ L h1 h2 h3 ⟨HF1⟩ ⟨HF2⟩ ⟨HG1⟩ ⟨HG2⟩ ⟨HSI⟩ ⟨HVA⟩
    · have hV : valB R ds x y = true := by
        cases e : valB R ds x y with
        | true => rfl
        | false => exact absurd (.inl e) h3
      have hk := valB_ok hV
      obtain ⟨r1, r2⟩ := hk.rooms
      obtain ⟨D, rfl⟩ := Int.eq_ofNat_of_zero_le (show 0 ≤ days by omega)
      have hD : D ≤ 5 := by omega
      rw [hV] at HVA
      obtain ⟨f1, f2⟩ := fndF_ok hk hV hD
      have hlt : ∀ k, spreadF ds x.toNat k < 4096 := fun k => spreadF_lt (hk.at_.inn (by omega)) (lt_4096b hk.inf.2 r2) k
      have HSPR : ∀ (d : Nat) W, d ≤ 5 → Below w.heap.size w W → Calls Try.prog 13 #[.agg #[.int .i64 R, .slice g ds.length c, .int .i64 x, .int .i64 y], .slice none 0 0, .int .i64 (d : Nat)] W fun e w' => e = .returned (.tuple #[.int .i64 (spreadF ds x.toNat d : Nat), .int .i64 0]) ∧ Below W.heap.size W w' := fun d W hd hW => by
        have := Spread_any R x y (d : Nat) _ (.slice none 0 0) ds [] W (hv.below hW) hl (is_nil W) (by simp)
        have e1 : sprE R ds x y [] (d : Nat) = 0 := by
          unfold sprE
          rw [hV, show inB 0 100 ((d : Nat) : Int) = true from inB_iff.2 ⟨by omega, by omega⟩]
          rfl
        have e2 : sprT ds x [] (d : Nat) = spreadF ds x.toNat d := by
          unfold sprT
          rw [openF_nil, Int.toNat_natCast]
        rw [e1, e2] at this
        exact this
      have HFF : ∀ W v, Below w.heap.size w W → TS W v (fndF (fun d => spreadF ds x.toNat d) R.toNat (D + 1)) → Calls Try.prog 40 #[.agg #[.int .i64 R, .slice g ds.length c, .int .i64 x, .int .i64 y], v, .int .i64 x] W fun e w' => e = .returned (.tuple #[.bool true, .int .i64 0]) ∧ Below W.heap.size W w' := fun W v hW hv2 => by
        have := Fits_any R x y x _ v ds _ W (hv.below hW) hl hv2 (by
          rw [fndF_len]
          have : R.toNat * (D + 1) ≤ 12 * 6 := Nat.mul_le_mul (by omega) (by omega)
          omega)
        rw [f1, f2] at this
        exact this
      clear hL hLl f1 f2 hk hV h3
      generalize (if fitE R ds x y ts begin = 0 then fitsB ds begin.toNat ts else false) = FQ at HF1 HF2
      generalize fitE R ds x y ts begin = FE at HF1 HF2
      generalize trapE R ds x y ts = TE at HG1 HG2
      obtain ⟨Rn, rfl⟩ := Int.eq_ofNat_of_zero_le (show 0 ≤ R by omega)
      rw [Int.toNat_natCast] at HFF
      rcases h2 with h2 | h2
      · exact traps_full_a x y begin Rn D g ds.length c gt ts.length ct w _ _ _ L (fun d => spreadF ds x.toNat d) h1 h2 hD (by omega) ⟨hlt⟩ ⟨HF1⟩ ⟨HF2⟩ ⟨HG1⟩ ⟨HG2⟩ ⟨HSI⟩ ⟨HVA⟩ ⟨HSPR⟩ ⟨HFF⟩
      · exact traps_full_b x y begin Rn D g ds.length c gt ts.length ct w _ _ _ L (fun d => spreadF ds x.toNat d) h1 h2 hD (by omega) ⟨hlt⟩ ⟨HF1⟩ ⟨HF2⟩ ⟨HG1⟩ ⟨HG2⟩ ⟨HSI⟩ ⟨HVA⟩ ⟨HSPR⟩ ⟨HFF⟩
  · exact traps_out R x y begin days g ds.length c gt ts.length ct w h
end Go.Proofs.Ythkamfjjfkpekaa.Pe
