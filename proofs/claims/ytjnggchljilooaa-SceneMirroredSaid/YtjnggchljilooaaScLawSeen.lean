/-
  WALKS (layer 7, scene): the law SceneSeen.
-/
import Derived.Test.YtjnggchljilooaaScCrsA
import Derived.Test.YtjnggchljilooaaScAwake
namespace Go.Proofs.Ytjnggchljilooaa.Sc
open Go Go.RowKit Go.Sort

set_option maxRecDepth 100000 in
set_option maxHeartbeats 4000000 in
theorem law_seen_st (wd dp ex eb eh x y h r : Int) (g : Option Addr) (M c : Nat) (L1 L3 : List Int) (E1 E3 J CX CY LE : Int) (S : Bool) (w : World)
    (HC1 : Kp (∀ W, Below w.heap.size w W → Calls Try.prog 27 #[.agg #[.int .i64 wd, .int .i64 dp, .slice g M c], .agg #[.int .i64 ex, .int .i64 eb, .int .i64 eh], .int .i64 x, .int .i64 y, .int .i64 r] W fun en w' => (∃ u, en = .returned (.tuple #[.int .i64 (L1).length, u, .int .i64 E1]) ∧ IS w' u L1) ∧ Below W.heap.size W w'))
    (HC2 : Kp (∀ W, Below w.heap.size w W → Calls Try.prog 28 #[.agg #[.int .i64 wd, .int .i64 dp, .slice g M c], .agg #[.int .i64 ex, .int .i64 eb, .int .i64 eh], .int .i64 x, .int .i64 y, .int .i64 r] W fun en w' => (∃ u, en = .returned (.tuple #[.int .i64 (L1).length, u, .int .i64 E1]) ∧ IS w' u L1) ∧ Below W.heap.size W w'))
    (HS1 : Kp (∀ W, Below w.heap.size w W → Calls Try.prog 29 #[.agg #[.int .i64 wd, .int .i64 dp, .slice g M c], .agg #[.int .i64 ex, .int .i64 eb, .int .i64 eh], .int .i64 x, .int .i64 y, .int .i64 h] W fun en w' => en = .returned (.tuple #[.bool S, .int .i64 J]) ∧ Below W.heap.size W w'))
    (HS2 : Kp (∀ W, Below w.heap.size w W → Calls Try.prog 30 #[.agg #[.int .i64 wd, .int .i64 dp, .slice g M c], .agg #[.int .i64 ex, .int .i64 eb, .int .i64 eh], .int .i64 x, .int .i64 y, .int .i64 h] W fun en w' => en = .returned (.tuple #[.bool S, .int .i64 J]) ∧ Below W.heap.size W w'))
    (HH1 : Kp (∀ W, Below w.heap.size w W → Calls Try.prog 31 #[.agg #[.int .i64 wd, .int .i64 dp, .slice g M c], .agg #[.int .i64 ex, .int .i64 eb, .int .i64 eh], .int .i64 x, .int .i64 y, .int .i64 h] W fun en w' => en = .returned (.tuple #[.int .i64 CX, .int .i64 CY, .int .i64 LE]) ∧ Below W.heap.size W w'))
    (HH2 : Kp (∀ W, Below w.heap.size w W → Calls Try.prog 32 #[.agg #[.int .i64 wd, .int .i64 dp, .slice g M c], .agg #[.int .i64 ex, .int .i64 eb, .int .i64 eh], .int .i64 x, .int .i64 y, .int .i64 h] W fun en w' => en = .returned (.tuple #[.int .i64 CX, .int .i64 CY, .int .i64 LE]) ∧ Below W.heap.size W w'))
    (HC3 : Kp (∀ W, Below w.heap.size w W → Calls Try.prog 27 #[.agg #[.int .i64 wd, .int .i64 dp, .slice g M c], .agg #[.int .i64 ex, .int .i64 eb, .int .i64 eh], .int .i64 x, .int .i64 y, .int .i64 CY] W fun en w' => (∃ u, en = .returned (.tuple #[.int .i64 (L3).length, u, .int .i64 E3]) ∧ IS w' u L3) ∧ Below W.heap.size W w'))
    (HSI : Kp (∀ W u v, IS W u L1 → IS W v L1 → Calls Try.prog 33 #[u, v] W fun e w' => e = .returned (.bool true) ∧ Below W.heap.size W w'))
    (HN : Kp (L3.length ≤ 1000)) (HF : Kp (J ≠ 0 ∨ (J = 0 ∧ S = true ∧ LE = 8) ∨ (J = 0 ∧ S = false ∧ LE = 0 ∧ E3 = 0 ∧ CX ∈ L3))) :
    Calls Try.prog 4 #[.agg #[.int .i64 wd, .int .i64 dp, .slice g M c], .agg #[.int .i64 ex, .int .i64 eb, .int .i64 eh], .int .i64 x, .int .i64 y, .int .i64 h, .int .i64 r] w fun e w' => e = .returned (.bool true) ∧ Below w.heap.size w w' := by
  have HAW := Kp.mk (fun W => awake_any W)
  go_enter Try.func4, Try.ntmps4
  by_cases hM : (600 : Int) < (M : Int)
  · clear HF HC1 HC2 HS1 HS2 HH1 HH2 HC3 HSI HN
    go_wp2_with fail
    refine (HAW.out _).mono ?_
    rintro en w9 ⟨rfl, hb9⟩
    have HB9 : Kp (Below w.heap.size w w9) := ⟨Below.trans (by repeat (first | exact Below.refl _ _ | refine Below.alloc ?_ (by simp <;> omega) _ | refine bDrewN ?_ _ | refine Below.drew ?_)) (hb9.mono (by simp <;> omega))⟩
    clear hb9
    go_wp2
    go_ret
    exact ⟨rfl, HB9.out⟩
  go_wp2_with fail
  clear hM
  refine (HC1.out _ (by repeat (first | exact Below.refl _ _ | refine Below.alloc ?_ (by simp <;> omega) _ | refine bDrewN ?_ _ | refine Below.drew ?_))).mono ?_
  rintro en w1 ⟨⟨u1, rfl, hu1⟩, hb1⟩
  obtain ⟨g1, c1, rfl⟩ := hu1.shape
  have HU1 := Kp.mk hu1
  clear hu1 HC1
  have HB1 : Kp (Below w.heap.size w w1) := ⟨Below.trans (by repeat (first | refine Below.alloc ?_ (by (try simp) <;> omega) _ | refine bDrewN ?_ _ | refine Below.drew ?_ | refine Below.setCell ?_ (by (try simp) <;> omega) _ | exact Below.refl _ _)) (hb1.mono (by (try simp) <;> omega))⟩
  have hz1_0 : w.heap.size < w1.heap.size := by have := hb1.size; (try simp at this); omega
  have hz1_1 : w.heap.size + 1 < w1.heap.size := by have := hb1.size; (try simp at this); omega
  obtain ⟨hc, hf⟩ := bcell hb1
  have c1_0_0 : w1.cell? ⟨w.heap.size, 0, none⟩ = some (.int .i64 wd) := (hc _ _ (by (try simp) <;> omega)).trans (by go_simp)
  have c1_0_1 : w1.cell? ⟨w.heap.size, 1, none⟩ = some (.int .i64 dp) := (hc _ _ (by (try simp) <;> omega)).trans (by go_simp)
  have c1_0_2 : w1.cell? ⟨w.heap.size, 2, none⟩ = some ((.slice g M c)) := (hc _ _ (by (try simp) <;> omega)).trans (by go_simp)
  have z1_0 : ∀ j, w1.frozen? ⟨w.heap.size, j, none⟩ = false := fun j => (hf _ _ (by (try simp) <;> omega)).trans (by go_simp)
  have c1_1_0 : w1.cell? ⟨w.heap.size + 1, 0, none⟩ = some (.int .i64 ex) := (hc _ _ (by (try simp) <;> omega)).trans (by go_simp)
  have c1_1_1 : w1.cell? ⟨w.heap.size + 1, 1, none⟩ = some (.int .i64 eb) := (hc _ _ (by (try simp) <;> omega)).trans (by go_simp)
  have c1_1_2 : w1.cell? ⟨w.heap.size + 1, 2, none⟩ = some (.int .i64 eh) := (hc _ _ (by (try simp) <;> omega)).trans (by go_simp)
  have z1_1 : ∀ j, w1.frozen? ⟨w.heap.size + 1, j, none⟩ = false := fun j => (hf _ _ (by (try simp) <;> omega)).trans (by go_simp)
  clear hc hf hb1
  go_wp2_with fail
  refine (HC2.out _ HB1.out).mono ?_
  rintro en w2 ⟨⟨u2, rfl, hu2⟩, hb2⟩
  obtain ⟨g2, c2, rfl⟩ := hu2.shape
  have HU2 := Kp.mk hu2
  have HU1 := Kp.mk (HU1.out.below hb2)
  clear hu2 HC2
  have HB2 : Kp (Below w.heap.size w w2) := ⟨Below.trans (by repeat (first | refine Below.alloc ?_ (by have := HB1.out.size; (try simp) <;> omega) _ | refine bDrewN ?_ _ | refine Below.drew ?_ | refine Below.setCell ?_ (by have := HB1.out.size; (try simp) <;> omega) _ | exact HB1.out)) (hb2.mono (by have := HB1.out.size; (try simp) <;> omega))⟩
  have hz2_0 : w.heap.size < w2.heap.size := by have := hb2.size; (try simp at this); omega
  have hz2_1 : w.heap.size + 1 < w2.heap.size := by have := hb2.size; (try simp at this); omega
  obtain ⟨hc, hf⟩ := bcell hb2
  have c2_0_0 : w2.cell? ⟨w.heap.size, 0, none⟩ = some (.int .i64 wd) := (hc _ _ (by (try simp) <;> omega)).trans (by go_simp)
  have c2_0_1 : w2.cell? ⟨w.heap.size, 1, none⟩ = some (.int .i64 dp) := (hc _ _ (by (try simp) <;> omega)).trans (by go_simp)
  have c2_0_2 : w2.cell? ⟨w.heap.size, 2, none⟩ = some ((.slice g M c)) := (hc _ _ (by (try simp) <;> omega)).trans (by go_simp)
  have z2_0 : ∀ j, w2.frozen? ⟨w.heap.size, j, none⟩ = false := fun j => (hf _ _ (by (try simp) <;> omega)).trans (by go_simp)
  have c2_1_0 : w2.cell? ⟨w.heap.size + 1, 0, none⟩ = some (.int .i64 ex) := (hc _ _ (by (try simp) <;> omega)).trans (by go_simp)
  have c2_1_1 : w2.cell? ⟨w.heap.size + 1, 1, none⟩ = some (.int .i64 eb) := (hc _ _ (by (try simp) <;> omega)).trans (by go_simp)
  have c2_1_2 : w2.cell? ⟨w.heap.size + 1, 2, none⟩ = some (.int .i64 eh) := (hc _ _ (by (try simp) <;> omega)).trans (by go_simp)
  have z2_1 : ∀ j, w2.frozen? ⟨w.heap.size + 1, j, none⟩ = false := fun j => (hf _ _ (by (try simp) <;> omega)).trans (by go_simp)
  clear hc hf hb2
  go_wp2_with fail
  refine (HS1.out _ HB2.out).mono ?_
  rintro en w3 ⟨rfl, hb3⟩
  have HU1 := Kp.mk (HU1.out.below hb3)
  have HU2 := Kp.mk (HU2.out.below hb3)
  clear HS1
  have HB3 : Kp (Below w.heap.size w w3) := ⟨Below.trans (by repeat (first | refine Below.alloc ?_ (by have := HB2.out.size; (try simp) <;> omega) _ | refine bDrewN ?_ _ | refine Below.drew ?_ | refine Below.setCell ?_ (by have := HB2.out.size; (try simp) <;> omega) _ | exact HB2.out)) (hb3.mono (by have := HB2.out.size; (try simp) <;> omega))⟩
  have hz3_0 : w.heap.size < w3.heap.size := by have := hb3.size; (try simp at this); omega
  have hz3_1 : w.heap.size + 1 < w3.heap.size := by have := hb3.size; (try simp at this); omega
  obtain ⟨hc, hf⟩ := bcell hb3
  have c3_0_0 : w3.cell? ⟨w.heap.size, 0, none⟩ = some (.int .i64 wd) := (hc _ _ (by (try simp) <;> omega)).trans (by go_simp)
  have c3_0_1 : w3.cell? ⟨w.heap.size, 1, none⟩ = some (.int .i64 dp) := (hc _ _ (by (try simp) <;> omega)).trans (by go_simp)
  have c3_0_2 : w3.cell? ⟨w.heap.size, 2, none⟩ = some ((.slice g M c)) := (hc _ _ (by (try simp) <;> omega)).trans (by go_simp)
  have z3_0 : ∀ j, w3.frozen? ⟨w.heap.size, j, none⟩ = false := fun j => (hf _ _ (by (try simp) <;> omega)).trans (by go_simp)
  have c3_1_0 : w3.cell? ⟨w.heap.size + 1, 0, none⟩ = some (.int .i64 ex) := (hc _ _ (by (try simp) <;> omega)).trans (by go_simp)
  have c3_1_1 : w3.cell? ⟨w.heap.size + 1, 1, none⟩ = some (.int .i64 eb) := (hc _ _ (by (try simp) <;> omega)).trans (by go_simp)
  have c3_1_2 : w3.cell? ⟨w.heap.size + 1, 2, none⟩ = some (.int .i64 eh) := (hc _ _ (by (try simp) <;> omega)).trans (by go_simp)
  have z3_1 : ∀ j, w3.frozen? ⟨w.heap.size + 1, j, none⟩ = false := fun j => (hf _ _ (by (try simp) <;> omega)).trans (by go_simp)
  clear hc hf hb3
  go_wp2_with fail
  refine (HS2.out _ HB3.out).mono ?_
  rintro en w4 ⟨rfl, hb4⟩
  have HU1 := Kp.mk (HU1.out.below hb4)
  have HU2 := Kp.mk (HU2.out.below hb4)
  clear HS2
  have HB4 : Kp (Below w.heap.size w w4) := ⟨Below.trans (by repeat (first | refine Below.alloc ?_ (by have := HB3.out.size; (try simp) <;> omega) _ | refine bDrewN ?_ _ | refine Below.drew ?_ | refine Below.setCell ?_ (by have := HB3.out.size; (try simp) <;> omega) _ | exact HB3.out)) (hb4.mono (by have := HB3.out.size; (try simp) <;> omega))⟩
  have hz4_0 : w.heap.size < w4.heap.size := by have := hb4.size; (try simp at this); omega
  have hz4_1 : w.heap.size + 1 < w4.heap.size := by have := hb4.size; (try simp at this); omega
  obtain ⟨hc, hf⟩ := bcell hb4
  have c4_0_0 : w4.cell? ⟨w.heap.size, 0, none⟩ = some (.int .i64 wd) := (hc _ _ (by (try simp) <;> omega)).trans (by go_simp)
  have c4_0_1 : w4.cell? ⟨w.heap.size, 1, none⟩ = some (.int .i64 dp) := (hc _ _ (by (try simp) <;> omega)).trans (by go_simp)
  have c4_0_2 : w4.cell? ⟨w.heap.size, 2, none⟩ = some ((.slice g M c)) := (hc _ _ (by (try simp) <;> omega)).trans (by go_simp)
  have z4_0 : ∀ j, w4.frozen? ⟨w.heap.size, j, none⟩ = false := fun j => (hf _ _ (by (try simp) <;> omega)).trans (by go_simp)
  have c4_1_0 : w4.cell? ⟨w.heap.size + 1, 0, none⟩ = some (.int .i64 ex) := (hc _ _ (by (try simp) <;> omega)).trans (by go_simp)
  have c4_1_1 : w4.cell? ⟨w.heap.size + 1, 1, none⟩ = some (.int .i64 eb) := (hc _ _ (by (try simp) <;> omega)).trans (by go_simp)
  have c4_1_2 : w4.cell? ⟨w.heap.size + 1, 2, none⟩ = some (.int .i64 eh) := (hc _ _ (by (try simp) <;> omega)).trans (by go_simp)
  have z4_1 : ∀ j, w4.frozen? ⟨w.heap.size + 1, j, none⟩ = false := fun j => (hf _ _ (by (try simp) <;> omega)).trans (by go_simp)
  clear hc hf hb4
  go_wp2_with fail
  refine (HH1.out _ HB4.out).mono ?_
  rintro en w5 ⟨rfl, hb5⟩
  have HU1 := Kp.mk (HU1.out.below hb5)
  have HU2 := Kp.mk (HU2.out.below hb5)
  clear HH1
  have HB5 : Kp (Below w.heap.size w w5) := ⟨Below.trans (by repeat (first | refine Below.alloc ?_ (by have := HB4.out.size; (try simp) <;> omega) _ | refine bDrewN ?_ _ | refine Below.drew ?_ | refine Below.setCell ?_ (by have := HB4.out.size; (try simp) <;> omega) _ | exact HB4.out)) (hb5.mono (by have := HB4.out.size; (try simp) <;> omega))⟩
  have hz5_0 : w.heap.size < w5.heap.size := by have := hb5.size; (try simp at this); omega
  have hz5_1 : w.heap.size + 1 < w5.heap.size := by have := hb5.size; (try simp at this); omega
  obtain ⟨hc, hf⟩ := bcell hb5
  have c5_0_0 : w5.cell? ⟨w.heap.size, 0, none⟩ = some (.int .i64 wd) := (hc _ _ (by (try simp) <;> omega)).trans (by go_simp)
  have c5_0_1 : w5.cell? ⟨w.heap.size, 1, none⟩ = some (.int .i64 dp) := (hc _ _ (by (try simp) <;> omega)).trans (by go_simp)
  have c5_0_2 : w5.cell? ⟨w.heap.size, 2, none⟩ = some ((.slice g M c)) := (hc _ _ (by (try simp) <;> omega)).trans (by go_simp)
  have z5_0 : ∀ j, w5.frozen? ⟨w.heap.size, j, none⟩ = false := fun j => (hf _ _ (by (try simp) <;> omega)).trans (by go_simp)
  have c5_1_0 : w5.cell? ⟨w.heap.size + 1, 0, none⟩ = some (.int .i64 ex) := (hc _ _ (by (try simp) <;> omega)).trans (by go_simp)
  have c5_1_1 : w5.cell? ⟨w.heap.size + 1, 1, none⟩ = some (.int .i64 eb) := (hc _ _ (by (try simp) <;> omega)).trans (by go_simp)
  have c5_1_2 : w5.cell? ⟨w.heap.size + 1, 2, none⟩ = some (.int .i64 eh) := (hc _ _ (by (try simp) <;> omega)).trans (by go_simp)
  have z5_1 : ∀ j, w5.frozen? ⟨w.heap.size + 1, j, none⟩ = false := fun j => (hf _ _ (by (try simp) <;> omega)).trans (by go_simp)
  clear hc hf hb5
  go_wp2_with fail
  refine (HH2.out _ HB5.out).mono ?_
  rintro en w6 ⟨rfl, hb6⟩
  have HU1 := Kp.mk (HU1.out.below hb6)
  have HU2 := Kp.mk (HU2.out.below hb6)
  clear HH2
  have HB6 : Kp (Below w.heap.size w w6) := ⟨Below.trans (by repeat (first | refine Below.alloc ?_ (by have := HB5.out.size; (try simp) <;> omega) _ | refine bDrewN ?_ _ | refine Below.drew ?_ | refine Below.setCell ?_ (by have := HB5.out.size; (try simp) <;> omega) _ | exact HB5.out)) (hb6.mono (by have := HB5.out.size; (try simp) <;> omega))⟩
  have hz6_0 : w.heap.size < w6.heap.size := by have := hb6.size; (try simp at this); omega
  have hz6_1 : w.heap.size + 1 < w6.heap.size := by have := hb6.size; (try simp at this); omega
  obtain ⟨hc, hf⟩ := bcell hb6
  have c6_0_0 : w6.cell? ⟨w.heap.size, 0, none⟩ = some (.int .i64 wd) := (hc _ _ (by (try simp) <;> omega)).trans (by go_simp)
  have c6_0_1 : w6.cell? ⟨w.heap.size, 1, none⟩ = some (.int .i64 dp) := (hc _ _ (by (try simp) <;> omega)).trans (by go_simp)
  have c6_0_2 : w6.cell? ⟨w.heap.size, 2, none⟩ = some ((.slice g M c)) := (hc _ _ (by (try simp) <;> omega)).trans (by go_simp)
  have z6_0 : ∀ j, w6.frozen? ⟨w.heap.size, j, none⟩ = false := fun j => (hf _ _ (by (try simp) <;> omega)).trans (by go_simp)
  have c6_1_0 : w6.cell? ⟨w.heap.size + 1, 0, none⟩ = some (.int .i64 ex) := (hc _ _ (by (try simp) <;> omega)).trans (by go_simp)
  have c6_1_1 : w6.cell? ⟨w.heap.size + 1, 1, none⟩ = some (.int .i64 eb) := (hc _ _ (by (try simp) <;> omega)).trans (by go_simp)
  have c6_1_2 : w6.cell? ⟨w.heap.size + 1, 2, none⟩ = some (.int .i64 eh) := (hc _ _ (by (try simp) <;> omega)).trans (by go_simp)
  have z6_1 : ∀ j, w6.frozen? ⟨w.heap.size + 1, j, none⟩ = false := fun j => (hf _ _ (by (try simp) <;> omega)).trans (by go_simp)
  clear hc hf hb6
  go_wp2_with fail
  refine (HSI.out _ _ _ HU1.out HU2.out).mono ?_
  rintro en w7 ⟨rfl, hb7⟩
  clear HSI HU1 HU2
  have HB7 : Kp (Below w.heap.size w w7) := ⟨Below.trans (by repeat (first | refine Below.alloc ?_ (by have := HB6.out.size; (try simp) <;> omega) _ | refine bDrewN ?_ _ | refine Below.drew ?_ | refine Below.setCell ?_ (by have := HB6.out.size; (try simp) <;> omega) _ | exact HB6.out)) (hb7.mono (by have := HB6.out.size; (try simp) <;> omega))⟩
  have hz7_0 : w.heap.size < w7.heap.size := by have := hb7.size; (try simp at this); omega
  have hz7_1 : w.heap.size + 1 < w7.heap.size := by have := hb7.size; (try simp at this); omega
  obtain ⟨hc, hf⟩ := bcell hb7
  have c7_0_0 : w7.cell? ⟨w.heap.size, 0, none⟩ = some (.int .i64 wd) := (hc _ _ (by (try simp) <;> omega)).trans (by go_simp)
  have c7_0_1 : w7.cell? ⟨w.heap.size, 1, none⟩ = some (.int .i64 dp) := (hc _ _ (by (try simp) <;> omega)).trans (by go_simp)
  have c7_0_2 : w7.cell? ⟨w.heap.size, 2, none⟩ = some ((.slice g M c)) := (hc _ _ (by (try simp) <;> omega)).trans (by go_simp)
  have z7_0 : ∀ j, w7.frozen? ⟨w.heap.size, j, none⟩ = false := fun j => (hf _ _ (by (try simp) <;> omega)).trans (by go_simp)
  have c7_1_0 : w7.cell? ⟨w.heap.size + 1, 0, none⟩ = some (.int .i64 ex) := (hc _ _ (by (try simp) <;> omega)).trans (by go_simp)
  have c7_1_1 : w7.cell? ⟨w.heap.size + 1, 1, none⟩ = some (.int .i64 eb) := (hc _ _ (by (try simp) <;> omega)).trans (by go_simp)
  have c7_1_2 : w7.cell? ⟨w.heap.size + 1, 2, none⟩ = some (.int .i64 eh) := (hc _ _ (by (try simp) <;> omega)).trans (by go_simp)
  have z7_1 : ∀ j, w7.frozen? ⟨w.heap.size + 1, j, none⟩ = false := fun j => (hf _ _ (by (try simp) <;> omega)).trans (by go_simp)
  clear hc hf hb7
  have t1 : (J != J) = false := by simp
  have t2 : (LE != LE) = false := by simp
  have t3 : (CX != CX) = false := by simp
  have t4 : (CY != CY) = false := by simp
  have t5 : (E1 != E1) = false := by simp
  rcases HF.out with hJ | ⟨rfl, rfl, rfl⟩ | ⟨rfl, rfl, rfl, rfl, hmem⟩
  · have j0 : (J != (0 : Int)) = true := by simp [hJ]
    clear hJ HF HC3 HN
    go_wp2_with fail
    refine (HAW.out _).mono ?_
    rintro en w8 ⟨rfl, hb8⟩
    have HB8 : Kp (Below w.heap.size w w8) := ⟨by have := HB7.out.size; refine HB7.out.trans (Below.trans ?_ (hb8.mono (by (try simp) <;> omega))); repeat (first | exact Below.refl _ _ | refine Below.alloc ?_ (by (try simp) <;> omega) _ | refine Below.setCell ?_ (by (try simp) <;> omega) _)⟩
    clear hb8
    go_wp2
    go_ret
    exact ⟨rfl, HB8.out⟩
  · clear HF HC3 HN
    go_wp2_with fail
    refine (HAW.out _).mono ?_
    rintro en w8 ⟨rfl, hb8⟩
    have HB8 : Kp (Below w.heap.size w w8) := ⟨by have := HB7.out.size; refine HB7.out.trans (Below.trans ?_ (hb8.mono (by (try simp) <;> omega))); repeat (first | exact Below.refl _ _ | refine Below.alloc ?_ (by (try simp) <;> omega) _ | refine Below.setCell ?_ (by (try simp) <;> omega) _)⟩
    clear hb8
    go_wp2
    go_ret
    exact ⟨rfl, HB8.out⟩
  · have HM := Kp.mk hmem
    clear HF hmem
    go_wp2_with fail
    refine (HC3.out _ HB7.out).mono ?_
    rintro en w8 ⟨⟨u3, rfl, hu3⟩, hb8⟩
    obtain ⟨g3, c3, rfl, -, hi3⟩ := hu3
    have HI3 := Kp.mk hi3
    have HB8 := Kp.mk (HB7.out.trans (hb8.mono HB7.out.size))
    obtain ⟨n, hn⟩ : ∃ n, L3.length = n := ⟨_, rfl⟩
    have HLN := Kp.mk hn
    rw [hn] at HN ⊢
    clear hi3 hb8 hn HC3 c7_0_0 c7_0_1 c7_0_2 c7_1_0 c7_1_1 c7_1_2 z7_0 z7_1 hz7_0 hz7_1
    go_wp2_with fail
    go_loopw [164] (fun i wr => ∃ k : Nat, k ≤ n ∧ i = .int .i64 k ∧ Kp (∀ z ∈ L3.take k, z ≠ CX) ∧ Kp (Below w8.heap.size w8 wr)) (fun i _ => n - (intOf i).toNat)
    case atStart => exact ⟨0, Nat.zero_le _, rfl, ⟨fun z hz => by simp at hz⟩, ⟨Below.refl _ _⟩⟩
    case round =>
      obtain ⟨k, hk, rfl, HZ, HB⟩ := hrel
      by_cases hlt : k < n
      · obtain ⟨z, hz⟩ : ∃ z, L3[k]? = some z := ⟨_, List.getElem?_eq_getElem (by rw [HLN.out]; exact hlt)⟩
        obtain ⟨b', o', rfl, hcz⟩ := HI3.out k z hz
        have c1 := (HB.out.cell (p := ⟨b', o' + k, none⟩) (World.block_lt_of_cell? _ _ hcz)).trans hcz
        have p1 : (k : Int) < (n : Int) := by omega
        have p5 : k ≤ 1000 := by have := HN.out; omega
        have HBX := Kp.mk (HB8.out.trans (HB.out.mono HB8.out.size))
        have HZZ := Kp.mk hz
        clear hcz hz
        by_cases hzc : z = CX
        · subst hzc
          clear HZZ HZ
          go_wp2_with fail
          refine (HAW.out _).mono ?_
          rintro en w9 ⟨rfl, hb9⟩
          have HB9 : Kp (Below w.heap.size w w9) := ⟨HBX.out.trans (hb9.mono HBX.out.size)⟩
          clear hb9
          go_wp2
          go_ret
          exact ⟨rfl, HB9.out⟩
        · have q1 : (z == CX) = false := by simp [hzc]
          have HZ2 : Kp (∀ z ∈ L3.take (k + 1), z ≠ CX) := ⟨fun t ht => by
            rw [List.take_add_one, HZZ.out] at ht
            rcases List.mem_append.1 ht with ht | ht
            · exact HZ.out t ht
            · simp at ht; subst ht; exact hzc⟩
          have HZC := Kp.mk hzc
          clear hzc HZZ HZ
          go_wp2
          go_roundw
          case rel => exact ⟨k + 1, by omega, by go_num, HZ2, HB⟩
          case measure => simp [intOf]; omega
      · exfalso
        have hkn : k = n := by omega
        have hall := HZ.out
        rw [hkn, ← HLN.out, List.take_length] at hall
        exact hall CX HM.out rfl
def hvX (E : Int) (o : Option (Int × Int)) : Int := if E = 0 then (o.map (·.1)).getD 0 else 0
def hvY (E : Int) (o : Option (Int × Int)) : Int := if E = 0 then (o.map (·.2)).getD 0 else 0
def hvE (E : Int) (o : Option (Int × Int)) : Int := if E = 0 then (if o.isNone then 8 else 0) else E
theorem hidesV_eq (E : Int) (o : Option (Int × Int)) : hidesV E o = .tuple #[.int .i64 (hvX E o), .int .i64 (hvY E o), .int .i64 (hvE E o)] := by
  unfold hidesV hvX hvY hvE
  split
  · subst_vars
    cases o with
    | none => rfl
    | some p => rfl
  · rfl
theorem seenV_two (E : Int) (o : Option (Int × Int)) : seenV E o = .tuple #[.bool (decide (E = 0) && o.isNone), .int .i64 E] := by
  unfold seenV
  split
  · subst_vars; simp
  · rename_i h; simp [h]
/-- What hides a point is over one of the cells that its row crosses, in a row before it. -/
theorem hid_mem {wd : Int} {L : List Int} {e : Ey} {x : Int} {y : Nat} {h : Int} {c r : Int} (hh : hid wd L e x y h = some (c, r)) : (0 ≤ r ∧ r ≤ (y : Int) - 1) ∧ c ∈ colL e x y r := by
  unfold hid at hh
  obtain ⟨k, hk, hm⟩ := List.exists_of_findSome?_eq_some hh
  have hk := List.mem_range.1 hk
  rw [Option.map_eq_some_iff] at hm
  obtain ⟨a, ha, hr⟩ := hm
  simp only [Prod.mk.injEq] at hr
  obtain ⟨rfl, rfl⟩ := hr
  exact ⟨⟨by omega, by omega⟩, List.mem_of_find?_eq_some ha⟩
theorem law_seen (wd dp : Int) (v : Value) (L : List Int) (e : Ey) (x y h r : Int) (w : World) (hv : IS w v L) (hl : L.length ≤ 9223372036854775807) :
    Calls Try.prog 4 #[.agg #[.int .i64 wd, .int .i64 dp, v], .agg #[.int .i64 e.x, .int .i64 e.b, .int .i64 e.h], .int .i64 x, .int .i64 y, .int .i64 h, .int .i64 r] w fun en w' => en = .returned (.bool true) ∧ Below w.heap.size w w' := by
  have hlen : ∀ q, (crL wd dp L e x y q).length ≤ 1000 := fun q => by
    unfold crL
    split
    · rename_i hq
      rw [colL_len]
      have := cross_bd (crE_zero hq).2.2.2.2.2
      omega
    · simp
  have HC1 := Kp.mk fun W (hW : Below w.heap.size w W) => Crosses_any wd dp v L e x y r W (hv.below hW) hl
  have HC2 := Kp.mk fun W (hW : Below w.heap.size w W) => rCrosses_any wd dp v L e x y r W (hv.below hW) hl
  have HS1 := Kp.mk fun W (hW : Below w.heap.size w W) => Seen_any wd dp v L e x y h W (hv.below hW) hl
  have HS2 := Kp.mk fun W (hW : Below w.heap.size w W) => rSeen_any wd dp v L e x y h W (hv.below hW) hl
  have HH1 := Kp.mk fun W (hW : Below w.heap.size w W) => Hides_any wd dp v L e x y h W (hv.below hW) hl
  have HH2 := Kp.mk fun W (hW : Below w.heap.size w W) => rHides_any wd dp v L e x y h W (hv.below hW) hl
  have HC3 := Kp.mk fun W (hW : Below w.heap.size w W) => Crosses_any wd dp v L e x y (hvY (askE wd dp L e x y h) (hid wd L e x y.toNat h)) W (hv.below hW) hl
  have HSI : Kp (∀ W u v, IS W u (crL wd dp L e x y r) → IS W v (crL wd dp L e x y r) → Calls Try.prog 33 #[u, v] W fun e w' => e = .returned (.bool true) ∧ Below W.heap.size W w') := ⟨fun W u v hu hv => same_ints u v _ W (by have := hlen r; omega) hu hv⟩
  simp only [seenV_two, hidesV_eq] at HS1 HS2 HH1 HH2
  obtain ⟨g, c, rfl⟩ := hv.shape
  refine law_seen_st wd dp e.x e.b e.h x y h r g L.length c _ _ _ _ _ _ _ _ _ w HC1 HC2 HS1 HS2 HH1 HH2 HC3 HSI ⟨hlen _⟩ ⟨?_⟩
  by_cases h0 : askE wd dp L e x y h = 0
  · right
    obtain ⟨hg, he, hx, hy, hh⟩ := askE_zero h0
    rw [h0]
    cases ho : hid wd L e x y.toNat h with
    | none => exact .inl ⟨rfl, rfl, rfl⟩
    | some p =>
      obtain ⟨pc, pr⟩ := p
      have hyn : (y.toNat : Int) = y := Int.toNat_of_nonneg hy.1
      obtain ⟨⟨r1, r2⟩, hc⟩ := hid_mem ho
      rw [hyn] at r2 hc
      right
      have hE3 : crE wd dp L e x y pr = 0 := by
        have hcell : cellB wd dp x y = true := by
          unfold askE at h0
          have := (show chkE (cellB wd dp x y && inB 0 3000 h) (gdB wd dp L) (eyB wd e) = 0 from h0)
          rw [hg, he] at this
          cases hcc : cellB wd dp x y with
          | true => rfl
          | false => rw [hcc] at this; simp [chkE] at this
        have hyb := (gdB_iff hg).2.1
        unfold crE
        rw [hcell, hg, he, IntWalk.i64_in (y - 1) (by omega), inB_iff.2 ⟨r1, r2⟩]
        rfl
      refine ⟨rfl, rfl, rfl, hE3, ?_⟩
      show pc ∈ crL wd dp L e x y pr
      unfold crL
      rw [if_pos hE3]
      exact hc
  · exact .inl h0
end Go.Proofs.Ytjnggchljilooaa.Sc
