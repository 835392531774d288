/-
  WALKS (layer 7, scene): the law SceneAll.
-/
import Derived.Test.YtjnggchljilooaaScAllP
import Derived.Test.YtjnggchljilooaaScEyesA
import Derived.Test.YtjnggchljilooaaScCell
import Derived.Test.YtjnggchljilooaaScCrsA
import Derived.Test.YtjnggchljilooaaScRLst
import Derived.Test.YtjnggchljilooaaScAwake
namespace Go.Proofs.Ytjnggchljilooaa.Sc
open Go Go.RowKit Go.Sort

set_option maxRecDepth 100000 in
set_option maxHeartbeats 4000000 in
theorem law_all_st (wd dp ex eb eh x y h : Int) (g g2 : Option Addr) (M c n c2 : Nat) (AL : List Bool) (YL : List Int) (AE EY CE CV PE : Int) (S : Bool) (w : World)
    (HA1 : Kp (∀ W, Below w.heap.size w W → Calls Try.prog 37 #[.agg #[.int .i64 wd, .int .i64 dp, .slice g M c], .agg #[.int .i64 ex, .int .i64 eb, .int .i64 eh]] W fun en w' => (∃ u, en = .returned (.tuple #[u, .int .i64 AE]) ∧ SB w' u AL) ∧ Below W.heap.size W w'))
    (HA2 : Kp (∀ W, Below w.heap.size w W → Calls Try.prog 38 #[.agg #[.int .i64 wd, .int .i64 dp, .slice g M c], .agg #[.int .i64 ex, .int .i64 eb, .int .i64 eh]] W fun en w' => (∃ u, en = .returned (.tuple #[u, .int .i64 AE]) ∧ SB w' u AL) ∧ Below W.heap.size W w'))
    (HE1 : Kp (∀ W, Below w.heap.size w W → Calls Try.prog 39 #[.agg #[.int .i64 wd, .int .i64 dp, .slice g M c], .slice g2 n c2, .int .i64 x, .int .i64 y, .int .i64 h] W fun en w' => (∃ u, en = .returned (.tuple #[u, .int .i64 EY]) ∧ IS w' u YL) ∧ Below W.heap.size W w'))
    (HE2 : Kp (∀ W, Below w.heap.size w W → Calls Try.prog 40 #[.agg #[.int .i64 wd, .int .i64 dp, .slice g M c], .slice g2 n c2, .int .i64 x, .int .i64 y, .int .i64 h] W fun en w' => (∃ u, en = .returned (.tuple #[u, .int .i64 EY]) ∧ IS w' u YL) ∧ Below W.heap.size W w'))
    (HSB : Kp (∀ W u v, SB W u AL → SB W v AL → Calls Try.prog 41 #[u, v] W fun e w' => e = .returned (.bool true) ∧ Below W.heap.size W w'))
    (HSI : Kp (∀ W u v, IS W u YL → IS W v YL → Calls Try.prog 33 #[u, v] W fun e w' => e = .returned (.bool true) ∧ Below W.heap.size W w'))
    (HC : Kp (∀ W, Below w.heap.size w W → Calls Try.prog 12 #[.agg #[.int .i64 wd, .int .i64 dp, .slice g M c], .int .i64 x, .int .i64 y] W fun en w' => en = .returned (.tuple #[.int .i64 CV, .int .i64 CE]) ∧ Below W.heap.size W w'))
    (HS : Kp (∀ W, Below w.heap.size w W → Calls Try.prog 29 #[.agg #[.int .i64 wd, .int .i64 dp, .slice g M c], .agg #[.int .i64 ex, .int .i64 eb, .int .i64 eh], .int .i64 x, .int .i64 y, .int .i64 CV] W fun en w' => en = .returned (.tuple #[.bool S, .int .i64 PE]) ∧ Below W.heap.size W w'))
    (HF : Kp (AE = 0 → CE = 0 → PE = 0 ∧ ∃ (p : Int) (i : Nat), IntKind.i64.wrap (wd * y) = p ∧ IntKind.i64.wrap (x + p) = (i : Int) ∧ AL[i]? = some S)) :
    Calls Try.prog 6 #[.agg #[.int .i64 wd, .int .i64 dp, .slice g M c], .agg #[.int .i64 ex, .int .i64 eb, .int .i64 eh], .slice g2 n c2, .int .i64 x, .int .i64 y, .int .i64 h] w fun e w' => e = .returned (.bool true) ∧ Below w.heap.size w w' := by
  have HAW := Kp.mk (fun W => awake_any W)
  have HFI := Kp.mk (fun W => fit_any wd dp g M c W)
  go_enter Try.func6, Try.ntmps6
  go_wp2_with fail
  refine (HFI.out _).mono ?_
  rintro en w1 ⟨rfl, hb1⟩
  clear HFI
  have HB1 : Kp (Below w.heap.size w w1) := ⟨Below.trans (by repeat (first | refine Below.alloc ?_ (by (try simp) <;> omega) _ | refine bDrewN ?_ _ | refine Below.drew ?_ | refine Below.setCell ?_ (by (try simp) <;> omega) _ | exact Below.refl _ _)) (hb1.mono (by (try simp) <;> omega))⟩
  have hz1_0 : w.heap.size < w1.heap.size := by have := hb1.size; (try simp at this); omega
  have hz1_1 : w.heap.size + 1 < w1.heap.size := by have := hb1.size; (try simp at this); omega
  obtain ⟨hc, hf⟩ := bcell hb1
  have c1_0_0 : w1.cell? ⟨w.heap.size, 0, none⟩ = some (.int .i64 wd) := (hc _ _ (by (try simp) <;> omega)).trans (by go_simp)
  have c1_0_1 : w1.cell? ⟨w.heap.size, 1, none⟩ = some (.int .i64 dp) := (hc _ _ (by (try simp) <;> omega)).trans (by go_simp)
  have c1_0_2 : w1.cell? ⟨w.heap.size, 2, none⟩ = some ((.slice g M c)) := (hc _ _ (by (try simp) <;> omega)).trans (by go_simp)
  have z1_0 : ∀ j, w1.frozen? ⟨w.heap.size, j, none⟩ = false := fun j => (hf _ _ (by (try simp) <;> omega)).trans (by go_simp)
  have c1_1_0 : w1.cell? ⟨w.heap.size + 1, 0, none⟩ = some (.int .i64 ex) := (hc _ _ (by (try simp) <;> omega)).trans (by go_simp)
  have c1_1_1 : w1.cell? ⟨w.heap.size + 1, 1, none⟩ = some (.int .i64 eb) := (hc _ _ (by (try simp) <;> omega)).trans (by go_simp)
  have c1_1_2 : w1.cell? ⟨w.heap.size + 1, 2, none⟩ = some (.int .i64 eh) := (hc _ _ (by (try simp) <;> omega)).trans (by go_simp)
  have z1_1 : ∀ j, w1.frozen? ⟨w.heap.size + 1, j, none⟩ = false := fun j => (hf _ _ (by (try simp) <;> omega)).trans (by go_simp)
  clear hc hf hb1
  by_cases hM : M ≤ 130
  case neg =>
    rw [decide_eq_false hM]
    clear HF HA1 HA2 HE1 HE2 HSB HSI HC HS hM
    go_wp2_with fail
    refine (HAW.out _).mono ?_
    rintro en w8 ⟨rfl, hb8⟩
    have HB8 : Kp (Below w.heap.size w w8) := ⟨by have := HB1.out.size; refine HB1.out.trans (Below.trans ?_ (hb8.mono (by (try simp) <;> omega))); repeat (first | exact Below.refl _ _ | refine Below.alloc ?_ (by (try simp) <;> omega) _ | refine Below.setCell ?_ (by (try simp) <;> omega) _)⟩
    clear hb8
    go_wp2
    go_ret
    exact ⟨rfl, HB8.out⟩
  case pos =>
  rw [decide_eq_true hM]
  clear hM
  by_cases h30 : (30 : Int) < (n : Int)
  · clear HF HA1 HA2 HE1 HE2 HSB HSI HC HS
    go_wp2_with fail
    refine (HAW.out _).mono ?_
    rintro en w8 ⟨rfl, hb8⟩
    have HB8 : Kp (Below w.heap.size w w8) := ⟨by have := HB1.out.size; refine HB1.out.trans (Below.trans ?_ (hb8.mono (by (try simp) <;> omega))); repeat (first | exact Below.refl _ _ | refine Below.alloc ?_ (by (try simp) <;> omega) _ | refine Below.setCell ?_ (by (try simp) <;> omega) _)⟩
    clear hb8
    go_wp2
    go_ret
    exact ⟨rfl, HB8.out⟩
  go_wp2_with fail
  clear h30
  refine (HA1.out _ HB1.out).mono ?_
  rintro en w2 ⟨⟨u1, rfl, hu1⟩, hb2⟩
  obtain ⟨g3, c3, rfl⟩ := hu1.shape
  have HU1 := Kp.mk hu1
  clear hu1 HA1
  have HB2 : Kp (Below w.heap.size w w2) := ⟨Below.trans (by repeat (first | refine Below.alloc ?_ (by have := HB1.out.size; (try simp) <;> omega) _ | refine bDrewN ?_ _ | refine Below.drew ?_ | refine Below.setCell ?_ (by have := HB1.out.size; (try simp) <;> omega) _ | exact HB1.out)) (hb2.mono (by have := HB1.out.size; (try simp) <;> omega))⟩
  have hz2_0 : w.heap.size < w2.heap.size := by have := hb2.size; (try simp at this); omega
  have hz2_1 : w.heap.size + 1 < w2.heap.size := by have := hb2.size; (try simp at this); omega
  obtain ⟨hc, hf⟩ := bcell hb2
  have c2_0_0 : w2.cell? ⟨w.heap.size, 0, none⟩ = some (.int .i64 wd) := (hc _ _ (by (try simp) <;> omega)).trans (by go_simp)
  have c2_0_1 : w2.cell? ⟨w.heap.size, 1, none⟩ = some (.int .i64 dp) := (hc _ _ (by (try simp) <;> omega)).trans (by go_simp)
  have c2_0_2 : w2.cell? ⟨w.heap.size, 2, none⟩ = some ((.slice g M c)) := (hc _ _ (by (try simp) <;> omega)).trans (by go_simp)
  have z2_0 : ∀ j, w2.frozen? ⟨w.heap.size, j, none⟩ = false := fun j => (hf _ _ (by (try simp) <;> omega)).trans (by go_simp)
  have c2_1_0 : w2.cell? ⟨w.heap.size + 1, 0, none⟩ = some (.int .i64 ex) := (hc _ _ (by (try simp) <;> omega)).trans (by go_simp)
  have c2_1_1 : w2.cell? ⟨w.heap.size + 1, 1, none⟩ = some (.int .i64 eb) := (hc _ _ (by (try simp) <;> omega)).trans (by go_simp)
  have c2_1_2 : w2.cell? ⟨w.heap.size + 1, 2, none⟩ = some (.int .i64 eh) := (hc _ _ (by (try simp) <;> omega)).trans (by go_simp)
  have z2_1 : ∀ j, w2.frozen? ⟨w.heap.size + 1, j, none⟩ = false := fun j => (hf _ _ (by (try simp) <;> omega)).trans (by go_simp)
  clear hc hf hb2
  go_wp2_with fail
  refine (HA2.out _ HB2.out).mono ?_
  rintro en w3 ⟨⟨u2, rfl, hu2⟩, hb3⟩
  obtain ⟨g4, c4, rfl⟩ := hu2.shape
  have HU2 := Kp.mk hu2
  have HU1 := Kp.mk (HU1.out.below hb3)
  clear hu2 HA2
  have HB3 : Kp (Below w.heap.size w w3) := ⟨Below.trans (by repeat (first | refine Below.alloc ?_ (by have := HB2.out.size; (try simp) <;> omega) _ | refine bDrewN ?_ _ | refine Below.drew ?_ | refine Below.setCell ?_ (by have := HB2.out.size; (try simp) <;> omega) _ | exact HB2.out)) (hb3.mono (by have := HB2.out.size; (try simp) <;> omega))⟩
  have hz3_0 : w.heap.size < w3.heap.size := by have := hb3.size; (try simp at this); omega
  have hz3_1 : w.heap.size + 1 < w3.heap.size := by have := hb3.size; (try simp at this); omega
  obtain ⟨hc, hf⟩ := bcell hb3
  have c3_0_0 : w3.cell? ⟨w.heap.size, 0, none⟩ = some (.int .i64 wd) := (hc _ _ (by (try simp) <;> omega)).trans (by go_simp)
  have c3_0_1 : w3.cell? ⟨w.heap.size, 1, none⟩ = some (.int .i64 dp) := (hc _ _ (by (try simp) <;> omega)).trans (by go_simp)
  have c3_0_2 : w3.cell? ⟨w.heap.size, 2, none⟩ = some ((.slice g M c)) := (hc _ _ (by (try simp) <;> omega)).trans (by go_simp)
  have z3_0 : ∀ j, w3.frozen? ⟨w.heap.size, j, none⟩ = false := fun j => (hf _ _ (by (try simp) <;> omega)).trans (by go_simp)
  have c3_1_0 : w3.cell? ⟨w.heap.size + 1, 0, none⟩ = some (.int .i64 ex) := (hc _ _ (by (try simp) <;> omega)).trans (by go_simp)
  have c3_1_1 : w3.cell? ⟨w.heap.size + 1, 1, none⟩ = some (.int .i64 eb) := (hc _ _ (by (try simp) <;> omega)).trans (by go_simp)
  have c3_1_2 : w3.cell? ⟨w.heap.size + 1, 2, none⟩ = some (.int .i64 eh) := (hc _ _ (by (try simp) <;> omega)).trans (by go_simp)
  have z3_1 : ∀ j, w3.frozen? ⟨w.heap.size + 1, j, none⟩ = false := fun j => (hf _ _ (by (try simp) <;> omega)).trans (by go_simp)
  clear hc hf hb3
  go_wp2_with fail
  refine (HE1.out _ HB3.out).mono ?_
  rintro en w4 ⟨⟨r1, rfl, hr1⟩, hb4⟩
  obtain ⟨g5, c5, rfl⟩ := hr1.shape
  have HR1 := Kp.mk hr1
  have HU1 := Kp.mk (HU1.out.below hb4)
  have HU2 := Kp.mk (HU2.out.below hb4)
  clear hr1 HE1
  have HB4 : Kp (Below w.heap.size w w4) := ⟨Below.trans (by repeat (first | refine Below.alloc ?_ (by have := HB3.out.size; (try simp) <;> omega) _ | refine bDrewN ?_ _ | refine Below.drew ?_ | refine Below.setCell ?_ (by have := HB3.out.size; (try simp) <;> omega) _ | exact HB3.out)) (hb4.mono (by have := HB3.out.size; (try simp) <;> omega))⟩
  have hz4_0 : w.heap.size < w4.heap.size := by have := hb4.size; (try simp at this); omega
  have hz4_1 : w.heap.size + 1 < w4.heap.size := by have := hb4.size; (try simp at this); omega
  obtain ⟨hc, hf⟩ := bcell hb4
  have c4_0_0 : w4.cell? ⟨w.heap.size, 0, none⟩ = some (.int .i64 wd) := (hc _ _ (by (try simp) <;> omega)).trans (by go_simp)
  have c4_0_1 : w4.cell? ⟨w.heap.size, 1, none⟩ = some (.int .i64 dp) := (hc _ _ (by (try simp) <;> omega)).trans (by go_simp)
  have c4_0_2 : w4.cell? ⟨w.heap.size, 2, none⟩ = some ((.slice g M c)) := (hc _ _ (by (try simp) <;> omega)).trans (by go_simp)
  have z4_0 : ∀ j, w4.frozen? ⟨w.heap.size, j, none⟩ = false := fun j => (hf _ _ (by (try simp) <;> omega)).trans (by go_simp)
  have c4_1_0 : w4.cell? ⟨w.heap.size + 1, 0, none⟩ = some (.int .i64 ex) := (hc _ _ (by (try simp) <;> omega)).trans (by go_simp)
  have c4_1_1 : w4.cell? ⟨w.heap.size + 1, 1, none⟩ = some (.int .i64 eb) := (hc _ _ (by (try simp) <;> omega)).trans (by go_simp)
  have c4_1_2 : w4.cell? ⟨w.heap.size + 1, 2, none⟩ = some (.int .i64 eh) := (hc _ _ (by (try simp) <;> omega)).trans (by go_simp)
  have z4_1 : ∀ j, w4.frozen? ⟨w.heap.size + 1, j, none⟩ = false := fun j => (hf _ _ (by (try simp) <;> omega)).trans (by go_simp)
  clear hc hf hb4
  go_wp2_with fail
  refine (HE2.out _ HB4.out).mono ?_
  rintro en w5 ⟨⟨r2, rfl, hr2⟩, hb5⟩
  obtain ⟨g6, c6, rfl⟩ := hr2.shape
  have HR2 := Kp.mk hr2
  have HR1 := Kp.mk (HR1.out.below hb5)
  have HU1 := Kp.mk (HU1.out.below hb5)
  have HU2 := Kp.mk (HU2.out.below hb5)
  clear hr2 HE2
  have HB5 : Kp (Below w.heap.size w w5) := ⟨Below.trans (by repeat (first | refine Below.alloc ?_ (by have := HB4.out.size; (try simp) <;> omega) _ | refine bDrewN ?_ _ | refine Below.drew ?_ | refine Below.setCell ?_ (by have := HB4.out.size; (try simp) <;> omega) _ | exact HB4.out)) (hb5.mono (by have := HB4.out.size; (try simp) <;> omega))⟩
  have hz5_0 : w.heap.size < w5.heap.size := by have := hb5.size; (try simp at this); omega
  have hz5_1 : w.heap.size + 1 < w5.heap.size := by have := hb5.size; (try simp at this); omega
  obtain ⟨hc, hf⟩ := bcell hb5
  have c5_0_0 : w5.cell? ⟨w.heap.size, 0, none⟩ = some (.int .i64 wd) := (hc _ _ (by (try simp) <;> omega)).trans (by go_simp)
  have c5_0_1 : w5.cell? ⟨w.heap.size, 1, none⟩ = some (.int .i64 dp) := (hc _ _ (by (try simp) <;> omega)).trans (by go_simp)
  have c5_0_2 : w5.cell? ⟨w.heap.size, 2, none⟩ = some ((.slice g M c)) := (hc _ _ (by (try simp) <;> omega)).trans (by go_simp)
  have z5_0 : ∀ j, w5.frozen? ⟨w.heap.size, j, none⟩ = false := fun j => (hf _ _ (by (try simp) <;> omega)).trans (by go_simp)
  have c5_1_0 : w5.cell? ⟨w.heap.size + 1, 0, none⟩ = some (.int .i64 ex) := (hc _ _ (by (try simp) <;> omega)).trans (by go_simp)
  have c5_1_1 : w5.cell? ⟨w.heap.size + 1, 1, none⟩ = some (.int .i64 eb) := (hc _ _ (by (try simp) <;> omega)).trans (by go_simp)
  have c5_1_2 : w5.cell? ⟨w.heap.size + 1, 2, none⟩ = some (.int .i64 eh) := (hc _ _ (by (try simp) <;> omega)).trans (by go_simp)
  have z5_1 : ∀ j, w5.frozen? ⟨w.heap.size + 1, j, none⟩ = false := fun j => (hf _ _ (by (try simp) <;> omega)).trans (by go_simp)
  clear hc hf hb5
  go_wp2_with fail
  refine (HSB.out _ _ _ HU1.out HU2.out).mono ?_
  rintro en w6 ⟨rfl, hb6⟩
  have HR2 := Kp.mk (HR2.out.below hb6)
  have HR1 := Kp.mk (HR1.out.below hb6)
  have HU1 := Kp.mk (HU1.out.below hb6)
  clear HU2 HSB
  have HB6 : Kp (Below w.heap.size w w6) := ⟨Below.trans (by repeat (first | refine Below.alloc ?_ (by have := HB5.out.size; (try simp) <;> omega) _ | refine bDrewN ?_ _ | refine Below.drew ?_ | refine Below.setCell ?_ (by have := HB5.out.size; (try simp) <;> omega) _ | exact HB5.out)) (hb6.mono (by have := HB5.out.size; (try simp) <;> omega))⟩
  have hz6_0 : w.heap.size < w6.heap.size := by have := hb6.size; (try simp at this); omega
  have hz6_1 : w.heap.size + 1 < w6.heap.size := by have := hb6.size; (try simp at this); omega
  obtain ⟨hc, hf⟩ := bcell hb6
  have c6_0_0 : w6.cell? ⟨w.heap.size, 0, none⟩ = some (.int .i64 wd) := (hc _ _ (by (try simp) <;> omega)).trans (by go_simp)
  have c6_0_1 : w6.cell? ⟨w.heap.size, 1, none⟩ = some (.int .i64 dp) := (hc _ _ (by (try simp) <;> omega)).trans (by go_simp)
  have c6_0_2 : w6.cell? ⟨w.heap.size, 2, none⟩ = some ((.slice g M c)) := (hc _ _ (by (try simp) <;> omega)).trans (by go_simp)
  have z6_0 : ∀ j, w6.frozen? ⟨w.heap.size, j, none⟩ = false := fun j => (hf _ _ (by (try simp) <;> omega)).trans (by go_simp)
  have c6_1_0 : w6.cell? ⟨w.heap.size + 1, 0, none⟩ = some (.int .i64 ex) := (hc _ _ (by (try simp) <;> omega)).trans (by go_simp)
  have c6_1_1 : w6.cell? ⟨w.heap.size + 1, 1, none⟩ = some (.int .i64 eb) := (hc _ _ (by (try simp) <;> omega)).trans (by go_simp)
  have c6_1_2 : w6.cell? ⟨w.heap.size + 1, 2, none⟩ = some (.int .i64 eh) := (hc _ _ (by (try simp) <;> omega)).trans (by go_simp)
  have z6_1 : ∀ j, w6.frozen? ⟨w.heap.size + 1, j, none⟩ = false := fun j => (hf _ _ (by (try simp) <;> omega)).trans (by go_simp)
  clear hc hf hb6
  have t1 : (AE != AE) = false := by simp
  have t2 : (EY != EY) = false := by simp
  go_wp2_with fail
  refine (HSI.out _ _ _ HR1.out HR2.out).mono ?_
  rintro en w7 ⟨rfl, hb7⟩
  have HU1 := Kp.mk (HU1.out.below hb7)
  clear HR1 HR2 HSI
  have HB7 : Kp (Below w.heap.size w w7) := ⟨Below.trans (by repeat (first | refine Below.alloc ?_ (by have := HB6.out.size; (try simp) <;> omega) _ | refine bDrewN ?_ _ | refine Below.drew ?_ | refine Below.setCell ?_ (by have := HB6.out.size; (try simp) <;> omega) _ | exact HB6.out)) (hb7.mono (by have := HB6.out.size; (try simp) <;> omega))⟩
  have hz7_0 : w.heap.size < w7.heap.size := by have := hb7.size; (try simp at this); omega
  have hz7_1 : w.heap.size + 1 < w7.heap.size := by have := hb7.size; (try simp at this); omega
  obtain ⟨hc, hf⟩ := bcell hb7
  have c7_0_0 : w7.cell? ⟨w.heap.size, 0, none⟩ = some (.int .i64 wd) := (hc _ _ (by (try simp) <;> omega)).trans (by go_simp)
  have c7_0_1 : w7.cell? ⟨w.heap.size, 1, none⟩ = some (.int .i64 dp) := (hc _ _ (by (try simp) <;> omega)).trans (by go_simp)
  have c7_0_2 : w7.cell? ⟨w.heap.size, 2, none⟩ = some ((.slice g M c)) := (hc _ _ (by (try simp) <;> omega)).trans (by go_simp)
  have z7_0 : ∀ j, w7.frozen? ⟨w.heap.size, j, none⟩ = false := fun j => (hf _ _ (by (try simp) <;> omega)).trans (by go_simp)
  have c7_1_0 : w7.cell? ⟨w.heap.size + 1, 0, none⟩ = some (.int .i64 ex) := (hc _ _ (by (try simp) <;> omega)).trans (by go_simp)
  have c7_1_1 : w7.cell? ⟨w.heap.size + 1, 1, none⟩ = some (.int .i64 eb) := (hc _ _ (by (try simp) <;> omega)).trans (by go_simp)
  have c7_1_2 : w7.cell? ⟨w.heap.size + 1, 2, none⟩ = some (.int .i64 eh) := (hc _ _ (by (try simp) <;> omega)).trans (by go_simp)
  have z7_1 : ∀ j, w7.frozen? ⟨w.heap.size + 1, j, none⟩ = false := fun j => (hf _ _ (by (try simp) <;> omega)).trans (by go_simp)
  clear hc hf hb7
  go_wp2_with fail
  refine (HC.out _ HB7.out).mono ?_
  rintro en w8 ⟨rfl, hb8⟩
  have HU1 := Kp.mk (HU1.out.below hb8)
  clear HC
  have HB8 : Kp (Below w.heap.size w w8) := ⟨Below.trans (by repeat (first | refine Below.alloc ?_ (by have := HB7.out.size; (try simp) <;> omega) _ | refine bDrewN ?_ _ | refine Below.drew ?_ | refine Below.setCell ?_ (by have := HB7.out.size; (try simp) <;> omega) _ | exact HB7.out)) (hb8.mono (by have := HB7.out.size; (try simp) <;> omega))⟩
  have hz8_0 : w.heap.size < w8.heap.size := by have := hb8.size; (try simp at this); omega
  have hz8_1 : w.heap.size + 1 < w8.heap.size := by have := hb8.size; (try simp at this); omega
  obtain ⟨hc, hf⟩ := bcell hb8
  have c8_0_0 : w8.cell? ⟨w.heap.size, 0, none⟩ = some (.int .i64 wd) := (hc _ _ (by (try simp) <;> omega)).trans (by go_simp)
  have c8_0_1 : w8.cell? ⟨w.heap.size, 1, none⟩ = some (.int .i64 dp) := (hc _ _ (by (try simp) <;> omega)).trans (by go_simp)
  have c8_0_2 : w8.cell? ⟨w.heap.size, 2, none⟩ = some ((.slice g M c)) := (hc _ _ (by (try simp) <;> omega)).trans (by go_simp)
  have z8_0 : ∀ j, w8.frozen? ⟨w.heap.size, j, none⟩ = false := fun j => (hf _ _ (by (try simp) <;> omega)).trans (by go_simp)
  have c8_1_0 : w8.cell? ⟨w.heap.size + 1, 0, none⟩ = some (.int .i64 ex) := (hc _ _ (by (try simp) <;> omega)).trans (by go_simp)
  have c8_1_1 : w8.cell? ⟨w.heap.size + 1, 1, none⟩ = some (.int .i64 eb) := (hc _ _ (by (try simp) <;> omega)).trans (by go_simp)
  have c8_1_2 : w8.cell? ⟨w.heap.size + 1, 2, none⟩ = some (.int .i64 eh) := (hc _ _ (by (try simp) <;> omega)).trans (by go_simp)
  have z8_1 : ∀ j, w8.frozen? ⟨w.heap.size + 1, j, none⟩ = false := fun j => (hf _ _ (by (try simp) <;> omega)).trans (by go_simp)
  clear hc hf hb8
  by_cases hA : AE = 0
  case neg =>
    have j0 : (AE != (0 : Int)) = true := by simp [hA]
    clear hA HF HS HU1
    go_wp2_with fail
    refine (HAW.out _).mono ?_
    rintro en w9 ⟨rfl, hb9⟩
    have HB9 : Kp (Below w.heap.size w w9) := ⟨by have := HB8.out.size; refine HB8.out.trans (Below.trans ?_ (hb9.mono (by (try simp) <;> omega))); repeat (first | exact Below.refl _ _ | refine Below.alloc ?_ (by (try simp) <;> omega) _ | refine Below.setCell ?_ (by (try simp) <;> omega) _)⟩
    clear hb9
    go_wp2
    go_ret
    exact ⟨rfl, HB9.out⟩
  case pos =>
  subst hA
  by_cases hC : CE = 0
  case neg =>
    have j0 : (CE != (0 : Int)) = true := by simp [hC]
    clear hC HF HS HU1
    go_wp2_with fail
    refine (HAW.out _).mono ?_
    rintro en w9 ⟨rfl, hb9⟩
    have HB9 : Kp (Below w.heap.size w w9) := ⟨by have := HB8.out.size; refine HB8.out.trans (Below.trans ?_ (hb9.mono (by (try simp) <;> omega))); repeat (first | exact Below.refl _ _ | refine Below.alloc ?_ (by (try simp) <;> omega) _ | refine Below.setCell ?_ (by (try simp) <;> omega) _)⟩
    clear hb9
    go_wp2
    go_ret
    exact ⟨rfl, HB9.out⟩
  case pos =>
  subst hC
  obtain ⟨hp, p, i, k1, k2, k3⟩ := HF.out rfl rfl
  subst hp
  have HK := Kp.mk (And.intro k1 (And.intro k2 k3))
  clear k1 k2 k3 HF
  go_wp2_with fail
  refine (HS.out _ HB8.out).mono ?_
  rintro en w9 ⟨rfl, hb9⟩
  have HU1 := Kp.mk (HU1.out.below hb9)
  clear HS
  have HB9 : Kp (Below w.heap.size w w9) := ⟨Below.trans (by repeat (first | refine Below.alloc ?_ (by have := HB8.out.size; (try simp) <;> omega) _ | refine bDrewN ?_ _ | refine Below.drew ?_ | refine Below.setCell ?_ (by have := HB8.out.size; (try simp) <;> omega) _ | exact HB8.out)) (hb9.mono (by have := HB8.out.size; (try simp) <;> omega))⟩
  have hz9_0 : w.heap.size < w9.heap.size := by have := hb9.size; (try simp at this); omega
  have hz9_1 : w.heap.size + 1 < w9.heap.size := by have := hb9.size; (try simp at this); omega
  obtain ⟨hc, hf⟩ := bcell hb9
  have c9_0_0 : w9.cell? ⟨w.heap.size, 0, none⟩ = some (.int .i64 wd) := (hc _ _ (by (try simp) <;> omega)).trans (by go_simp)
  have c9_0_1 : w9.cell? ⟨w.heap.size, 1, none⟩ = some (.int .i64 dp) := (hc _ _ (by (try simp) <;> omega)).trans (by go_simp)
  have c9_0_2 : w9.cell? ⟨w.heap.size, 2, none⟩ = some ((.slice g M c)) := (hc _ _ (by (try simp) <;> omega)).trans (by go_simp)
  have z9_0 : ∀ j, w9.frozen? ⟨w.heap.size, j, none⟩ = false := fun j => (hf _ _ (by (try simp) <;> omega)).trans (by go_simp)
  have c9_1_0 : w9.cell? ⟨w.heap.size + 1, 0, none⟩ = some (.int .i64 ex) := (hc _ _ (by (try simp) <;> omega)).trans (by go_simp)
  have c9_1_1 : w9.cell? ⟨w.heap.size + 1, 1, none⟩ = some (.int .i64 eb) := (hc _ _ (by (try simp) <;> omega)).trans (by go_simp)
  have c9_1_2 : w9.cell? ⟨w.heap.size + 1, 2, none⟩ = some (.int .i64 eh) := (hc _ _ (by (try simp) <;> omega)).trans (by go_simp)
  have z9_1 : ∀ j, w9.frozen? ⟨w.heap.size + 1, j, none⟩ = false := fun j => (hf _ _ (by (try simp) <;> omega)).trans (by go_simp)
  clear hc hf hb9
  obtain ⟨k1, k2, k3⟩ := HK.out
  obtain ⟨g7, c7, e7, -, hcell⟩ := HU1.out
  simp only [Value.slice.injEq] at e7
  obtain ⟨rfl, -, rfl⟩ := e7
  obtain ⟨b, o, rfl, cx⟩ := hcell i S k3
  have hlt := (List.getElem?_eq_some_iff.1 k3).1
  obtain ⟨N, hN⟩ : ∃ N, AL.length = N := ⟨_, rfl⟩
  rw [hN] at hlt ⊢
  have o1 : (i : Int) < (N : Int) := by omega
  clear hcell k3 hN HU1 HK hlt
  go_wp2_with fail
  refine (HAW.out _).mono ?_
  rintro en w10 ⟨rfl, hb10⟩
  have HB10 : Kp (Below w.heap.size w w10) := ⟨HB9.out.trans (hb10.mono HB9.out.size)⟩
  clear hb10
  go_wp2
  go_ret
  exact ⟨rfl, HB10.out⟩
theorem seenV_all (E : Int) (o : Option (Int × Int)) : seenV E o = .tuple #[.bool (decide (E = 0) && o.isNone), .int .i64 E] := by
  unfold seenV
  split
  · subst_vars; simp
  · rename_i h; simp [h]
theorem law_all (wd dp : Int) (v u : Value) (L : List Int) (e : Ey) (E : List Ey) (x y h : Int) (w : World) (hv : IS w v L) (hl : L.length ≤ 9223372036854775807) (hu : ES w u E) (hm : E.length ≤ 9223372036854775807) :
    Calls Try.prog 6 #[.agg #[.int .i64 wd, .int .i64 dp, v], .agg #[.int .i64 e.x, .int .i64 e.b, .int .i64 e.h], u, .int .i64 x, .int .i64 y, .int .i64 h] w fun en w' => en = .returned (.bool true) ∧ Below w.heap.size w w' := by
  have hal : (alL wd dp L e).length ≤ 1000 := by
    unfold alL
    split
    · rename_i h0
      rw [List.length_map, List.length_range]
      have := (gd_lenA (alE_zero h0).1).2
      omega
    · simp
  have hyl : (eyL wd dp L E x y h).length ≤ 1000 := by
    unfold eyL
    split
    · rename_i h0
      have h1 := eyI_le (eyO wd L E x y h) E.length
      have h2 := (eyE_zero h0).2.2.2.2.2
      omega
    · simp
  have HA1 := Kp.mk fun W (hW : Below w.heap.size w W) => All_any wd dp v L e W (hv.below hW) hl
  have HA2 := Kp.mk fun W (hW : Below w.heap.size w W) => rAll_any wd dp v L e W (hv.below hW) hl
  have HE1 := Kp.mk fun W (hW : Below w.heap.size w W) => Eyes_any wd dp v u L E x y h W (hv.below hW) hl (hu.below hW) hm
  have HE2 := Kp.mk fun W (hW : Below w.heap.size w W) => rEyes_any wd dp v u L E x y h W (hv.below hW) hl (hu.below hW) hm
  have HC := Kp.mk fun W (hW : Below w.heap.size w W) => Cell_any wd dp v L x y W (hv.below hW) hl
  have HS := Kp.mk fun W (hW : Below w.heap.size w W) => Seen_any wd dp v L e x y (ceV wd dp L x y) W (hv.below hW) hl
  simp only [seenV_all] at HS
  obtain ⟨g, c, rfl⟩ := hv.shape
  obtain ⟨g2, c2, rfl⟩ := hu.shape
  refine law_all_st wd dp e.x e.b e.h x y h g g2 L.length c E.length c2 _ _ _ _ _ _ _ _ w HA1 HA2 HE1 HE2 ⟨fun W a b ha hb => same_bools a b _ W (by omega) ha hb⟩ ⟨fun W a b ha hb => same_ints a b _ W (by omega) ha hb⟩ HC HS ⟨fun h1 h2 => ?_⟩
  obtain ⟨hg, he⟩ := alE_zero h1
  obtain ⟨k1, -, -⟩ := chkE_zero h2
  obtain ⟨⟨c1, c2⟩, ⟨d1, d2⟩, e1, e2⟩ := cell_bd hg k1
  obtain ⟨⟨a1, a2⟩, ⟨b1, b2⟩, hlen, hall⟩ := gdB_iff hg
  have hat : L[cellN wd x y]? = some (L.getD (cellN wd x y) 0) := by
    rw [List.getD_eq_getElem?_getD, List.getElem?_eq_getElem e2]
    rfl
  have hb := allIn_at hall hat
  have hCV : ceV wd dp L x y = L.getD (cellN wd x y) 0 := by unfold ceV; rw [if_pos h2]
  have hask : askE wd dp L e x y (ceV wd dp L x y) = 0 := by
    unfold askE
    rw [k1, hg, he, hCV, inB_iff.2 ⟨hb.1, by omega⟩]
    rfl
  have hp : 0 ≤ wd * y ∧ wd * y ≤ 24 * 24 := ⟨Int.mul_nonneg (by omega) d1, Int.mul_le_mul a2 (by omega) d1 (by omega)⟩
  refine ⟨hask, wd * y, cellN wd x y, IntWalk.i64_in _ (by omega), by rw [IntWalk.i64_in _ (by omega), e1], ?_⟩
  rw [hask]
  have hAL : alL wd dp L e = (List.range L.length).map (topB wd.toNat L e) := by unfold alL; rw [if_pos h1]
  rw [hAL, List.getElem?_map, List.getElem?_range e2]
  obtain ⟨N, hN⟩ := Int.eq_ofNat_of_zero_le (show 0 ≤ wd by omega)
  obtain ⟨X, hX⟩ := Int.eq_ofNat_of_zero_le c1
  obtain ⟨Y, hY⟩ := Int.eq_ofNat_of_zero_le d1
  subst hN hX hY
  have hcn : cellN N X Y = X + N * Y := by
    have : ((cellN N X Y : Nat) : Int) = ((X + N * Y : Nat) : Int) := by rw [e1]; push_cast; rfl
    omega
  have hmod : (X + N * Y) % N = X := by rw [Nat.add_mul_mod_self_left]; exact Nat.mod_eq_of_lt (by omega)
  have hdiv : (X + N * Y) / N = Y := by rw [Nat.add_mul_div_left _ _ (by omega : 0 < N), Nat.div_eq_of_lt (by omega), Nat.zero_add]
  have hS : (decide ((0 : Int) = 0) && (hid N L e X (Y : Int).toNat (ceV N dp L X Y)).isNone) = topB (N : Int).toNat L e (cellN N X Y) := by
    unfold topB
    rw [hCV, hcn, Int.toNat_natCast, Int.toNat_natCast, hmod, hdiv]
    simp
  rw [hS]
  rfl
end Go.Proofs.Ytjnggchljilooaa.Sc
