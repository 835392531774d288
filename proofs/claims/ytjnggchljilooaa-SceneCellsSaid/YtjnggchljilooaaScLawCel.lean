/-
  WALKS (layer 7, scene): the law SceneCells.
-/
import Derived.Test.YtjnggchljilooaaScCellsA
import Derived.Test.YtjnggchljilooaaScEye
import Derived.Test.YtjnggchljilooaaScAwake
namespace Go.Proofs.Ytjnggchljilooaa.Sc
open Go Go.RowKit Go.Sort

set_option maxRecDepth 100000 in
set_option maxHeartbeats 4000000 in
theorem law_cells_st (wd dp ex eb eh x y n : Int) (g : Option Addr) (M c : Nat) (V B : Bool) (CV CE WE RE ME HX HY : Int) (a1 b1 a2 b2 a3 b3 : Int) (L1 L2 L3 : List Int) (w : World)
    (HC1 : Kp (∀ W, Below w.heap.size w W → Calls Try.prog 12 #[.agg #[.int .i64 wd, .int .i64 dp, .slice g M c], .int .i64 x, .int .i64 y] W fun en w' => en = .returned (.tuple #[.int .i64 CV, .int .i64 CE]) ∧ Below W.heap.size W w'))
    (HC2 : Kp (∀ W, Below w.heap.size w W → Calls Try.prog 13 #[.agg #[.int .i64 wd, .int .i64 dp, .slice g M c], .int .i64 x, .int .i64 y] W fun en w' => en = .returned (.tuple #[.int .i64 CV, .int .i64 CE]) ∧ Below W.heap.size W w'))
    (HW1 : Kp (∀ W, Below w.heap.size w W → Calls Try.prog 14 #[.agg #[.int .i64 wd, .int .i64 dp, .slice g M c], .int .i64 x, .int .i64 y, .int .i64 n] W fun en w' => (∃ V, en = .returned (.tuple #[V, .int .i64 WE]) ∧ GV w' V a1 b1 L1) ∧ Below W.heap.size W w'))
    (HW2 : Kp (∀ W, Below w.heap.size w W → Calls Try.prog 15 #[.agg #[.int .i64 wd, .int .i64 dp, .slice g M c], .int .i64 x, .int .i64 y, .int .i64 n] W fun en w' => (∃ V, en = .returned (.tuple #[V, .int .i64 WE]) ∧ GV w' V a1 b1 L1) ∧ Below W.heap.size W w'))
    (HV1 : Kp (∀ W, Below w.heap.size w W → Calls Try.prog 16 #[.agg #[.int .i64 wd, .int .i64 dp, .slice g M c]] W fun en w' => en = .returned (.bool V) ∧ Below W.heap.size W w'))
    (HV2 : Kp (∀ W, Below w.heap.size w W → Calls Try.prog 17 #[.agg #[.int .i64 wd, .int .i64 dp, .slice g M c]] W fun en w' => en = .returned (.bool V) ∧ Below W.heap.size W w'))
    (HE1 : Kp (∀ W, Below w.heap.size w W → Calls Try.prog 18 #[.agg #[.int .i64 wd, .int .i64 dp, .slice g M c], .agg #[.int .i64 ex, .int .i64 eb, .int .i64 eh]] W fun en w' => en = .returned (.bool B) ∧ Below W.heap.size W w'))
    (HE2 : Kp (∀ W, Below w.heap.size w W → Calls Try.prog 19 #[.agg #[.int .i64 wd, .int .i64 dp, .slice g M c], .agg #[.int .i64 ex, .int .i64 eb, .int .i64 eh]] W fun en w' => en = .returned (.bool B) ∧ Below W.heap.size W w'))
    (HR1 : Kp (∀ W, Below w.heap.size w W → Calls Try.prog 21 #[.agg #[.int .i64 wd, .int .i64 dp, .slice g M c], .int .i64 n] W fun en w' => (∃ V, en = .returned (.tuple #[V, .int .i64 RE]) ∧ GN W.heap.size w' V a2 b2 L2) ∧ Below W.heap.size W w'))
    (HR2 : Kp (∀ W, Below w.heap.size w W → Calls Try.prog 22 #[.agg #[.int .i64 wd, .int .i64 dp, .slice g M c], .int .i64 n] W fun en w' => (∃ V, en = .returned (.tuple #[V, .int .i64 RE]) ∧ GN W.heap.size w' V a2 b2 L2) ∧ Below W.heap.size W w'))
    (HM1 : Kp (∀ W, Below w.heap.size w W → Calls Try.prog 23 #[.agg #[.int .i64 wd, .int .i64 dp, .slice g M c]] W fun en w' => (∃ V, en = .returned (.tuple #[V, .int .i64 ME]) ∧ GV w' V a3 b3 L3) ∧ Below W.heap.size W w'))
    (HM2 : Kp (∀ W, Below w.heap.size w W → Calls Try.prog 24 #[.agg #[.int .i64 wd, .int .i64 dp, .slice g M c]] W fun en w' => (∃ V, en = .returned (.tuple #[V, .int .i64 ME]) ∧ GV w' V a3 b3 L3) ∧ Below W.heap.size W w'))
    (HH1 : Kp (∀ W, Below w.heap.size w W → Calls Try.prog 25 #[.agg #[.int .i64 wd, .int .i64 dp, .slice g M c]] W fun en w' => en = .returned (.tuple #[.int .i64 HX, .int .i64 HY, .int .i64 ME]) ∧ Below W.heap.size W w'))
    (HH2 : Kp (∀ W, Below w.heap.size w W → Calls Try.prog 26 #[.agg #[.int .i64 wd, .int .i64 dp, .slice g M c]] W fun en w' => en = .returned (.tuple #[.int .i64 HX, .int .i64 HY, .int .i64 ME]) ∧ Below W.heap.size W w'))
    (HL : Kp (L1.length ≤ 100000 ∧ L2.length ≤ 100000 ∧ L3.length ≤ 100000)) :
    Calls Try.prog 3 #[.agg #[.int .i64 wd, .int .i64 dp, .slice g M c], .agg #[.int .i64 ex, .int .i64 eb, .int .i64 eh], .int .i64 x, .int .i64 y, .int .i64 n] w fun e w' => e = .returned (.bool true) ∧ Below w.heap.size w w' := by
  have HAW := Kp.mk (fun W => awake_any W)
  have HSG := Kp.mk (fun (V U : Value) (a b : Int) (L : List Int) (W : World) (hl : L.length ≤ 100000) (h1 : GV W V a b L) (h2 : GV W U a b L) => same_ground V U a b L W hl h1 h2)
  go_enter Try.func3, Try.ntmps3
  by_cases hM : (600 : Int) < (M : Int)
  · clear HC1 HC2 HW1 HW2 HV1 HV2 HE1 HE2 HR1 HR2 HM1 HM2 HH1 HH2 HSG HL
    go_wp2_with fail
    refine (HAW.out _).mono ?_
    rintro en w9 ⟨rfl, hb9⟩
    have HB9 : Kp (Below w.heap.size w w9) := ⟨Below.trans (by repeat (first | exact Below.refl _ _ | refine Below.alloc ?_ (by simp <;> omega) _ | refine bDrewN ?_ _ | refine Below.drew ?_)) (hb9.mono (by simp <;> omega))⟩
    clear hb9
    go_wp2
    go_ret
    exact ⟨rfl, HB9.out⟩
  go_wp2_with fail
  clear hM
  obtain ⟨N1, hN1⟩ : ∃ N, L1.length = N := ⟨_, rfl⟩
  obtain ⟨N2, hN2⟩ : ∃ N, L2.length = N := ⟨_, rfl⟩
  obtain ⟨N3, hN3⟩ : ∃ N, L3.length = N := ⟨_, rfl⟩
  have HNN := Kp.mk (And.intro hN1 (And.intro hN2 hN3))
  clear hN1 hN2 hN3
  refine (HC1.out _ (by repeat (first | exact Below.refl _ _ | refine Below.alloc ?_ (by simp <;> omega) _ | refine bDrewN ?_ _ | refine Below.drew ?_))).mono ?_
  rintro en w1 ⟨rfl, hb1⟩
  clear HC1
  have HB1 : Kp (Below w.heap.size w w1) := ⟨Below.trans (by repeat (first | refine Below.alloc ?_ (by (try simp) <;> omega) _ | refine bDrewN ?_ _ | refine Below.drew ?_ | refine Below.setCell ?_ (by (try simp) <;> omega) _ | exact Below.refl _ _)) (hb1.mono (by (try simp) <;> omega))⟩
  have hz1_0 : w.heap.size < w1.heap.size := by have := hb1.size; (try simp at this); omega
  have hz1_1 : w.heap.size + 1 < w1.heap.size := by have := hb1.size; (try simp at this); omega
  obtain ⟨hc, hf⟩ := bcell hb1
  have c1_0_0 : w1.cell? ⟨w.heap.size, 0, none⟩ = some (.int .i64 wd) := (hc _ _ (by (try simp) <;> omega)).trans (by go_simp)
  have c1_0_1 : w1.cell? ⟨w.heap.size, 1, none⟩ = some (.int .i64 dp) := (hc _ _ (by (try simp) <;> omega)).trans (by go_simp)
  have c1_0_2 : w1.cell? ⟨w.heap.size, 2, none⟩ = some ((.slice g M c)) := (hc _ _ (by (try simp) <;> omega)).trans (by go_simp)
  have z1_0 : ∀ j, w1.frozen? ⟨w.heap.size, j, none⟩ = false := fun j => (hf _ _ (by (try simp) <;> omega)).trans (by go_simp)
  have c1_1_0 : w1.cell? ⟨w.heap.size + 1, 0, none⟩ = some (.int .i64 ex) := (hc _ _ (by (try simp) <;> omega)).trans (by go_simp)
  have c1_1_1 : w1.cell? ⟨w.heap.size + 1, 1, none⟩ = some (.int .i64 eb) := (hc _ _ (by (try simp) <;> omega)).trans (by go_simp)
  have c1_1_2 : w1.cell? ⟨w.heap.size + 1, 2, none⟩ = some (.int .i64 eh) := (hc _ _ (by (try simp) <;> omega)).trans (by go_simp)
  have z1_1 : ∀ j, w1.frozen? ⟨w.heap.size + 1, j, none⟩ = false := fun j => (hf _ _ (by (try simp) <;> omega)).trans (by go_simp)
  clear hc hf hb1
  go_wp2_with fail
  refine (HC2.out _ HB1.out).mono ?_
  rintro en w2 ⟨rfl, hb2⟩
  clear HC2
  have HB2 : Kp (Below w.heap.size w w2) := ⟨Below.trans (by repeat (first | refine Below.alloc ?_ (by have := HB1.out.size; (try simp) <;> omega) _ | refine bDrewN ?_ _ | refine Below.drew ?_ | refine Below.setCell ?_ (by have := HB1.out.size; (try simp) <;> omega) _ | exact HB1.out)) (hb2.mono (by have := HB1.out.size; (try simp) <;> omega))⟩
  have hz2_0 : w.heap.size < w2.heap.size := by have := hb2.size; (try simp at this); omega
  have hz2_1 : w.heap.size + 1 < w2.heap.size := by have := hb2.size; (try simp at this); omega
  obtain ⟨hc, hf⟩ := bcell hb2
  have c2_0_0 : w2.cell? ⟨w.heap.size, 0, none⟩ = some (.int .i64 wd) := (hc _ _ (by (try simp) <;> omega)).trans (by go_simp)
  have c2_0_1 : w2.cell? ⟨w.heap.size, 1, none⟩ = some (.int .i64 dp) := (hc _ _ (by (try simp) <;> omega)).trans (by go_simp)
  have c2_0_2 : w2.cell? ⟨w.heap.size, 2, none⟩ = some ((.slice g M c)) := (hc _ _ (by (try simp) <;> omega)).trans (by go_simp)
  have z2_0 : ∀ j, w2.frozen? ⟨w.heap.size, j, none⟩ = false := fun j => (hf _ _ (by (try simp) <;> omega)).trans (by go_simp)
  have c2_1_0 : w2.cell? ⟨w.heap.size + 1, 0, none⟩ = some (.int .i64 ex) := (hc _ _ (by (try simp) <;> omega)).trans (by go_simp)
  have c2_1_1 : w2.cell? ⟨w.heap.size + 1, 1, none⟩ = some (.int .i64 eb) := (hc _ _ (by (try simp) <;> omega)).trans (by go_simp)
  have c2_1_2 : w2.cell? ⟨w.heap.size + 1, 2, none⟩ = some (.int .i64 eh) := (hc _ _ (by (try simp) <;> omega)).trans (by go_simp)
  have z2_1 : ∀ j, w2.frozen? ⟨w.heap.size + 1, j, none⟩ = false := fun j => (hf _ _ (by (try simp) <;> omega)).trans (by go_simp)
  clear hc hf hb2
  go_wp2_with fail
  refine (HW1.out _ HB2.out).mono ?_
  rintro en w3 ⟨⟨V1, rfl, hv1⟩, hb3⟩
  obtain ⟨g1, d1, rfl, i1⟩ := hv1
  rw [HNN.out.1] at i1 ⊢
  have HG1 : Kp (GV w3 (.agg #[.int .i64 a1, .int .i64 b1, .slice g1 N1 d1]) a1 b1 L1) := ⟨GV.mk_ i1⟩
  clear HW1 i1
  have HB3 : Kp (Below w.heap.size w w3) := ⟨Below.trans (by repeat (first | refine Below.alloc ?_ (by have := HB2.out.size; (try simp) <;> omega) _ | refine bDrewN ?_ _ | refine Below.drew ?_ | refine Below.setCell ?_ (by have := HB2.out.size; (try simp) <;> omega) _ | exact HB2.out)) (hb3.mono (by have := HB2.out.size; (try simp) <;> omega))⟩
  have hz3_0 : w.heap.size < w3.heap.size := by have := hb3.size; (try simp at this); omega
  have hz3_1 : w.heap.size + 1 < w3.heap.size := by have := hb3.size; (try simp at this); omega
  obtain ⟨hc, hf⟩ := bcell hb3
  have c3_0_0 : w3.cell? ⟨w.heap.size, 0, none⟩ = some (.int .i64 wd) := (hc _ _ (by (try simp) <;> omega)).trans (by go_simp)
  have c3_0_1 : w3.cell? ⟨w.heap.size, 1, none⟩ = some (.int .i64 dp) := (hc _ _ (by (try simp) <;> omega)).trans (by go_simp)
  have c3_0_2 : w3.cell? ⟨w.heap.size, 2, none⟩ = some ((.slice g M c)) := (hc _ _ (by (try simp) <;> omega)).trans (by go_simp)
  have z3_0 : ∀ j, w3.frozen? ⟨w.heap.size, j, none⟩ = false := fun j => (hf _ _ (by (try simp) <;> omega)).trans (by go_simp)
  have c3_1_0 : w3.cell? ⟨w.heap.size + 1, 0, none⟩ = some (.int .i64 ex) := (hc _ _ (by (try simp) <;> omega)).trans (by go_simp)
  have c3_1_1 : w3.cell? ⟨w.heap.size + 1, 1, none⟩ = some (.int .i64 eb) := (hc _ _ (by (try simp) <;> omega)).trans (by go_simp)
  have c3_1_2 : w3.cell? ⟨w.heap.size + 1, 2, none⟩ = some (.int .i64 eh) := (hc _ _ (by (try simp) <;> omega)).trans (by go_simp)
  have z3_1 : ∀ j, w3.frozen? ⟨w.heap.size + 1, j, none⟩ = false := fun j => (hf _ _ (by (try simp) <;> omega)).trans (by go_simp)
  clear hc hf hb3
  go_wp2_with fail
  refine (HW2.out _ (HB3.out.alloc HB3.out.size _)).mono ?_
  rintro en w4 ⟨⟨V2, rfl, hv2⟩, hb4⟩
  obtain ⟨g2, d2, rfl, i2⟩ := hv2
  rw [HNN.out.1] at i2 ⊢
  have HG2 : Kp (GV w4 (.agg #[.int .i64 a1, .int .i64 b1, .slice g2 N1 d2]) a1 b1 L1) := ⟨GV.mk_ i2⟩
  have HG1 := Kp.mk ((HG1.out.on ((Below.refl _ _).alloc (Nat.le_refl _) _)).on hb4)
  clear HW2 i2
  have HB4 : Kp (Below w.heap.size w w4) := ⟨Below.trans (by repeat (first | refine Below.alloc ?_ (by have := HB3.out.size; (try simp) <;> omega) _ | refine bDrewN ?_ _ | refine Below.drew ?_ | refine Below.setCell ?_ (by have := HB3.out.size; (try simp) <;> omega) _ | exact HB3.out)) (hb4.mono (by have := HB3.out.size; (try simp) <;> omega))⟩
  have hz4_0 : w.heap.size < w4.heap.size := by have := hb4.size; (try simp at this); omega
  have hz4_1 : w.heap.size + 1 < w4.heap.size := by have := hb4.size; (try simp at this); omega
  have hz4_2 : w3.heap.size < w4.heap.size := by have := hb4.size; (try simp at this); omega
  obtain ⟨hc, hf⟩ := bcell hb4
  have c4_0_0 : w4.cell? ⟨w.heap.size, 0, none⟩ = some (.int .i64 wd) := (hc _ _ (by (try simp) <;> omega)).trans (by go_simp)
  have c4_0_1 : w4.cell? ⟨w.heap.size, 1, none⟩ = some (.int .i64 dp) := (hc _ _ (by (try simp) <;> omega)).trans (by go_simp)
  have c4_0_2 : w4.cell? ⟨w.heap.size, 2, none⟩ = some ((.slice g M c)) := (hc _ _ (by (try simp) <;> omega)).trans (by go_simp)
  have z4_0 : ∀ j, w4.frozen? ⟨w.heap.size, j, none⟩ = false := fun j => (hf _ _ (by (try simp) <;> omega)).trans (by go_simp)
  have c4_1_0 : w4.cell? ⟨w.heap.size + 1, 0, none⟩ = some (.int .i64 ex) := (hc _ _ (by (try simp) <;> omega)).trans (by go_simp)
  have c4_1_1 : w4.cell? ⟨w.heap.size + 1, 1, none⟩ = some (.int .i64 eb) := (hc _ _ (by (try simp) <;> omega)).trans (by go_simp)
  have c4_1_2 : w4.cell? ⟨w.heap.size + 1, 2, none⟩ = some (.int .i64 eh) := (hc _ _ (by (try simp) <;> omega)).trans (by go_simp)
  have z4_1 : ∀ j, w4.frozen? ⟨w.heap.size + 1, j, none⟩ = false := fun j => (hf _ _ (by (try simp) <;> omega)).trans (by go_simp)
  have c4_2_0 : w4.cell? ⟨w3.heap.size, 0, none⟩ = some (.int .i64 a1) := (hc _ _ (by (try simp) <;> omega)).trans (by go_simp)
  have c4_2_1 : w4.cell? ⟨w3.heap.size, 1, none⟩ = some (.int .i64 b1) := (hc _ _ (by (try simp) <;> omega)).trans (by go_simp)
  have c4_2_2 : w4.cell? ⟨w3.heap.size, 2, none⟩ = some ((.slice g1 N1 d1)) := (hc _ _ (by (try simp) <;> omega)).trans (by go_simp)
  have z4_2 : ∀ j, w4.frozen? ⟨w3.heap.size, j, none⟩ = false := fun j => (hf _ _ (by (try simp) <;> omega)).trans (by go_simp)
  clear hc hf hb4
  go_wp2_with fail
  obtain ⟨w5, hw5⟩ : ∃ w5, w4.alloc (.cells #[.int .i64 a1, .int .i64 b1, .slice g2 N1 d2] 24) = w5 := ⟨_, rfl⟩
  rw [hw5]
  have hb5 : Below (w4.alloc (.cells #[.int .i64 a1, .int .i64 b1, .slice g2 N1 d2] 24)).heap.size (w4.alloc (.cells #[.int .i64 a1, .int .i64 b1, .slice g2 N1 d2] 24)) w5 := by rw [hw5]; exact Below.refl _ _
  have HG1 := Kp.mk ((HG1.out.on ((Below.refl _ _).alloc (Nat.le_refl _) _)).on hb5)
  have HG2 := Kp.mk ((HG2.out.on ((Below.refl _ _).alloc (Nat.le_refl _) _)).on hb5)
  clear hw5
  have hzq : w3.heap.size < w4.heap.size ∧ True := ⟨by have := hz4_2; omega, trivial⟩
  have HB5 : Kp (Below w.heap.size w w5) := ⟨Below.trans (by repeat (first | refine Below.alloc ?_ (by have := HB4.out.size; (try simp) <;> omega) _ | refine bDrewN ?_ _ | refine Below.drew ?_ | refine Below.setCell ?_ (by have := HB4.out.size; (try simp) <;> omega) _ | exact HB4.out)) (hb5.mono (by have := HB4.out.size; (try simp) <;> omega))⟩
  have hz5_0 : w.heap.size < w5.heap.size := by have := hb5.size; (try simp at this); omega
  have hz5_1 : w.heap.size + 1 < w5.heap.size := by have := hb5.size; (try simp at this); omega
  have hz5_2 : w3.heap.size < w5.heap.size := by have := hb5.size; (try simp at this); omega
  have hz5_3 : w4.heap.size < w5.heap.size := by have := hb5.size; (try simp at this); omega
  obtain ⟨hc, hf⟩ := bcell hb5
  have c5_0_0 : w5.cell? ⟨w.heap.size, 0, none⟩ = some (.int .i64 wd) := (hc _ _ (by (try simp) <;> omega)).trans (by go_simp)
  have c5_0_1 : w5.cell? ⟨w.heap.size, 1, none⟩ = some (.int .i64 dp) := (hc _ _ (by (try simp) <;> omega)).trans (by go_simp)
  have c5_0_2 : w5.cell? ⟨w.heap.size, 2, none⟩ = some ((.slice g M c)) := (hc _ _ (by (try simp) <;> omega)).trans (by go_simp)
  have z5_0 : ∀ j, w5.frozen? ⟨w.heap.size, j, none⟩ = false := fun j => (hf _ _ (by (try simp) <;> omega)).trans (by go_simp)
  have c5_1_0 : w5.cell? ⟨w.heap.size + 1, 0, none⟩ = some (.int .i64 ex) := (hc _ _ (by (try simp) <;> omega)).trans (by go_simp)
  have c5_1_1 : w5.cell? ⟨w.heap.size + 1, 1, none⟩ = some (.int .i64 eb) := (hc _ _ (by (try simp) <;> omega)).trans (by go_simp)
  have c5_1_2 : w5.cell? ⟨w.heap.size + 1, 2, none⟩ = some (.int .i64 eh) := (hc _ _ (by (try simp) <;> omega)).trans (by go_simp)
  have z5_1 : ∀ j, w5.frozen? ⟨w.heap.size + 1, j, none⟩ = false := fun j => (hf _ _ (by (try simp) <;> omega)).trans (by go_simp)
  have c5_2_0 : w5.cell? ⟨w3.heap.size, 0, none⟩ = some (.int .i64 a1) := (hc _ _ (by (try simp) <;> omega)).trans (by go_simp)
  have c5_2_1 : w5.cell? ⟨w3.heap.size, 1, none⟩ = some (.int .i64 b1) := (hc _ _ (by (try simp) <;> omega)).trans (by go_simp)
  have c5_2_2 : w5.cell? ⟨w3.heap.size, 2, none⟩ = some ((.slice g1 N1 d1)) := (hc _ _ (by (try simp) <;> omega)).trans (by go_simp)
  have z5_2 : ∀ j, w5.frozen? ⟨w3.heap.size, j, none⟩ = false := fun j => (hf _ _ (by (try simp) <;> omega)).trans (by go_simp)
  have c5_3_0 : w5.cell? ⟨w4.heap.size, 0, none⟩ = some (.int .i64 a1) := (hc _ _ (by (try simp) <;> omega)).trans (by go_simp)
  have c5_3_1 : w5.cell? ⟨w4.heap.size, 1, none⟩ = some (.int .i64 b1) := (hc _ _ (by (try simp) <;> omega)).trans (by go_simp)
  have c5_3_2 : w5.cell? ⟨w4.heap.size, 2, none⟩ = some ((.slice g2 N1 d2)) := (hc _ _ (by (try simp) <;> omega)).trans (by go_simp)
  have z5_3 : ∀ j, w5.frozen? ⟨w4.heap.size, j, none⟩ = false := fun j => (hf _ _ (by (try simp) <;> omega)).trans (by go_simp)
  clear hc hf hb5
  have r5_0_0 := fun d os => cell_regrown c5_0_0 d os
  have r5_0_1 := fun d os => cell_regrown c5_0_1 d os
  have r5_0_2 := fun d os => cell_regrown c5_0_2 d os
  have r5_1_0 := fun d os => cell_regrown c5_1_0 d os
  have r5_1_1 := fun d os => cell_regrown c5_1_1 d os
  have r5_1_2 := fun d os => cell_regrown c5_1_2 d os
  have r5_2_0 := fun d os => cell_regrown c5_2_0 d os
  have r5_2_1 := fun d os => cell_regrown c5_2_1 d os
  have r5_2_2 := fun d os => cell_regrown c5_2_2 d os
  have r5_3_0 := fun d os => cell_regrown c5_3_0 d os
  have r5_3_1 := fun d os => cell_regrown c5_3_1 d os
  have r5_3_2 := fun d os => cell_regrown c5_3_2 d os
  have HCL : Kp (∀ d os, Below w5.heap.size w5 (grow (redrawn w5 d) os) ∧ Below w.heap.size w (grow (redrawn w5 d) os)) := ⟨fun d os => ⟨below_regrown w5 d os, HB5.out.trans ((below_regrown w5 d os).mono HB5.out.size)⟩⟩
  have K1 : Kp (∀ d os, _) := ⟨fun d os => HV1.out (grow (redrawn w5 d) os) (HCL.out d os).2⟩
  have K2 : Kp (∀ d os, _) := ⟨fun d os => HV2.out (grow (redrawn w5 d) os) (HCL.out d os).2⟩
  have K3 : Kp (∀ d os, _) := ⟨fun d os => HE1.out (grow (redrawn w5 d) os) (HCL.out d os).2⟩
  have K4 : Kp (∀ d os, _) := ⟨fun d os => HE2.out (grow (redrawn w5 d) os) (HCL.out d os).2⟩
  have K5 : Kp (∀ d os, _) := ⟨fun d os => HSG.out _ _ a1 b1 L1 (grow (redrawn w5 d) os) HL.out.1 (HG1.out.on (HCL.out d os).1) (HG2.out.on (HCL.out d os).1)⟩
  have t1 : (V != V) = false := by simp
  have t2 : (B != B) = false := by simp
  have t3 : (CV != CV) = false := by simp
  have t4 : (CE != CE) = false := by simp
  have t5 : (WE != WE) = false := by simp
  clear HV1 HV2 HE1 HE2
  refine wp_region_quiet_below (by kernel_rfl) (by kernel_rfl) ?_
  repeat (any_goals (first | go_big_quiet_step (first | (with_reducible exact Calls.regrown_of (K1.out _ _)) | (with_reducible exact Calls.regrown_of (K2.out _ _)) | (with_reducible exact Calls.regrown_of (K3.out _ _)) | (with_reducible exact Calls.regrown_of (K4.out _ _)) | (with_reducible exact Calls.regrown_of (K5.out _ _))) | quiet_step (first | (with_reducible exact Calls.regrown_of (K1.out _ _)) | (with_reducible exact Calls.regrown_of (K2.out _ _)) | (with_reducible exact Calls.regrown_of (K3.out _ _)) | (with_reducible exact Calls.regrown_of (K4.out _ _)) | (with_reducible exact Calls.regrown_of (K5.out _ _)))))
  refine wpQuiet_nil ?_
  intro _ hqw
  obtain ⟨⟨dq, osq⟩, hqv⟩ := hqw
  subst hqv
  obtain ⟨w6, hw6⟩ : ∃ w6, grow (redrawn w5 dq) osq = w6 := ⟨_, rfl⟩
  rw [hw6]
  have hb6 : Below w5.heap.size w5 w6 := by rw [← hw6]; exact (HCL.out dq osq).1
  clear hw6 K1 K2 K3 K4 K5 HCL HG1 HG2 r5_0_0 r5_0_1 r5_0_2 r5_1_0 r5_1_1 r5_1_2 r5_2_0 r5_2_1 r5_2_2 r5_3_0 r5_3_1 r5_3_2 t1 t2 t3 t4 t5
  have HB6 : Kp (Below w.heap.size w w6) := ⟨Below.trans (by repeat (first | refine Below.alloc ?_ (by have := HB5.out.size; (try simp) <;> omega) _ | refine bDrewN ?_ _ | refine Below.drew ?_ | refine Below.setCell ?_ (by have := HB5.out.size; (try simp) <;> omega) _ | exact HB5.out)) (hb6.mono (by have := HB5.out.size; (try simp) <;> omega))⟩
  have hz6_0 : w.heap.size < w6.heap.size := by have := hb6.size; (try simp at this); omega
  have hz6_1 : w.heap.size + 1 < w6.heap.size := by have := hb6.size; (try simp at this); omega
  have hz6_2 : w3.heap.size < w6.heap.size := by have := hb6.size; (try simp at this); omega
  have hz6_3 : w4.heap.size < w6.heap.size := by have := hb6.size; (try simp at this); omega
  obtain ⟨hc, hf⟩ := bcell hb6
  have c6_0_0 : w6.cell? ⟨w.heap.size, 0, none⟩ = some (.int .i64 wd) := (hc _ _ (by (try simp) <;> omega)).trans (by go_simp)
  have c6_0_1 : w6.cell? ⟨w.heap.size, 1, none⟩ = some (.int .i64 dp) := (hc _ _ (by (try simp) <;> omega)).trans (by go_simp)
  have c6_0_2 : w6.cell? ⟨w.heap.size, 2, none⟩ = some ((.slice g M c)) := (hc _ _ (by (try simp) <;> omega)).trans (by go_simp)
  have z6_0 : ∀ j, w6.frozen? ⟨w.heap.size, j, none⟩ = false := fun j => (hf _ _ (by (try simp) <;> omega)).trans (by go_simp)
  have c6_1_0 : w6.cell? ⟨w.heap.size + 1, 0, none⟩ = some (.int .i64 ex) := (hc _ _ (by (try simp) <;> omega)).trans (by go_simp)
  have c6_1_1 : w6.cell? ⟨w.heap.size + 1, 1, none⟩ = some (.int .i64 eb) := (hc _ _ (by (try simp) <;> omega)).trans (by go_simp)
  have c6_1_2 : w6.cell? ⟨w.heap.size + 1, 2, none⟩ = some (.int .i64 eh) := (hc _ _ (by (try simp) <;> omega)).trans (by go_simp)
  have z6_1 : ∀ j, w6.frozen? ⟨w.heap.size + 1, j, none⟩ = false := fun j => (hf _ _ (by (try simp) <;> omega)).trans (by go_simp)
  have c6_2_0 : w6.cell? ⟨w3.heap.size, 0, none⟩ = some (.int .i64 a1) := (hc _ _ (by (try simp) <;> omega)).trans (by go_simp)
  have c6_2_1 : w6.cell? ⟨w3.heap.size, 1, none⟩ = some (.int .i64 b1) := (hc _ _ (by (try simp) <;> omega)).trans (by go_simp)
  have c6_2_2 : w6.cell? ⟨w3.heap.size, 2, none⟩ = some ((.slice g1 N1 d1)) := (hc _ _ (by (try simp) <;> omega)).trans (by go_simp)
  have z6_2 : ∀ j, w6.frozen? ⟨w3.heap.size, j, none⟩ = false := fun j => (hf _ _ (by (try simp) <;> omega)).trans (by go_simp)
  have c6_3_0 : w6.cell? ⟨w4.heap.size, 0, none⟩ = some (.int .i64 a1) := (hc _ _ (by (try simp) <;> omega)).trans (by go_simp)
  have c6_3_1 : w6.cell? ⟨w4.heap.size, 1, none⟩ = some (.int .i64 b1) := (hc _ _ (by (try simp) <;> omega)).trans (by go_simp)
  have c6_3_2 : w6.cell? ⟨w4.heap.size, 2, none⟩ = some ((.slice g2 N1 d2)) := (hc _ _ (by (try simp) <;> omega)).trans (by go_simp)
  have z6_3 : ∀ j, w6.frozen? ⟨w4.heap.size, j, none⟩ = false := fun j => (hf _ _ (by (try simp) <;> omega)).trans (by go_simp)
  clear hc hf hb6
  have hza : w.heap.size + 1 < w3.heap.size := by have := HB3.out.size; have := hz6_2; omega
  have hzb : w3.heap.size < w4.heap.size := hzq.1
  have hzc : w4.heap.size < w6.heap.size := hz6_3
  have n1 : ¬ w.heap.size = w3.heap.size := by omega
  have n2 : ¬ w.heap.size + 1 = w3.heap.size := by omega
  have n3 : ¬ w3.heap.size = w.heap.size := by omega
  have n4 : ¬ w3.heap.size = w.heap.size + 1 := by omega
  have n5 : ¬ w.heap.size = w4.heap.size := by omega
  have n6 : ¬ w.heap.size + 1 = w4.heap.size := by omega
  have n7 : ¬ w4.heap.size = w.heap.size := by omega
  have n8 : ¬ w4.heap.size = w.heap.size + 1 := by omega
  have n9 : ¬ w3.heap.size = w4.heap.size := by omega
  have n10 : ¬ w4.heap.size = w3.heap.size := by omega
  clear hzq
  go_wp2_with fail
  refine (HR1.out _ HB6.out).mono ?_
  rintro en w7 ⟨⟨V3, rfl, hv3⟩, hb7⟩
  obtain ⟨g3, d3, rfl, i3, f3⟩ := hv3
  rw [HNN.out.2.1] at i3 ⊢
  have HG3 : Kp (GN w6.heap.size w7 (.agg #[.int .i64 a2, .int .i64 b2, .slice g3 N2 d3]) a2 b2 L2) := ⟨GN.mk_ i3 f3⟩
  have hz67 : w6.heap.size ≤ w7.heap.size := hb7.size
  clear HR1 i3 f3
  have HB7 : Kp (Below w.heap.size w w7) := ⟨Below.trans (by repeat (first | refine Below.alloc ?_ (by have := HB6.out.size; (try simp) <;> omega) _ | refine bDrewN ?_ _ | refine Below.drew ?_ | refine Below.setCell ?_ (by have := HB6.out.size; (try simp) <;> omega) _ | exact HB6.out)) (hb7.mono (by have := HB6.out.size; (try simp) <;> omega))⟩
  have hz7_0 : w.heap.size < w7.heap.size := by have := hb7.size; (try simp at this); omega
  have hz7_1 : w.heap.size + 1 < w7.heap.size := by have := hb7.size; (try simp at this); omega
  have hz7_2 : w3.heap.size < w7.heap.size := by have := hb7.size; (try simp at this); omega
  have hz7_3 : w4.heap.size < w7.heap.size := by have := hb7.size; (try simp at this); omega
  obtain ⟨hc, hf⟩ := bcell hb7
  have c7_0_0 : w7.cell? ⟨w.heap.size, 0, none⟩ = some (.int .i64 wd) := (hc _ _ (by (try simp) <;> omega)).trans (by go_simp)
  have c7_0_1 : w7.cell? ⟨w.heap.size, 1, none⟩ = some (.int .i64 dp) := (hc _ _ (by (try simp) <;> omega)).trans (by go_simp)
  have c7_0_2 : w7.cell? ⟨w.heap.size, 2, none⟩ = some ((.slice g M c)) := (hc _ _ (by (try simp) <;> omega)).trans (by go_simp)
  have z7_0 : ∀ j, w7.frozen? ⟨w.heap.size, j, none⟩ = false := fun j => (hf _ _ (by (try simp) <;> omega)).trans (by go_simp)
  have c7_1_0 : w7.cell? ⟨w.heap.size + 1, 0, none⟩ = some (.int .i64 ex) := (hc _ _ (by (try simp) <;> omega)).trans (by go_simp)
  have c7_1_1 : w7.cell? ⟨w.heap.size + 1, 1, none⟩ = some (.int .i64 eb) := (hc _ _ (by (try simp) <;> omega)).trans (by go_simp)
  have c7_1_2 : w7.cell? ⟨w.heap.size + 1, 2, none⟩ = some (.int .i64 eh) := (hc _ _ (by (try simp) <;> omega)).trans (by go_simp)
  have z7_1 : ∀ j, w7.frozen? ⟨w.heap.size + 1, j, none⟩ = false := fun j => (hf _ _ (by (try simp) <;> omega)).trans (by go_simp)
  have c7_2_0 : w7.cell? ⟨w3.heap.size, 0, none⟩ = some (.int .i64 a1) := (hc _ _ (by (try simp) <;> omega)).trans (by go_simp)
  have c7_2_1 : w7.cell? ⟨w3.heap.size, 1, none⟩ = some (.int .i64 b1) := (hc _ _ (by (try simp) <;> omega)).trans (by go_simp)
  have c7_2_2 : w7.cell? ⟨w3.heap.size, 2, none⟩ = some ((.slice g1 N1 d1)) := (hc _ _ (by (try simp) <;> omega)).trans (by go_simp)
  have z7_2 : ∀ j, w7.frozen? ⟨w3.heap.size, j, none⟩ = false := fun j => (hf _ _ (by (try simp) <;> omega)).trans (by go_simp)
  have c7_3_0 : w7.cell? ⟨w4.heap.size, 0, none⟩ = some (.int .i64 a1) := (hc _ _ (by (try simp) <;> omega)).trans (by go_simp)
  have c7_3_1 : w7.cell? ⟨w4.heap.size, 1, none⟩ = some (.int .i64 b1) := (hc _ _ (by (try simp) <;> omega)).trans (by go_simp)
  have c7_3_2 : w7.cell? ⟨w4.heap.size, 2, none⟩ = some ((.slice g2 N1 d2)) := (hc _ _ (by (try simp) <;> omega)).trans (by go_simp)
  have z7_3 : ∀ j, w7.frozen? ⟨w4.heap.size, j, none⟩ = false := fun j => (hf _ _ (by (try simp) <;> omega)).trans (by go_simp)
  clear hc hf hb7
  go_wp2_with fail
  obtain ⟨w8, hw8⟩ : ∃ w8, ((w7.setCell ⟨w3.heap.size, 0, none⟩ (.int .i64 a2)).setCell ⟨w3.heap.size, 1, none⟩ (.int .i64 b2)).setCell ⟨w3.heap.size, 2, none⟩ (.slice g3 N2 d3) = w8 := ⟨_, rfl⟩
  rw [hw8]
  have HG3 : Kp (GN w6.heap.size w8 (.agg #[.int .i64 a2, .int .i64 b2, .slice g3 N2 d3]) a2 b2 L2) := ⟨by rw [← hw8]; exact ((HG3.out.away (by omega) 0 _).away (by omega) 1 _).away (by omega) 2 _⟩
  have hb8 : Below (((w7.setCell ⟨w3.heap.size, 0, none⟩ (.int .i64 a2)).setCell ⟨w3.heap.size, 1, none⟩ (.int .i64 b2)).setCell ⟨w3.heap.size, 2, none⟩ (.slice g3 N2 d3)).heap.size (((w7.setCell ⟨w3.heap.size, 0, none⟩ (.int .i64 a2)).setCell ⟨w3.heap.size, 1, none⟩ (.int .i64 b2)).setCell ⟨w3.heap.size, 2, none⟩ (.slice g3 N2 d3)) w8 := by rw [hw8]; exact Below.refl _ _
  have hz78 : w7.heap.size ≤ w8.heap.size := by rw [← hw8]; simp
  clear hw8
  have HB8 : Kp (Below w.heap.size w w8) := ⟨Below.trans (by repeat (first | refine Below.alloc ?_ (by have := HB7.out.size; (try simp) <;> omega) _ | refine bDrewN ?_ _ | refine Below.drew ?_ | refine Below.setCell ?_ (by have := HB7.out.size; (try simp) <;> omega) _ | exact HB7.out)) (hb8.mono (by have := HB7.out.size; (try simp) <;> omega))⟩
  have hz8_0 : w.heap.size < w8.heap.size := by have := hb8.size; (try simp at this); omega
  have hz8_1 : w.heap.size + 1 < w8.heap.size := by have := hb8.size; (try simp at this); omega
  have hz8_2 : w3.heap.size < w8.heap.size := by have := hb8.size; (try simp at this); omega
  have hz8_3 : w4.heap.size < w8.heap.size := by have := hb8.size; (try simp at this); omega
  obtain ⟨hc, hf⟩ := bcell hb8
  have c8_0_0 : w8.cell? ⟨w.heap.size, 0, none⟩ = some (.int .i64 wd) := (hc _ _ (by (try simp) <;> omega)).trans (by go_simp)
  have c8_0_1 : w8.cell? ⟨w.heap.size, 1, none⟩ = some (.int .i64 dp) := (hc _ _ (by (try simp) <;> omega)).trans (by go_simp)
  have c8_0_2 : w8.cell? ⟨w.heap.size, 2, none⟩ = some ((.slice g M c)) := (hc _ _ (by (try simp) <;> omega)).trans (by go_simp)
  have z8_0 : ∀ j, w8.frozen? ⟨w.heap.size, j, none⟩ = false := fun j => (hf _ _ (by (try simp) <;> omega)).trans (by go_simp)
  have c8_1_0 : w8.cell? ⟨w.heap.size + 1, 0, none⟩ = some (.int .i64 ex) := (hc _ _ (by (try simp) <;> omega)).trans (by go_simp)
  have c8_1_1 : w8.cell? ⟨w.heap.size + 1, 1, none⟩ = some (.int .i64 eb) := (hc _ _ (by (try simp) <;> omega)).trans (by go_simp)
  have c8_1_2 : w8.cell? ⟨w.heap.size + 1, 2, none⟩ = some (.int .i64 eh) := (hc _ _ (by (try simp) <;> omega)).trans (by go_simp)
  have z8_1 : ∀ j, w8.frozen? ⟨w.heap.size + 1, j, none⟩ = false := fun j => (hf _ _ (by (try simp) <;> omega)).trans (by go_simp)
  have c8_2_0 : w8.cell? ⟨w3.heap.size, 0, none⟩ = some (.int .i64 a2) := (hc _ _ (by (try simp) <;> omega)).trans (by go_simp)
  have c8_2_1 : w8.cell? ⟨w3.heap.size, 1, none⟩ = some (.int .i64 b2) := (hc _ _ (by (try simp) <;> omega)).trans (by go_simp)
  have c8_2_2 : w8.cell? ⟨w3.heap.size, 2, none⟩ = some ((.slice g3 N2 d3)) := (hc _ _ (by (try simp) <;> omega)).trans (by go_simp)
  have z8_2 : ∀ j, w8.frozen? ⟨w3.heap.size, j, none⟩ = false := fun j => (hf _ _ (by (try simp) <;> omega)).trans (by go_simp)
  have c8_3_0 : w8.cell? ⟨w4.heap.size, 0, none⟩ = some (.int .i64 a1) := (hc _ _ (by (try simp) <;> omega)).trans (by go_simp)
  have c8_3_1 : w8.cell? ⟨w4.heap.size, 1, none⟩ = some (.int .i64 b1) := (hc _ _ (by (try simp) <;> omega)).trans (by go_simp)
  have c8_3_2 : w8.cell? ⟨w4.heap.size, 2, none⟩ = some ((.slice g2 N1 d2)) := (hc _ _ (by (try simp) <;> omega)).trans (by go_simp)
  have z8_3 : ∀ j, w8.frozen? ⟨w4.heap.size, j, none⟩ = false := fun j => (hf _ _ (by (try simp) <;> omega)).trans (by go_simp)
  clear hc hf hb8
  refine (HR2.out _ HB8.out).mono ?_
  rintro en w9 ⟨⟨V4, rfl, hv4⟩, hb9⟩
  obtain ⟨g4, d4, rfl, i4, f4⟩ := hv4
  rw [HNN.out.2.1] at i4 ⊢
  have HG4 : Kp (GN w8.heap.size w9 (.agg #[.int .i64 a2, .int .i64 b2, .slice g4 N2 d4]) a2 b2 L2) := ⟨GN.mk_ i4 f4⟩
  have HG3 := Kp.mk (HG3.out.on hb9)
  clear HR2 i4 f4
  have HB9 : Kp (Below w.heap.size w w9) := ⟨Below.trans (by repeat (first | refine Below.alloc ?_ (by have := HB8.out.size; (try simp) <;> omega) _ | refine bDrewN ?_ _ | refine Below.drew ?_ | refine Below.setCell ?_ (by have := HB8.out.size; (try simp) <;> omega) _ | exact HB8.out)) (hb9.mono (by have := HB8.out.size; (try simp) <;> omega))⟩
  have hz9_0 : w.heap.size < w9.heap.size := by have := hb9.size; (try simp at this); omega
  have hz9_1 : w.heap.size + 1 < w9.heap.size := by have := hb9.size; (try simp at this); omega
  have hz9_2 : w3.heap.size < w9.heap.size := by have := hb9.size; (try simp at this); omega
  have hz9_3 : w4.heap.size < w9.heap.size := by have := hb9.size; (try simp at this); omega
  obtain ⟨hc, hf⟩ := bcell hb9
  have c9_0_0 : w9.cell? ⟨w.heap.size, 0, none⟩ = some (.int .i64 wd) := (hc _ _ (by (try simp) <;> omega)).trans (by go_simp)
  have c9_0_1 : w9.cell? ⟨w.heap.size, 1, none⟩ = some (.int .i64 dp) := (hc _ _ (by (try simp) <;> omega)).trans (by go_simp)
  have c9_0_2 : w9.cell? ⟨w.heap.size, 2, none⟩ = some ((.slice g M c)) := (hc _ _ (by (try simp) <;> omega)).trans (by go_simp)
  have z9_0 : ∀ j, w9.frozen? ⟨w.heap.size, j, none⟩ = false := fun j => (hf _ _ (by (try simp) <;> omega)).trans (by go_simp)
  have c9_1_0 : w9.cell? ⟨w.heap.size + 1, 0, none⟩ = some (.int .i64 ex) := (hc _ _ (by (try simp) <;> omega)).trans (by go_simp)
  have c9_1_1 : w9.cell? ⟨w.heap.size + 1, 1, none⟩ = some (.int .i64 eb) := (hc _ _ (by (try simp) <;> omega)).trans (by go_simp)
  have c9_1_2 : w9.cell? ⟨w.heap.size + 1, 2, none⟩ = some (.int .i64 eh) := (hc _ _ (by (try simp) <;> omega)).trans (by go_simp)
  have z9_1 : ∀ j, w9.frozen? ⟨w.heap.size + 1, j, none⟩ = false := fun j => (hf _ _ (by (try simp) <;> omega)).trans (by go_simp)
  have c9_2_0 : w9.cell? ⟨w3.heap.size, 0, none⟩ = some (.int .i64 a2) := (hc _ _ (by (try simp) <;> omega)).trans (by go_simp)
  have c9_2_1 : w9.cell? ⟨w3.heap.size, 1, none⟩ = some (.int .i64 b2) := (hc _ _ (by (try simp) <;> omega)).trans (by go_simp)
  have c9_2_2 : w9.cell? ⟨w3.heap.size, 2, none⟩ = some ((.slice g3 N2 d3)) := (hc _ _ (by (try simp) <;> omega)).trans (by go_simp)
  have z9_2 : ∀ j, w9.frozen? ⟨w3.heap.size, j, none⟩ = false := fun j => (hf _ _ (by (try simp) <;> omega)).trans (by go_simp)
  have c9_3_0 : w9.cell? ⟨w4.heap.size, 0, none⟩ = some (.int .i64 a1) := (hc _ _ (by (try simp) <;> omega)).trans (by go_simp)
  have c9_3_1 : w9.cell? ⟨w4.heap.size, 1, none⟩ = some (.int .i64 b1) := (hc _ _ (by (try simp) <;> omega)).trans (by go_simp)
  have c9_3_2 : w9.cell? ⟨w4.heap.size, 2, none⟩ = some ((.slice g2 N1 d2)) := (hc _ _ (by (try simp) <;> omega)).trans (by go_simp)
  have z9_3 : ∀ j, w9.frozen? ⟨w4.heap.size, j, none⟩ = false := fun j => (hf _ _ (by (try simp) <;> omega)).trans (by go_simp)
  clear hc hf hb9
  go_wp2_with fail
  obtain ⟨w10, hw10⟩ : ∃ w10, ((w9.setCell ⟨w4.heap.size, 0, none⟩ (.int .i64 a2)).setCell ⟨w4.heap.size, 1, none⟩ (.int .i64 b2)).setCell ⟨w4.heap.size, 2, none⟩ (.slice g4 N2 d4) = w10 := ⟨_, rfl⟩
  rw [hw10]
  have HG3 : Kp (GV w10 (.agg #[.int .i64 a2, .int .i64 b2, .slice g3 N2 d3]) a2 b2 L2) := ⟨by rw [← hw10]; exact (((HG3.out.away (by omega) 0 _).away (by omega) 1 _).away (by omega) 2 _).gv⟩
  have HG4 : Kp (GV w10 (.agg #[.int .i64 a2, .int .i64 b2, .slice g4 N2 d4]) a2 b2 L2) := ⟨by rw [← hw10]; exact (((HG4.out.away (by omega) 0 _).away (by omega) 1 _).away (by omega) 2 _).gv⟩
  have hb10 : Below (((w9.setCell ⟨w4.heap.size, 0, none⟩ (.int .i64 a2)).setCell ⟨w4.heap.size, 1, none⟩ (.int .i64 b2)).setCell ⟨w4.heap.size, 2, none⟩ (.slice g4 N2 d4)).heap.size (((w9.setCell ⟨w4.heap.size, 0, none⟩ (.int .i64 a2)).setCell ⟨w4.heap.size, 1, none⟩ (.int .i64 b2)).setCell ⟨w4.heap.size, 2, none⟩ (.slice g4 N2 d4)) w10 := by rw [hw10]; exact Below.refl _ _
  clear hw10
  have HB10 : Kp (Below w.heap.size w w10) := ⟨Below.trans (by repeat (first | refine Below.alloc ?_ (by have := HB9.out.size; (try simp) <;> omega) _ | refine bDrewN ?_ _ | refine Below.drew ?_ | refine Below.setCell ?_ (by have := HB9.out.size; (try simp) <;> omega) _ | exact HB9.out)) (hb10.mono (by have := HB9.out.size; (try simp) <;> omega))⟩
  have hz10_0 : w.heap.size < w10.heap.size := by have := hb10.size; (try simp at this); omega
  have hz10_1 : w.heap.size + 1 < w10.heap.size := by have := hb10.size; (try simp at this); omega
  have hz10_2 : w3.heap.size < w10.heap.size := by have := hb10.size; (try simp at this); omega
  have hz10_3 : w4.heap.size < w10.heap.size := by have := hb10.size; (try simp at this); omega
  obtain ⟨hc, hf⟩ := bcell hb10
  have c10_0_0 : w10.cell? ⟨w.heap.size, 0, none⟩ = some (.int .i64 wd) := (hc _ _ (by (try simp) <;> omega)).trans (by go_simp)
  have c10_0_1 : w10.cell? ⟨w.heap.size, 1, none⟩ = some (.int .i64 dp) := (hc _ _ (by (try simp) <;> omega)).trans (by go_simp)
  have c10_0_2 : w10.cell? ⟨w.heap.size, 2, none⟩ = some ((.slice g M c)) := (hc _ _ (by (try simp) <;> omega)).trans (by go_simp)
  have z10_0 : ∀ j, w10.frozen? ⟨w.heap.size, j, none⟩ = false := fun j => (hf _ _ (by (try simp) <;> omega)).trans (by go_simp)
  have c10_1_0 : w10.cell? ⟨w.heap.size + 1, 0, none⟩ = some (.int .i64 ex) := (hc _ _ (by (try simp) <;> omega)).trans (by go_simp)
  have c10_1_1 : w10.cell? ⟨w.heap.size + 1, 1, none⟩ = some (.int .i64 eb) := (hc _ _ (by (try simp) <;> omega)).trans (by go_simp)
  have c10_1_2 : w10.cell? ⟨w.heap.size + 1, 2, none⟩ = some (.int .i64 eh) := (hc _ _ (by (try simp) <;> omega)).trans (by go_simp)
  have z10_1 : ∀ j, w10.frozen? ⟨w.heap.size + 1, j, none⟩ = false := fun j => (hf _ _ (by (try simp) <;> omega)).trans (by go_simp)
  have c10_2_0 : w10.cell? ⟨w3.heap.size, 0, none⟩ = some (.int .i64 a2) := (hc _ _ (by (try simp) <;> omega)).trans (by go_simp)
  have c10_2_1 : w10.cell? ⟨w3.heap.size, 1, none⟩ = some (.int .i64 b2) := (hc _ _ (by (try simp) <;> omega)).trans (by go_simp)
  have c10_2_2 : w10.cell? ⟨w3.heap.size, 2, none⟩ = some ((.slice g3 N2 d3)) := (hc _ _ (by (try simp) <;> omega)).trans (by go_simp)
  have z10_2 : ∀ j, w10.frozen? ⟨w3.heap.size, j, none⟩ = false := fun j => (hf _ _ (by (try simp) <;> omega)).trans (by go_simp)
  have c10_3_0 : w10.cell? ⟨w4.heap.size, 0, none⟩ = some (.int .i64 a2) := (hc _ _ (by (try simp) <;> omega)).trans (by go_simp)
  have c10_3_1 : w10.cell? ⟨w4.heap.size, 1, none⟩ = some (.int .i64 b2) := (hc _ _ (by (try simp) <;> omega)).trans (by go_simp)
  have c10_3_2 : w10.cell? ⟨w4.heap.size, 2, none⟩ = some ((.slice g4 N2 d4)) := (hc _ _ (by (try simp) <;> omega)).trans (by go_simp)
  have z10_3 : ∀ j, w10.frozen? ⟨w4.heap.size, j, none⟩ = false := fun j => (hf _ _ (by (try simp) <;> omega)).trans (by go_simp)
  clear hc hf hb10
  clear n1 n2 n3 n4 n5 n6 n7 n8 n9 n10 hza hzb hzc hz67 hz78
  refine (HM1.out _ HB10.out).mono ?_
  rintro en w11 ⟨⟨V5, rfl, hv5⟩, hb11⟩
  obtain ⟨g5, d5, rfl, i5⟩ := hv5
  rw [HNN.out.2.2] at i5 ⊢
  have HG5 : Kp (GV w11 (.agg #[.int .i64 a3, .int .i64 b3, .slice g5 N3 d5]) a3 b3 L3) := ⟨GV.mk_ i5⟩
  have HG3 := Kp.mk (HG3.out.on hb11)
  have HG4 := Kp.mk (HG4.out.on hb11)
  clear HM1 i5
  have HB11 : Kp (Below w.heap.size w w11) := ⟨Below.trans (by repeat (first | refine Below.alloc ?_ (by have := HB10.out.size; (try simp) <;> omega) _ | refine bDrewN ?_ _ | refine Below.drew ?_ | refine Below.setCell ?_ (by have := HB10.out.size; (try simp) <;> omega) _ | exact HB10.out)) (hb11.mono (by have := HB10.out.size; (try simp) <;> omega))⟩
  have hz11_0 : w.heap.size < w11.heap.size := by have := hb11.size; (try simp at this); omega
  have hz11_1 : w.heap.size + 1 < w11.heap.size := by have := hb11.size; (try simp at this); omega
  have hz11_2 : w3.heap.size < w11.heap.size := by have := hb11.size; (try simp at this); omega
  have hz11_3 : w4.heap.size < w11.heap.size := by have := hb11.size; (try simp at this); omega
  obtain ⟨hc, hf⟩ := bcell hb11
  have c11_0_0 : w11.cell? ⟨w.heap.size, 0, none⟩ = some (.int .i64 wd) := (hc _ _ (by (try simp) <;> omega)).trans (by go_simp)
  have c11_0_1 : w11.cell? ⟨w.heap.size, 1, none⟩ = some (.int .i64 dp) := (hc _ _ (by (try simp) <;> omega)).trans (by go_simp)
  have c11_0_2 : w11.cell? ⟨w.heap.size, 2, none⟩ = some ((.slice g M c)) := (hc _ _ (by (try simp) <;> omega)).trans (by go_simp)
  have z11_0 : ∀ j, w11.frozen? ⟨w.heap.size, j, none⟩ = false := fun j => (hf _ _ (by (try simp) <;> omega)).trans (by go_simp)
  have c11_1_0 : w11.cell? ⟨w.heap.size + 1, 0, none⟩ = some (.int .i64 ex) := (hc _ _ (by (try simp) <;> omega)).trans (by go_simp)
  have c11_1_1 : w11.cell? ⟨w.heap.size + 1, 1, none⟩ = some (.int .i64 eb) := (hc _ _ (by (try simp) <;> omega)).trans (by go_simp)
  have c11_1_2 : w11.cell? ⟨w.heap.size + 1, 2, none⟩ = some (.int .i64 eh) := (hc _ _ (by (try simp) <;> omega)).trans (by go_simp)
  have z11_1 : ∀ j, w11.frozen? ⟨w.heap.size + 1, j, none⟩ = false := fun j => (hf _ _ (by (try simp) <;> omega)).trans (by go_simp)
  have c11_2_0 : w11.cell? ⟨w3.heap.size, 0, none⟩ = some (.int .i64 a2) := (hc _ _ (by (try simp) <;> omega)).trans (by go_simp)
  have c11_2_1 : w11.cell? ⟨w3.heap.size, 1, none⟩ = some (.int .i64 b2) := (hc _ _ (by (try simp) <;> omega)).trans (by go_simp)
  have c11_2_2 : w11.cell? ⟨w3.heap.size, 2, none⟩ = some ((.slice g3 N2 d3)) := (hc _ _ (by (try simp) <;> omega)).trans (by go_simp)
  have z11_2 : ∀ j, w11.frozen? ⟨w3.heap.size, j, none⟩ = false := fun j => (hf _ _ (by (try simp) <;> omega)).trans (by go_simp)
  have c11_3_0 : w11.cell? ⟨w4.heap.size, 0, none⟩ = some (.int .i64 a2) := (hc _ _ (by (try simp) <;> omega)).trans (by go_simp)
  have c11_3_1 : w11.cell? ⟨w4.heap.size, 1, none⟩ = some (.int .i64 b2) := (hc _ _ (by (try simp) <;> omega)).trans (by go_simp)
  have c11_3_2 : w11.cell? ⟨w4.heap.size, 2, none⟩ = some ((.slice g4 N2 d4)) := (hc _ _ (by (try simp) <;> omega)).trans (by go_simp)
  have z11_3 : ∀ j, w11.frozen? ⟨w4.heap.size, j, none⟩ = false := fun j => (hf _ _ (by (try simp) <;> omega)).trans (by go_simp)
  clear hc hf hb11
  go_wp2_with fail
  refine (HM2.out _ (HB11.out.alloc HB11.out.size _)).mono ?_
  rintro en w12 ⟨⟨V6, rfl, hv6⟩, hb12⟩
  obtain ⟨g6, d6, rfl, i6⟩ := hv6
  rw [HNN.out.2.2] at i6 ⊢
  have HG6 : Kp (GV w12 (.agg #[.int .i64 a3, .int .i64 b3, .slice g6 N3 d6]) a3 b3 L3) := ⟨GV.mk_ i6⟩
  have HG3 := Kp.mk ((HG3.out.on ((Below.refl _ _).alloc (Nat.le_refl _) _)).on hb12)
  have HG4 := Kp.mk ((HG4.out.on ((Below.refl _ _).alloc (Nat.le_refl _) _)).on hb12)
  have HG5 := Kp.mk ((HG5.out.on ((Below.refl _ _).alloc (Nat.le_refl _) _)).on hb12)
  clear HM2 i6
  have HB12 : Kp (Below w.heap.size w w12) := ⟨Below.trans (by repeat (first | refine Below.alloc ?_ (by have := HB11.out.size; (try simp) <;> omega) _ | refine bDrewN ?_ _ | refine Below.drew ?_ | refine Below.setCell ?_ (by have := HB11.out.size; (try simp) <;> omega) _ | exact HB11.out)) (hb12.mono (by have := HB11.out.size; (try simp) <;> omega))⟩
  have hz12_0 : w.heap.size < w12.heap.size := by have := hb12.size; (try simp at this); omega
  have hz12_1 : w.heap.size + 1 < w12.heap.size := by have := hb12.size; (try simp at this); omega
  have hz12_2 : w3.heap.size < w12.heap.size := by have := hb12.size; (try simp at this); omega
  have hz12_3 : w4.heap.size < w12.heap.size := by have := hb12.size; (try simp at this); omega
  have hz12_4 : w11.heap.size < w12.heap.size := by have := hb12.size; (try simp at this); omega
  obtain ⟨hc, hf⟩ := bcell hb12
  have c12_0_0 : w12.cell? ⟨w.heap.size, 0, none⟩ = some (.int .i64 wd) := (hc _ _ (by (try simp) <;> omega)).trans (by go_simp)
  have c12_0_1 : w12.cell? ⟨w.heap.size, 1, none⟩ = some (.int .i64 dp) := (hc _ _ (by (try simp) <;> omega)).trans (by go_simp)
  have c12_0_2 : w12.cell? ⟨w.heap.size, 2, none⟩ = some ((.slice g M c)) := (hc _ _ (by (try simp) <;> omega)).trans (by go_simp)
  have z12_0 : ∀ j, w12.frozen? ⟨w.heap.size, j, none⟩ = false := fun j => (hf _ _ (by (try simp) <;> omega)).trans (by go_simp)
  have c12_1_0 : w12.cell? ⟨w.heap.size + 1, 0, none⟩ = some (.int .i64 ex) := (hc _ _ (by (try simp) <;> omega)).trans (by go_simp)
  have c12_1_1 : w12.cell? ⟨w.heap.size + 1, 1, none⟩ = some (.int .i64 eb) := (hc _ _ (by (try simp) <;> omega)).trans (by go_simp)
  have c12_1_2 : w12.cell? ⟨w.heap.size + 1, 2, none⟩ = some (.int .i64 eh) := (hc _ _ (by (try simp) <;> omega)).trans (by go_simp)
  have z12_1 : ∀ j, w12.frozen? ⟨w.heap.size + 1, j, none⟩ = false := fun j => (hf _ _ (by (try simp) <;> omega)).trans (by go_simp)
  have c12_2_0 : w12.cell? ⟨w3.heap.size, 0, none⟩ = some (.int .i64 a2) := (hc _ _ (by (try simp) <;> omega)).trans (by go_simp)
  have c12_2_1 : w12.cell? ⟨w3.heap.size, 1, none⟩ = some (.int .i64 b2) := (hc _ _ (by (try simp) <;> omega)).trans (by go_simp)
  have c12_2_2 : w12.cell? ⟨w3.heap.size, 2, none⟩ = some ((.slice g3 N2 d3)) := (hc _ _ (by (try simp) <;> omega)).trans (by go_simp)
  have z12_2 : ∀ j, w12.frozen? ⟨w3.heap.size, j, none⟩ = false := fun j => (hf _ _ (by (try simp) <;> omega)).trans (by go_simp)
  have c12_3_0 : w12.cell? ⟨w4.heap.size, 0, none⟩ = some (.int .i64 a2) := (hc _ _ (by (try simp) <;> omega)).trans (by go_simp)
  have c12_3_1 : w12.cell? ⟨w4.heap.size, 1, none⟩ = some (.int .i64 b2) := (hc _ _ (by (try simp) <;> omega)).trans (by go_simp)
  have c12_3_2 : w12.cell? ⟨w4.heap.size, 2, none⟩ = some ((.slice g4 N2 d4)) := (hc _ _ (by (try simp) <;> omega)).trans (by go_simp)
  have z12_3 : ∀ j, w12.frozen? ⟨w4.heap.size, j, none⟩ = false := fun j => (hf _ _ (by (try simp) <;> omega)).trans (by go_simp)
  have c12_4_0 : w12.cell? ⟨w11.heap.size, 0, none⟩ = some (.int .i64 a3) := (hc _ _ (by (try simp) <;> omega)).trans (by go_simp)
  have c12_4_1 : w12.cell? ⟨w11.heap.size, 1, none⟩ = some (.int .i64 b3) := (hc _ _ (by (try simp) <;> omega)).trans (by go_simp)
  have c12_4_2 : w12.cell? ⟨w11.heap.size, 2, none⟩ = some ((.slice g5 N3 d5)) := (hc _ _ (by (try simp) <;> omega)).trans (by go_simp)
  have z12_4 : ∀ j, w12.frozen? ⟨w11.heap.size, j, none⟩ = false := fun j => (hf _ _ (by (try simp) <;> omega)).trans (by go_simp)
  clear hc hf hb12
  go_wp2_with fail
  refine (HH1.out _ (HB12.out.alloc HB12.out.size _)).mono ?_
  rintro en w13 ⟨rfl, hb13⟩
  have HG3 := Kp.mk ((HG3.out.on ((Below.refl _ _).alloc (Nat.le_refl _) _)).on hb13)
  have HG4 := Kp.mk ((HG4.out.on ((Below.refl _ _).alloc (Nat.le_refl _) _)).on hb13)
  have HG5 := Kp.mk ((HG5.out.on ((Below.refl _ _).alloc (Nat.le_refl _) _)).on hb13)
  have HG6 := Kp.mk ((HG6.out.on ((Below.refl _ _).alloc (Nat.le_refl _) _)).on hb13)
  clear HH1
  have HB13 : Kp (Below w.heap.size w w13) := ⟨Below.trans (by repeat (first | refine Below.alloc ?_ (by have := HB12.out.size; (try simp) <;> omega) _ | refine bDrewN ?_ _ | refine Below.drew ?_ | refine Below.setCell ?_ (by have := HB12.out.size; (try simp) <;> omega) _ | exact HB12.out)) (hb13.mono (by have := HB12.out.size; (try simp) <;> omega))⟩
  have hz13_0 : w.heap.size < w13.heap.size := by have := hb13.size; (try simp at this); omega
  have hz13_1 : w.heap.size + 1 < w13.heap.size := by have := hb13.size; (try simp at this); omega
  have hz13_2 : w3.heap.size < w13.heap.size := by have := hb13.size; (try simp at this); omega
  have hz13_3 : w4.heap.size < w13.heap.size := by have := hb13.size; (try simp at this); omega
  have hz13_4 : w11.heap.size < w13.heap.size := by have := hb13.size; (try simp at this); omega
  have hz13_5 : w12.heap.size < w13.heap.size := by have := hb13.size; (try simp at this); omega
  obtain ⟨hc, hf⟩ := bcell hb13
  have c13_0_0 : w13.cell? ⟨w.heap.size, 0, none⟩ = some (.int .i64 wd) := (hc _ _ (by (try simp) <;> omega)).trans (by go_simp)
  have c13_0_1 : w13.cell? ⟨w.heap.size, 1, none⟩ = some (.int .i64 dp) := (hc _ _ (by (try simp) <;> omega)).trans (by go_simp)
  have c13_0_2 : w13.cell? ⟨w.heap.size, 2, none⟩ = some ((.slice g M c)) := (hc _ _ (by (try simp) <;> omega)).trans (by go_simp)
  have z13_0 : ∀ j, w13.frozen? ⟨w.heap.size, j, none⟩ = false := fun j => (hf _ _ (by (try simp) <;> omega)).trans (by go_simp)
  have c13_1_0 : w13.cell? ⟨w.heap.size + 1, 0, none⟩ = some (.int .i64 ex) := (hc _ _ (by (try simp) <;> omega)).trans (by go_simp)
  have c13_1_1 : w13.cell? ⟨w.heap.size + 1, 1, none⟩ = some (.int .i64 eb) := (hc _ _ (by (try simp) <;> omega)).trans (by go_simp)
  have c13_1_2 : w13.cell? ⟨w.heap.size + 1, 2, none⟩ = some (.int .i64 eh) := (hc _ _ (by (try simp) <;> omega)).trans (by go_simp)
  have z13_1 : ∀ j, w13.frozen? ⟨w.heap.size + 1, j, none⟩ = false := fun j => (hf _ _ (by (try simp) <;> omega)).trans (by go_simp)
  have c13_2_0 : w13.cell? ⟨w3.heap.size, 0, none⟩ = some (.int .i64 a2) := (hc _ _ (by (try simp) <;> omega)).trans (by go_simp)
  have c13_2_1 : w13.cell? ⟨w3.heap.size, 1, none⟩ = some (.int .i64 b2) := (hc _ _ (by (try simp) <;> omega)).trans (by go_simp)
  have c13_2_2 : w13.cell? ⟨w3.heap.size, 2, none⟩ = some ((.slice g3 N2 d3)) := (hc _ _ (by (try simp) <;> omega)).trans (by go_simp)
  have z13_2 : ∀ j, w13.frozen? ⟨w3.heap.size, j, none⟩ = false := fun j => (hf _ _ (by (try simp) <;> omega)).trans (by go_simp)
  have c13_3_0 : w13.cell? ⟨w4.heap.size, 0, none⟩ = some (.int .i64 a2) := (hc _ _ (by (try simp) <;> omega)).trans (by go_simp)
  have c13_3_1 : w13.cell? ⟨w4.heap.size, 1, none⟩ = some (.int .i64 b2) := (hc _ _ (by (try simp) <;> omega)).trans (by go_simp)
  have c13_3_2 : w13.cell? ⟨w4.heap.size, 2, none⟩ = some ((.slice g4 N2 d4)) := (hc _ _ (by (try simp) <;> omega)).trans (by go_simp)
  have z13_3 : ∀ j, w13.frozen? ⟨w4.heap.size, j, none⟩ = false := fun j => (hf _ _ (by (try simp) <;> omega)).trans (by go_simp)
  have c13_4_0 : w13.cell? ⟨w11.heap.size, 0, none⟩ = some (.int .i64 a3) := (hc _ _ (by (try simp) <;> omega)).trans (by go_simp)
  have c13_4_1 : w13.cell? ⟨w11.heap.size, 1, none⟩ = some (.int .i64 b3) := (hc _ _ (by (try simp) <;> omega)).trans (by go_simp)
  have c13_4_2 : w13.cell? ⟨w11.heap.size, 2, none⟩ = some ((.slice g5 N3 d5)) := (hc _ _ (by (try simp) <;> omega)).trans (by go_simp)
  have z13_4 : ∀ j, w13.frozen? ⟨w11.heap.size, j, none⟩ = false := fun j => (hf _ _ (by (try simp) <;> omega)).trans (by go_simp)
  have c13_5_0 : w13.cell? ⟨w12.heap.size, 0, none⟩ = some (.int .i64 a3) := (hc _ _ (by (try simp) <;> omega)).trans (by go_simp)
  have c13_5_1 : w13.cell? ⟨w12.heap.size, 1, none⟩ = some (.int .i64 b3) := (hc _ _ (by (try simp) <;> omega)).trans (by go_simp)
  have c13_5_2 : w13.cell? ⟨w12.heap.size, 2, none⟩ = some ((.slice g6 N3 d6)) := (hc _ _ (by (try simp) <;> omega)).trans (by go_simp)
  have z13_5 : ∀ j, w13.frozen? ⟨w12.heap.size, j, none⟩ = false := fun j => (hf _ _ (by (try simp) <;> omega)).trans (by go_simp)
  clear hc hf hb13
  go_wp2_with fail
  refine (HH2.out _ HB13.out).mono ?_
  rintro en w14 ⟨rfl, hb14⟩
  have HG3 := Kp.mk (HG3.out.on hb14)
  have HG4 := Kp.mk (HG4.out.on hb14)
  have HG5 := Kp.mk (HG5.out.on hb14)
  have HG6 := Kp.mk (HG6.out.on hb14)
  clear HH2
  have HB14 : Kp (Below w.heap.size w w14) := ⟨Below.trans (by repeat (first | refine Below.alloc ?_ (by have := HB13.out.size; (try simp) <;> omega) _ | refine bDrewN ?_ _ | refine Below.drew ?_ | refine Below.setCell ?_ (by have := HB13.out.size; (try simp) <;> omega) _ | exact HB13.out)) (hb14.mono (by have := HB13.out.size; (try simp) <;> omega))⟩
  have hz14_0 : w3.heap.size < w14.heap.size := by have := hb14.size; (try simp at this); omega
  have hz14_1 : w4.heap.size < w14.heap.size := by have := hb14.size; (try simp at this); omega
  have hz14_2 : w11.heap.size < w14.heap.size := by have := hb14.size; (try simp at this); omega
  have hz14_3 : w12.heap.size < w14.heap.size := by have := hb14.size; (try simp at this); omega
  obtain ⟨hc, hf⟩ := bcell hb14
  have c14_0_0 : w14.cell? ⟨w3.heap.size, 0, none⟩ = some (.int .i64 a2) := (hc _ _ (by (try simp) <;> omega)).trans (by go_simp)
  have c14_0_1 : w14.cell? ⟨w3.heap.size, 1, none⟩ = some (.int .i64 b2) := (hc _ _ (by (try simp) <;> omega)).trans (by go_simp)
  have c14_0_2 : w14.cell? ⟨w3.heap.size, 2, none⟩ = some ((.slice g3 N2 d3)) := (hc _ _ (by (try simp) <;> omega)).trans (by go_simp)
  have z14_0 : ∀ j, w14.frozen? ⟨w3.heap.size, j, none⟩ = false := fun j => (hf _ _ (by (try simp) <;> omega)).trans (by go_simp)
  have c14_1_0 : w14.cell? ⟨w4.heap.size, 0, none⟩ = some (.int .i64 a2) := (hc _ _ (by (try simp) <;> omega)).trans (by go_simp)
  have c14_1_1 : w14.cell? ⟨w4.heap.size, 1, none⟩ = some (.int .i64 b2) := (hc _ _ (by (try simp) <;> omega)).trans (by go_simp)
  have c14_1_2 : w14.cell? ⟨w4.heap.size, 2, none⟩ = some ((.slice g4 N2 d4)) := (hc _ _ (by (try simp) <;> omega)).trans (by go_simp)
  have z14_1 : ∀ j, w14.frozen? ⟨w4.heap.size, j, none⟩ = false := fun j => (hf _ _ (by (try simp) <;> omega)).trans (by go_simp)
  have c14_2_0 : w14.cell? ⟨w11.heap.size, 0, none⟩ = some (.int .i64 a3) := (hc _ _ (by (try simp) <;> omega)).trans (by go_simp)
  have c14_2_1 : w14.cell? ⟨w11.heap.size, 1, none⟩ = some (.int .i64 b3) := (hc _ _ (by (try simp) <;> omega)).trans (by go_simp)
  have c14_2_2 : w14.cell? ⟨w11.heap.size, 2, none⟩ = some ((.slice g5 N3 d5)) := (hc _ _ (by (try simp) <;> omega)).trans (by go_simp)
  have z14_2 : ∀ j, w14.frozen? ⟨w11.heap.size, j, none⟩ = false := fun j => (hf _ _ (by (try simp) <;> omega)).trans (by go_simp)
  have c14_3_0 : w14.cell? ⟨w12.heap.size, 0, none⟩ = some (.int .i64 a3) := (hc _ _ (by (try simp) <;> omega)).trans (by go_simp)
  have c14_3_1 : w14.cell? ⟨w12.heap.size, 1, none⟩ = some (.int .i64 b3) := (hc _ _ (by (try simp) <;> omega)).trans (by go_simp)
  have c14_3_2 : w14.cell? ⟨w12.heap.size, 2, none⟩ = some ((.slice g6 N3 d6)) := (hc _ _ (by (try simp) <;> omega)).trans (by go_simp)
  have z14_3 : ∀ j, w14.frozen? ⟨w12.heap.size, j, none⟩ = false := fun j => (hf _ _ (by (try simp) <;> omega)).trans (by go_simp)
  clear hc hf hb14
  have t1 : (RE == RE) = true := by simp
  have t2 : (ME == ME) = true := by simp
  have t3 : (HX == HX) = true := by simp
  have t4 : (HY == HY) = true := by simp
  go_wp2_with fail
  refine (HSG.out _ _ a2 b2 L2 _ HL.out.2.1 HG3.out HG4.out).mono ?_
  rintro en w15 ⟨rfl, hb15⟩
  have HG5 := Kp.mk (HG5.out.on hb15)
  have HG6 := Kp.mk (HG6.out.on hb15)
  clear HG3 HG4
  have HB15 : Kp (Below w.heap.size w w15) := ⟨Below.trans (by repeat (first | refine Below.alloc ?_ (by have := HB14.out.size; (try simp) <;> omega) _ | refine bDrewN ?_ _ | refine Below.drew ?_ | refine Below.setCell ?_ (by have := HB14.out.size; (try simp) <;> omega) _ | exact HB14.out)) (hb15.mono (by have := HB14.out.size; (try simp) <;> omega))⟩
  have hz15_0 : w11.heap.size < w15.heap.size := by have := hb15.size; (try simp at this); omega
  have hz15_1 : w12.heap.size < w15.heap.size := by have := hb15.size; (try simp at this); omega
  obtain ⟨hc, hf⟩ := bcell hb15
  have c15_0_0 : w15.cell? ⟨w11.heap.size, 0, none⟩ = some (.int .i64 a3) := (hc _ _ (by (try simp) <;> omega)).trans (by go_simp)
  have c15_0_1 : w15.cell? ⟨w11.heap.size, 1, none⟩ = some (.int .i64 b3) := (hc _ _ (by (try simp) <;> omega)).trans (by go_simp)
  have c15_0_2 : w15.cell? ⟨w11.heap.size, 2, none⟩ = some ((.slice g5 N3 d5)) := (hc _ _ (by (try simp) <;> omega)).trans (by go_simp)
  have z15_0 : ∀ j, w15.frozen? ⟨w11.heap.size, j, none⟩ = false := fun j => (hf _ _ (by (try simp) <;> omega)).trans (by go_simp)
  have c15_1_0 : w15.cell? ⟨w12.heap.size, 0, none⟩ = some (.int .i64 a3) := (hc _ _ (by (try simp) <;> omega)).trans (by go_simp)
  have c15_1_1 : w15.cell? ⟨w12.heap.size, 1, none⟩ = some (.int .i64 b3) := (hc _ _ (by (try simp) <;> omega)).trans (by go_simp)
  have c15_1_2 : w15.cell? ⟨w12.heap.size, 2, none⟩ = some ((.slice g6 N3 d6)) := (hc _ _ (by (try simp) <;> omega)).trans (by go_simp)
  have z15_1 : ∀ j, w15.frozen? ⟨w12.heap.size, j, none⟩ = false := fun j => (hf _ _ (by (try simp) <;> omega)).trans (by go_simp)
  clear hc hf hb15
  go_wp2_with fail
  refine (HSG.out _ _ a3 b3 L3 _ HL.out.2.2 HG5.out HG6.out).mono ?_
  rintro en w16 ⟨rfl, hb16⟩
  have HB16 : Kp (Below w.heap.size w w16) := ⟨HB15.out.trans (hb16.mono HB15.out.size)⟩
  clear hb16 HG5 HG6
  go_wp2_with fail
  refine (HAW.out _).mono ?_
  rintro en w17 ⟨rfl, hb17⟩
  have HB17 : Kp (Below w.heap.size w w17) := ⟨by have := HB16.out.size; refine HB16.out.trans (Below.trans ?_ (hb17.mono (by (try simp) <;> omega))); repeat (first | exact Below.refl _ _ | refine Below.alloc ?_ (by (try simp) <;> omega) _ | refine Below.setCell ?_ (by (try simp) <;> omega) _)⟩
  clear hb17
  go_wp2
  go_ret
  exact ⟨rfl, HB17.out⟩
theorem law_cells (wd dp : Int) (v : Value) (L : List Int) (e : Ey) (x y n : Int) (w : World) (hv : IS w v L) (hl : L.length ≤ 9223372036854775807) :
    Calls Try.prog 3 #[.agg #[.int .i64 wd, .int .i64 dp, v], .agg #[.int .i64 e.x, .int .i64 e.b, .int .i64 e.h], .int .i64 x, .int .i64 y, .int .i64 n] w fun en w' => en = .returned (.bool true) ∧ Below w.heap.size w w' := by
  have hgl : ∀ (E : Int) (K : List Int), (E = 0 → K.length ≤ 1000) → (gL E K).length ≤ 100000 := fun E K h => by
    unfold gL
    split
    · rename_i h0
      have := h h0
      omega
    · simp
  have HC1 := Kp.mk fun W (hW : Below w.heap.size w W) => Cell_any wd dp v L x y W (hv.below hW) hl
  have HC2 := Kp.mk fun W (hW : Below w.heap.size w W) => rCell_any wd dp v L x y W (hv.below hW) hl
  have HW1 := Kp.mk fun W (hW : Below w.heap.size w W) => With_gv wd dp x y n v L W (hv.below hW) hl
  have HW2 := Kp.mk fun W (hW : Below w.heap.size w W) => rWith_any wd dp x y n v L W (hv.below hW) hl
  have HV1 := Kp.mk fun W (hW : Below w.heap.size w W) => Valid_any wd dp v L W (hv.below hW) hl
  have HV2 := Kp.mk fun W (hW : Below w.heap.size w W) => rValid_any wd dp v L W (hv.below hW) hl
  have HE1 := Kp.mk fun W (hW : Below w.heap.size w W) => ValidEye_any wd dp v L e W (hv.below hW) hl
  have HE2 := Kp.mk fun W (hW : Below w.heap.size w W) => rValidEye_any wd dp v L e W (hv.below hW) hl
  have HR1 := Kp.mk fun W (hW : Below w.heap.size w W) => Raised_gn wd dp n v L W (hv.below hW) hl
  have HR2 := Kp.mk fun W (hW : Below w.heap.size w W) => rRaised_any wd dp n v L W (hv.below hW) hl
  have HM1 := Kp.mk fun W (hW : Below w.heap.size w W) => Mirrored_gv wd dp v L W (hv.below hW) hl
  have HM2 := Kp.mk fun W (hW : Below w.heap.size w W) => rMirrored_any wd dp v L W (hv.below hW) hl
  have HH1 := Kp.mk fun W (hW : Below w.heap.size w W) => Highest_any wd dp v L W (hv.below hW) hl
  have HH2 := Kp.mk fun W (hW : Below w.heap.size w W) => rHighest_any wd dp v L W (hv.below hW) hl
  obtain ⟨g, c, rfl⟩ := hv.shape
  refine law_cells_st wd dp e.x e.b e.h x y n g L.length c _ _ _ _ _ _ _ _ _ _ _ _ _ _ _ _ _ _ w HC1 HC2 HW1 HW2 HV1 HV2 HE1 HE2 HR1 HR2 HM1 HM2 HH1 HH2 ⟨hgl _ _ (fun h => ?_), hgl _ _ (fun h => ?_), hgl _ _ (fun h => ?_)⟩
  · unfold wL
    rw [List.length_set]
    have := (gd_len (wE_zero h).1).2
    omega
  · rw [List.length_map]
    have hg : gdB wd dp L = true := by
      unfold rsE at h
      split at h
      · assumption
      · omega
    have := (gd_len hg).2
    omega
  · rw [mirL_len]
    have := (gd_len (miE_zero h)).2
    omega
end Go.Proofs.Ytjnggchljilooaa.Sc
