/-
  WALKS (layer 7, scene): the law SceneMirrored.
-/
import Derived.Test.YtjnggchljilooaaScMirA
import Derived.Test.YtjnggchljilooaaScEye
import Derived.Test.YtjnggchljilooaaScLawSeen
namespace Go.Proofs.Ytjnggchljilooaa.Sc
open Go Go.RowKit Go.Sort

set_option maxRecDepth 100000 in
set_option maxHeartbeats 4000000 in
theorem law_mirrored_st (wd dp ex eb eh x y h A X2 XX : Int) (g : Option Addr) (M c : Nat) (E0 : Int) (L2 : List Int) (V1 s1 s2 : Bool) (i1 i2 CX CY LE CX2 CY2 LE2 : Int) (w : World)
    (HR : Kp (∀ W, Below w.heap.size w W → Calls Try.prog 23 #[.agg #[.int .i64 wd, .int .i64 dp, .slice g M c]] W fun e w' => (∃ a b g2 M2 c2, e = .returned (.tuple #[.agg #[.int .i64 a, .int .i64 b, .slice g2 M2 c2], .int .i64 E0]) ∧ (E0 = 0 → a = wd ∧ b = dp ∧ IS w' (.slice g2 M2 c2) L2)) ∧ Below W.heap.size W w'))
    (HV1 : Kp (∀ W, Below w.heap.size w W → Calls Try.prog 18 #[.agg #[.int .i64 wd, .int .i64 dp, .slice g M c], .agg #[.int .i64 ex, .int .i64 eb, .int .i64 eh]] W fun e w' => e = .returned (.bool V1) ∧ Below W.heap.size W w'))
    (HS1 : Kp (∀ W, Below w.heap.size w W → Calls Try.prog 29 #[.agg #[.int .i64 wd, .int .i64 dp, .slice g M c], .agg #[.int .i64 ex, .int .i64 eb, .int .i64 eh], .int .i64 x, .int .i64 y, .int .i64 h] W fun e w' => e = .returned (.tuple #[.bool s1, .int .i64 i1]) ∧ Below W.heap.size W w'))
    (HS2 : Kp (∀ W u, IS W u L2 → Calls Try.prog 29 #[.agg #[.int .i64 wd, .int .i64 dp, u], .agg #[.int .i64 X2, .int .i64 eb, .int .i64 eh], .int .i64 XX, .int .i64 y, .int .i64 h] W fun e w' => e = .returned (.tuple #[.bool s2, .int .i64 i2]) ∧ Below W.heap.size W w'))
    (HH1 : Kp (∀ W, Below w.heap.size w W → Calls Try.prog 31 #[.agg #[.int .i64 wd, .int .i64 dp, .slice g M c], .agg #[.int .i64 ex, .int .i64 eb, .int .i64 eh], .int .i64 x, .int .i64 y, .int .i64 h] W fun e w' => e = .returned (.tuple #[.int .i64 CX, .int .i64 CY, .int .i64 LE]) ∧ Below W.heap.size W w'))
    (HH2 : Kp (∀ W u, IS W u L2 → Calls Try.prog 31 #[.agg #[.int .i64 wd, .int .i64 dp, u], .agg #[.int .i64 X2, .int .i64 eb, .int .i64 eh], .int .i64 XX, .int .i64 y, .int .i64 h] W fun e w' => e = .returned (.tuple #[.int .i64 CX2, .int .i64 CY2, .int .i64 LE2]) ∧ Below W.heap.size W w'))
    (HW : Kp (IntKind.i64.wrap (wd - 1) = A ∧ IntKind.i64.wrap (A - ex) = X2 ∧ IntKind.i64.wrap (A - x) = XX))
    (HF : Kp (E0 = 0 → V1 = true → 0 ≤ x → x < wd → s2 = s1 ∧ i2 = i1 ∧ LE2 = LE ∧ (LE ≠ 0 ∨ (LE = 0 ∧ 0 ≤ CX ∧ CX < wd)))) :
    Calls Try.prog 10 #[.agg #[.int .i64 wd, .int .i64 dp, .slice g M c], .agg #[.int .i64 ex, .int .i64 eb, .int .i64 eh], .int .i64 x, .int .i64 y, .int .i64 h] w fun e w' => e = .returned (.bool true) ∧ Below w.heap.size w w' := by
  have HAW := Kp.mk (fun W => awake_any W)
  go_enter Try.func10, Try.ntmps10
  by_cases hM : (600 : Int) < (M : Int)
  · clear HF HR HV1 HS1 HS2 HH1 HH2 HW
    go_wp2_with fail
    refine (HAW.out _).mono ?_
    rintro en w9 ⟨rfl, hb9⟩
    have HB9 : Kp (Below w.heap.size w w9) := ⟨Below.trans (by repeat (first | exact Below.refl _ _ | refine Below.alloc ?_ (by simp <;> omega) _ | refine bDrewN ?_ _ | refine Below.drew ?_)) (hb9.mono (by simp <;> omega))⟩
    clear hb9
    go_wp2
    go_ret
    exact ⟨rfl, HB9.out⟩
  go_wp2_with fail
  clear hM
  refine (HR.out _ (by repeat (first | exact Below.refl _ _ | refine Below.alloc ?_ (by simp <;> omega) _ | refine bDrewN ?_ _ | refine Below.drew ?_))).mono ?_
  rintro en w1 ⟨⟨a, b, g2, M2, c2, rfl, hq⟩, hb1⟩
  have HQ := Kp.mk hq
  clear hq HR
  have HB1 : Kp (Below w.heap.size w w1) := ⟨Below.trans (by repeat (first | refine Below.alloc ?_ (by (try simp) <;> omega) _ | refine bDrewN ?_ _ | refine Below.drew ?_ | refine Below.setCell ?_ (by (try simp) <;> omega) _ | exact Below.refl _ _)) (hb1.mono (by (try simp) <;> omega))⟩
  have hz1_0 : w.heap.size < w1.heap.size := by have := hb1.size; (try simp at this); omega
  have hz1_1 : w.heap.size + 1 < w1.heap.size := by have := hb1.size; (try simp at this); omega
  obtain ⟨hc, hf⟩ := bcell hb1
  have c1_0_0 : w1.cell? ⟨w.heap.size, 0, none⟩ = some (.int .i64 wd) := (hc _ _ (by (try simp) <;> omega)).trans (by go_simp)
  have c1_0_1 : w1.cell? ⟨w.heap.size, 1, none⟩ = some (.int .i64 dp) := (hc _ _ (by (try simp) <;> omega)).trans (by go_simp)
  have c1_0_2 : w1.cell? ⟨w.heap.size, 2, none⟩ = some ((.slice g M c)) := (hc _ _ (by (try simp) <;> omega)).trans (by go_simp)
  have z1_0 : ∀ j, w1.frozen? ⟨w.heap.size, j, none⟩ = false := fun j => (hf _ _ (by (try simp) <;> omega)).trans (by go_simp)
  have c1_1_0 : w1.cell? ⟨w.heap.size + 1, 0, none⟩ = some (.int .i64 ex) := (hc _ _ (by (try simp) <;> omega)).trans (by go_simp)
  have c1_1_1 : w1.cell? ⟨w.heap.size + 1, 1, none⟩ = some (.int .i64 eb) := (hc _ _ (by (try simp) <;> omega)).trans (by go_simp)
  have c1_1_2 : w1.cell? ⟨w.heap.size + 1, 2, none⟩ = some (.int .i64 eh) := (hc _ _ (by (try simp) <;> omega)).trans (by go_simp)
  have z1_1 : ∀ j, w1.frozen? ⟨w.heap.size + 1, j, none⟩ = false := fun j => (hf _ _ (by (try simp) <;> omega)).trans (by go_simp)
  clear hc hf hb1
  by_cases hE : E0 = 0
  case neg =>
    have j0 : (E0 != (0 : Int)) = true := by simp [hE]
    clear hE HQ HS1 HS2 HH1 HH2 HF HV1 HW
    go_wp2_with fail
    refine (HAW.out _).mono ?_
    rintro en w9 ⟨rfl, hb9⟩
    have HB9 : Kp (Below w.heap.size w w9) := ⟨by have := HB1.out.size; refine HB1.out.trans (Below.trans ?_ (hb9.mono (by (try simp) <;> omega))); repeat (first | exact Below.refl _ _ | refine Below.alloc ?_ (by (try simp) <;> omega) _ | refine Below.setCell ?_ (by (try simp) <;> omega) _)⟩
    clear hb9
    go_wp2
    go_ret
    exact ⟨rfl, HB9.out⟩
  case pos =>
  subst hE
  obtain ⟨ha, hb, hi⟩ := HQ.out rfl
  have ha := ha.symm
  have hb := hb.symm
  subst ha hb
  have HI := Kp.mk hi
  clear HQ hi
  go_wp2_with fail
  refine (HV1.out _ (by have := HB1.out.size; refine HB1.out.trans ?_; repeat (first | exact Below.refl _ _ | refine Below.alloc ?_ (by (try simp) <;> omega) _ | refine Below.setCell ?_ (by (try simp) <;> omega) _))).mono ?_
  rintro en w2 ⟨rfl, hb2⟩
  have HI := Kp.mk ((HI.out.below ((Below.refl _ _).alloc (Nat.le_refl _) _)).below hb2)
  have HB2 : Kp (Below w.heap.size w w2) := ⟨Below.trans (by repeat (first | refine Below.alloc ?_ (by have := HB1.out.size; (try simp) <;> omega) _ | refine bDrewN ?_ _ | refine Below.drew ?_ | refine Below.setCell ?_ (by have := HB1.out.size; (try simp) <;> omega) _ | exact HB1.out)) (hb2.mono (by have := HB1.out.size; (try simp) <;> omega))⟩
  have hz2_0 : w.heap.size < w2.heap.size := by have := hb2.size; (try simp at this); omega
  have hz2_1 : w.heap.size + 1 < w2.heap.size := by have := hb2.size; (try simp at this); omega
  have hz2_2 : w1.heap.size < w2.heap.size := by have := hb2.size; (try simp at this); omega
  obtain ⟨hc, hf⟩ := bcell hb2
  have c2_0_0 : w2.cell? ⟨w.heap.size, 0, none⟩ = some (.int .i64 wd) := (hc _ _ (by (try simp) <;> omega)).trans (by go_simp)
  have c2_0_1 : w2.cell? ⟨w.heap.size, 1, none⟩ = some (.int .i64 dp) := (hc _ _ (by (try simp) <;> omega)).trans (by go_simp)
  have c2_0_2 : w2.cell? ⟨w.heap.size, 2, none⟩ = some ((.slice g M c)) := (hc _ _ (by (try simp) <;> omega)).trans (by go_simp)
  have z2_0 : ∀ j, w2.frozen? ⟨w.heap.size, j, none⟩ = false := fun j => (hf _ _ (by (try simp) <;> omega)).trans (by go_simp)
  have c2_1_0 : w2.cell? ⟨w.heap.size + 1, 0, none⟩ = some (.int .i64 ex) := (hc _ _ (by (try simp) <;> omega)).trans (by go_simp)
  have c2_1_1 : w2.cell? ⟨w.heap.size + 1, 1, none⟩ = some (.int .i64 eb) := (hc _ _ (by (try simp) <;> omega)).trans (by go_simp)
  have c2_1_2 : w2.cell? ⟨w.heap.size + 1, 2, none⟩ = some (.int .i64 eh) := (hc _ _ (by (try simp) <;> omega)).trans (by go_simp)
  have z2_1 : ∀ j, w2.frozen? ⟨w.heap.size + 1, j, none⟩ = false := fun j => (hf _ _ (by (try simp) <;> omega)).trans (by go_simp)
  have c2_2_0 : w2.cell? ⟨w1.heap.size, 0, none⟩ = some (.int .i64 wd) := (hc _ _ (by (try simp) <;> omega)).trans (by go_simp)
  have c2_2_1 : w2.cell? ⟨w1.heap.size, 1, none⟩ = some (.int .i64 dp) := (hc _ _ (by (try simp) <;> omega)).trans (by go_simp)
  have c2_2_2 : w2.cell? ⟨w1.heap.size, 2, none⟩ = some ((.slice g2 M2 c2)) := (hc _ _ (by (try simp) <;> omega)).trans (by go_simp)
  have z2_2 : ∀ j, w2.frozen? ⟨w1.heap.size, j, none⟩ = false := fun j => (hf _ _ (by (try simp) <;> omega)).trans (by go_simp)
  clear hc hf hb2
  clear HV1
  cases V1 with
  | false =>
    clear HS1 HS2 HF HH1 HH2 HW HI
    go_wp2_with fail
    refine (HAW.out _).mono ?_
    rintro en w9 ⟨rfl, hb9⟩
    have HB9 : Kp (Below w.heap.size w w9) := ⟨by have := HB2.out.size; refine HB2.out.trans (Below.trans ?_ (hb9.mono (by (try simp) <;> omega))); repeat (first | exact Below.refl _ _ | refine Below.alloc ?_ (by (try simp) <;> omega) _ | refine Below.setCell ?_ (by (try simp) <;> omega) _)⟩
    clear hb9
    go_wp2
    go_ret
    exact ⟨rfl, HB9.out⟩
  | true =>
  by_cases hx0 : x < 0
  · clear HS1 HS2 HF HH1 HH2 HW HI
    go_wp2_with fail
    refine (HAW.out _).mono ?_
    rintro en w9 ⟨rfl, hb9⟩
    have HB9 : Kp (Below w.heap.size w w9) := ⟨by have := HB2.out.size; refine HB2.out.trans (Below.trans ?_ (hb9.mono (by (try simp) <;> omega))); repeat (first | exact Below.refl _ _ | refine Below.alloc ?_ (by (try simp) <;> omega) _ | refine Below.setCell ?_ (by (try simp) <;> omega) _)⟩
    clear hb9
    go_wp2
    go_ret
    exact ⟨rfl, HB9.out⟩
  by_cases hx1 : wd ≤ x
  · clear HS1 HS2 HF HH1 HH2 HW HI
    go_wp2_with fail
    refine (HAW.out _).mono ?_
    rintro en w9 ⟨rfl, hb9⟩
    have HB9 : Kp (Below w.heap.size w w9) := ⟨by have := HB2.out.size; refine HB2.out.trans (Below.trans ?_ (hb9.mono (by (try simp) <;> omega))); repeat (first | exact Below.refl _ _ | refine Below.alloc ?_ (by (try simp) <;> omega) _ | refine Below.setCell ?_ (by (try simp) <;> omega) _)⟩
    clear hb9
    go_wp2
    go_ret
    exact ⟨rfl, HB9.out⟩
  obtain ⟨f1, f2, f3, f4⟩ := HF.out (by simp) (by simp) (by omega) (by omega)
  have HFF := Kp.mk (And.intro f1 (And.intro f2 (And.intro f3 f4)))
  obtain ⟨k0, k1, k2⟩ := HW.out
  clear f1 f2 f3 f4 HF HW
  go_wp2_with fail
  clear hx0 hx1
  refine (HS1.out _ (by have := HB2.out.size; refine HB2.out.trans ?_; repeat (first | exact Below.refl _ _ | refine Below.alloc ?_ (by (try simp) <;> omega) _ | refine Below.setCell ?_ (by (try simp) <;> omega) _))).mono ?_
  rintro en w3 ⟨rfl, hb3⟩
  have HI := Kp.mk ((HI.out.below ((Below.refl _ _).alloc (Nat.le_refl _) _)).below hb3)
  clear HS1
  have HB3 : Kp (Below w.heap.size w w3) := ⟨Below.trans (by repeat (first | refine Below.alloc ?_ (by have := HB2.out.size; (try simp) <;> omega) _ | refine bDrewN ?_ _ | refine Below.drew ?_ | refine Below.setCell ?_ (by have := HB2.out.size; (try simp) <;> omega) _ | exact HB2.out)) (hb3.mono (by have := HB2.out.size; (try simp) <;> omega))⟩
  have hz3_0 : w.heap.size < w3.heap.size := by have := hb3.size; (try simp at this); omega
  have hz3_1 : w.heap.size + 1 < w3.heap.size := by have := hb3.size; (try simp at this); omega
  have hz3_2 : w1.heap.size < w3.heap.size := by have := hb3.size; (try simp at this); omega
  have hz3_3 : w2.heap.size < w3.heap.size := by have := hb3.size; (try simp at this); omega
  obtain ⟨hc, hf⟩ := bcell hb3
  have c3_0_0 : w3.cell? ⟨w.heap.size, 0, none⟩ = some (.int .i64 wd) := (hc _ _ (by (try simp) <;> omega)).trans (by go_simp)
  have c3_0_1 : w3.cell? ⟨w.heap.size, 1, none⟩ = some (.int .i64 dp) := (hc _ _ (by (try simp) <;> omega)).trans (by go_simp)
  have c3_0_2 : w3.cell? ⟨w.heap.size, 2, none⟩ = some ((.slice g M c)) := (hc _ _ (by (try simp) <;> omega)).trans (by go_simp)
  have z3_0 : ∀ j, w3.frozen? ⟨w.heap.size, j, none⟩ = false := fun j => (hf _ _ (by (try simp) <;> omega)).trans (by go_simp)
  have c3_1_0 : w3.cell? ⟨w.heap.size + 1, 0, none⟩ = some (.int .i64 ex) := (hc _ _ (by (try simp) <;> omega)).trans (by go_simp)
  have c3_1_1 : w3.cell? ⟨w.heap.size + 1, 1, none⟩ = some (.int .i64 eb) := (hc _ _ (by (try simp) <;> omega)).trans (by go_simp)
  have c3_1_2 : w3.cell? ⟨w.heap.size + 1, 2, none⟩ = some (.int .i64 eh) := (hc _ _ (by (try simp) <;> omega)).trans (by go_simp)
  have z3_1 : ∀ j, w3.frozen? ⟨w.heap.size + 1, j, none⟩ = false := fun j => (hf _ _ (by (try simp) <;> omega)).trans (by go_simp)
  have c3_2_0 : w3.cell? ⟨w1.heap.size, 0, none⟩ = some (.int .i64 wd) := (hc _ _ (by (try simp) <;> omega)).trans (by go_simp)
  have c3_2_1 : w3.cell? ⟨w1.heap.size, 1, none⟩ = some (.int .i64 dp) := (hc _ _ (by (try simp) <;> omega)).trans (by go_simp)
  have c3_2_2 : w3.cell? ⟨w1.heap.size, 2, none⟩ = some ((.slice g2 M2 c2)) := (hc _ _ (by (try simp) <;> omega)).trans (by go_simp)
  have z3_2 : ∀ j, w3.frozen? ⟨w1.heap.size, j, none⟩ = false := fun j => (hf _ _ (by (try simp) <;> omega)).trans (by go_simp)
  have c3_3_0 : w3.cell? ⟨w2.heap.size, 0, none⟩ = some (.int .i64 X2) := (hc _ _ (by (try simp) <;> omega)).trans (by go_simp)
  have c3_3_1 : w3.cell? ⟨w2.heap.size, 1, none⟩ = some (.int .i64 eb) := (hc _ _ (by (try simp) <;> omega)).trans (by go_simp)
  have c3_3_2 : w3.cell? ⟨w2.heap.size, 2, none⟩ = some (.int .i64 eh) := (hc _ _ (by (try simp) <;> omega)).trans (by go_simp)
  have z3_3 : ∀ j, w3.frozen? ⟨w2.heap.size, j, none⟩ = false := fun j => (hf _ _ (by (try simp) <;> omega)).trans (by go_simp)
  clear hc hf hb3
  go_wp2_with fail
  refine (HS2.out _ _ HI.out).mono ?_
  rintro en w4 ⟨rfl, hb4⟩
  have HI := Kp.mk (HI.out.below hb4)
  clear HS2
  have HB4 : Kp (Below w.heap.size w w4) := ⟨Below.trans (by repeat (first | refine Below.alloc ?_ (by have := HB3.out.size; (try simp) <;> omega) _ | refine bDrewN ?_ _ | refine Below.drew ?_ | refine Below.setCell ?_ (by have := HB3.out.size; (try simp) <;> omega) _ | exact HB3.out)) (hb4.mono (by have := HB3.out.size; (try simp) <;> omega))⟩
  have hz4_0 : w.heap.size < w4.heap.size := by have := hb4.size; (try simp at this); omega
  have hz4_1 : w.heap.size + 1 < w4.heap.size := by have := hb4.size; (try simp at this); omega
  have hz4_2 : w1.heap.size < w4.heap.size := by have := hb4.size; (try simp at this); omega
  have hz4_3 : w2.heap.size < w4.heap.size := by have := hb4.size; (try simp at this); omega
  obtain ⟨hc, hf⟩ := bcell hb4
  have c4_0_0 : w4.cell? ⟨w.heap.size, 0, none⟩ = some (.int .i64 wd) := (hc _ _ (by (try simp) <;> omega)).trans (by go_simp)
  have c4_0_1 : w4.cell? ⟨w.heap.size, 1, none⟩ = some (.int .i64 dp) := (hc _ _ (by (try simp) <;> omega)).trans (by go_simp)
  have c4_0_2 : w4.cell? ⟨w.heap.size, 2, none⟩ = some ((.slice g M c)) := (hc _ _ (by (try simp) <;> omega)).trans (by go_simp)
  have z4_0 : ∀ j, w4.frozen? ⟨w.heap.size, j, none⟩ = false := fun j => (hf _ _ (by (try simp) <;> omega)).trans (by go_simp)
  have c4_1_0 : w4.cell? ⟨w.heap.size + 1, 0, none⟩ = some (.int .i64 ex) := (hc _ _ (by (try simp) <;> omega)).trans (by go_simp)
  have c4_1_1 : w4.cell? ⟨w.heap.size + 1, 1, none⟩ = some (.int .i64 eb) := (hc _ _ (by (try simp) <;> omega)).trans (by go_simp)
  have c4_1_2 : w4.cell? ⟨w.heap.size + 1, 2, none⟩ = some (.int .i64 eh) := (hc _ _ (by (try simp) <;> omega)).trans (by go_simp)
  have z4_1 : ∀ j, w4.frozen? ⟨w.heap.size + 1, j, none⟩ = false := fun j => (hf _ _ (by (try simp) <;> omega)).trans (by go_simp)
  have c4_2_0 : w4.cell? ⟨w1.heap.size, 0, none⟩ = some (.int .i64 wd) := (hc _ _ (by (try simp) <;> omega)).trans (by go_simp)
  have c4_2_1 : w4.cell? ⟨w1.heap.size, 1, none⟩ = some (.int .i64 dp) := (hc _ _ (by (try simp) <;> omega)).trans (by go_simp)
  have c4_2_2 : w4.cell? ⟨w1.heap.size, 2, none⟩ = some ((.slice g2 M2 c2)) := (hc _ _ (by (try simp) <;> omega)).trans (by go_simp)
  have z4_2 : ∀ j, w4.frozen? ⟨w1.heap.size, j, none⟩ = false := fun j => (hf _ _ (by (try simp) <;> omega)).trans (by go_simp)
  have c4_3_0 : w4.cell? ⟨w2.heap.size, 0, none⟩ = some (.int .i64 X2) := (hc _ _ (by (try simp) <;> omega)).trans (by go_simp)
  have c4_3_1 : w4.cell? ⟨w2.heap.size, 1, none⟩ = some (.int .i64 eb) := (hc _ _ (by (try simp) <;> omega)).trans (by go_simp)
  have c4_3_2 : w4.cell? ⟨w2.heap.size, 2, none⟩ = some (.int .i64 eh) := (hc _ _ (by (try simp) <;> omega)).trans (by go_simp)
  have z4_3 : ∀ j, w4.frozen? ⟨w2.heap.size, j, none⟩ = false := fun j => (hf _ _ (by (try simp) <;> omega)).trans (by go_simp)
  clear hc hf hb4
  go_wp2_with fail
  refine (HH1.out _ HB4.out).mono ?_
  rintro en w5 ⟨rfl, hb5⟩
  have HI := Kp.mk (HI.out.below hb5)
  clear HH1
  have HB5 : Kp (Below w.heap.size w w5) := ⟨Below.trans (by repeat (first | refine Below.alloc ?_ (by have := HB4.out.size; (try simp) <;> omega) _ | refine bDrewN ?_ _ | refine Below.drew ?_ | refine Below.setCell ?_ (by have := HB4.out.size; (try simp) <;> omega) _ | exact HB4.out)) (hb5.mono (by have := HB4.out.size; (try simp) <;> omega))⟩
  have hz5_0 : w.heap.size < w5.heap.size := by have := hb5.size; (try simp at this); omega
  have hz5_1 : w.heap.size + 1 < w5.heap.size := by have := hb5.size; (try simp at this); omega
  have hz5_2 : w1.heap.size < w5.heap.size := by have := hb5.size; (try simp at this); omega
  have hz5_3 : w2.heap.size < w5.heap.size := by have := hb5.size; (try simp at this); omega
  obtain ⟨hc, hf⟩ := bcell hb5
  have c5_0_0 : w5.cell? ⟨w.heap.size, 0, none⟩ = some (.int .i64 wd) := (hc _ _ (by (try simp) <;> omega)).trans (by go_simp)
  have c5_0_1 : w5.cell? ⟨w.heap.size, 1, none⟩ = some (.int .i64 dp) := (hc _ _ (by (try simp) <;> omega)).trans (by go_simp)
  have c5_0_2 : w5.cell? ⟨w.heap.size, 2, none⟩ = some ((.slice g M c)) := (hc _ _ (by (try simp) <;> omega)).trans (by go_simp)
  have z5_0 : ∀ j, w5.frozen? ⟨w.heap.size, j, none⟩ = false := fun j => (hf _ _ (by (try simp) <;> omega)).trans (by go_simp)
  have c5_1_0 : w5.cell? ⟨w.heap.size + 1, 0, none⟩ = some (.int .i64 ex) := (hc _ _ (by (try simp) <;> omega)).trans (by go_simp)
  have c5_1_1 : w5.cell? ⟨w.heap.size + 1, 1, none⟩ = some (.int .i64 eb) := (hc _ _ (by (try simp) <;> omega)).trans (by go_simp)
  have c5_1_2 : w5.cell? ⟨w.heap.size + 1, 2, none⟩ = some (.int .i64 eh) := (hc _ _ (by (try simp) <;> omega)).trans (by go_simp)
  have z5_1 : ∀ j, w5.frozen? ⟨w.heap.size + 1, j, none⟩ = false := fun j => (hf _ _ (by (try simp) <;> omega)).trans (by go_simp)
  have c5_2_0 : w5.cell? ⟨w1.heap.size, 0, none⟩ = some (.int .i64 wd) := (hc _ _ (by (try simp) <;> omega)).trans (by go_simp)
  have c5_2_1 : w5.cell? ⟨w1.heap.size, 1, none⟩ = some (.int .i64 dp) := (hc _ _ (by (try simp) <;> omega)).trans (by go_simp)
  have c5_2_2 : w5.cell? ⟨w1.heap.size, 2, none⟩ = some ((.slice g2 M2 c2)) := (hc _ _ (by (try simp) <;> omega)).trans (by go_simp)
  have z5_2 : ∀ j, w5.frozen? ⟨w1.heap.size, j, none⟩ = false := fun j => (hf _ _ (by (try simp) <;> omega)).trans (by go_simp)
  have c5_3_0 : w5.cell? ⟨w2.heap.size, 0, none⟩ = some (.int .i64 X2) := (hc _ _ (by (try simp) <;> omega)).trans (by go_simp)
  have c5_3_1 : w5.cell? ⟨w2.heap.size, 1, none⟩ = some (.int .i64 eb) := (hc _ _ (by (try simp) <;> omega)).trans (by go_simp)
  have c5_3_2 : w5.cell? ⟨w2.heap.size, 2, none⟩ = some (.int .i64 eh) := (hc _ _ (by (try simp) <;> omega)).trans (by go_simp)
  have z5_3 : ∀ j, w5.frozen? ⟨w2.heap.size, j, none⟩ = false := fun j => (hf _ _ (by (try simp) <;> omega)).trans (by go_simp)
  clear hc hf hb5
  go_wp2_with fail
  refine (HH2.out _ _ HI.out).mono ?_
  rintro en w6 ⟨rfl, hb6⟩
  clear HH2 HI k0 k1 k2
  have HB6 : Kp (Below w.heap.size w w6) := ⟨Below.trans (by repeat (first | refine Below.alloc ?_ (by have := HB5.out.size; (try simp) <;> omega) _ | refine bDrewN ?_ _ | refine Below.drew ?_ | refine Below.setCell ?_ (by have := HB5.out.size; (try simp) <;> omega) _ | exact HB5.out)) (hb6.mono (by have := HB5.out.size; (try simp) <;> omega))⟩
  have hz6_0 : w.heap.size < w6.heap.size := by have := hb6.size; (try simp at this); omega
  have hz6_1 : w.heap.size + 1 < w6.heap.size := by have := hb6.size; (try simp at this); omega
  obtain ⟨hc, hf⟩ := bcell hb6
  have c6_0_0 : w6.cell? ⟨w.heap.size, 0, none⟩ = some (.int .i64 wd) := (hc _ _ (by (try simp) <;> omega)).trans (by go_simp)
  have c6_0_1 : w6.cell? ⟨w.heap.size, 1, none⟩ = some (.int .i64 dp) := (hc _ _ (by (try simp) <;> omega)).trans (by go_simp)
  have c6_0_2 : w6.cell? ⟨w.heap.size, 2, none⟩ = some ((.slice g M c)) := (hc _ _ (by (try simp) <;> omega)).trans (by go_simp)
  have z6_0 : ∀ j, w6.frozen? ⟨w.heap.size, j, none⟩ = false := fun j => (hf _ _ (by (try simp) <;> omega)).trans (by go_simp)
  have c6_1_0 : w6.cell? ⟨w.heap.size + 1, 0, none⟩ = some (.int .i64 ex) := (hc _ _ (by (try simp) <;> omega)).trans (by go_simp)
  have c6_1_1 : w6.cell? ⟨w.heap.size + 1, 1, none⟩ = some (.int .i64 eb) := (hc _ _ (by (try simp) <;> omega)).trans (by go_simp)
  have c6_1_2 : w6.cell? ⟨w.heap.size + 1, 2, none⟩ = some (.int .i64 eh) := (hc _ _ (by (try simp) <;> omega)).trans (by go_simp)
  have z6_1 : ∀ j, w6.frozen? ⟨w.heap.size + 1, j, none⟩ = false := fun j => (hf _ _ (by (try simp) <;> omega)).trans (by go_simp)
  clear hc hf hb6
  obtain ⟨f1, f2, f3, f4⟩ := HFF.out
  subst f1 f2 f3
  have t1 : (s2 == s2) = true := by simp
  have t2 : (i2 == i2) = true := by simp
  have t3 : (LE2 == LE2) = true := by simp
  clear HFF
  rcases f4 with f4 | ⟨rfl, f5, f6⟩
  · have j0 : (LE2 != (0 : Int)) = true := by simp [f4]
    clear f4
    go_wp2_with fail
    refine (HAW.out _).mono ?_
    rintro en w9 ⟨rfl, hb9⟩
    have HB9 : Kp (Below w.heap.size w w9) := ⟨by have := HB6.out.size; refine HB6.out.trans (Below.trans ?_ (hb9.mono (by (try simp) <;> omega))); repeat (first | exact Below.refl _ _ | refine Below.alloc ?_ (by (try simp) <;> omega) _ | refine Below.setCell ?_ (by (try simp) <;> omega) _)⟩
    clear hb9
    go_wp2
    go_ret
    exact ⟨rfl, HB9.out⟩
  · skip
    go_wp2_with fail
    refine (HAW.out _).mono ?_
    rintro en w9 ⟨rfl, hb9⟩
    have HB9 : Kp (Below w.heap.size w w9) := ⟨by have := HB6.out.size; refine HB6.out.trans (Below.trans ?_ (hb9.mono (by (try simp) <;> omega))); repeat (first | exact Below.refl _ _ | refine Below.alloc ?_ (by (try simp) <;> omega) _ | refine Below.setCell ?_ (by (try simp) <;> omega) _)⟩
    clear hb9
    go_wp2
    go_ret
    exact ⟨rfl, HB9.out⟩
theorem place_bdM {N D i : Nat} (h : i < N * D) : 0 < N ∧ i % N < N ∧ i / N < D := by
  have h0 : 0 < N := by
    rcases Nat.eq_zero_or_pos N with h1 | h1
    · rw [h1, Nat.zero_mul] at h; omega
    · exact h1
  exact ⟨h0, Nat.mod_lt _ h0, Nat.div_lt_of_lt_mul h⟩
theorem law_mirrored (wd dp : Int) (v : Value) (L : List Int) (e : Ey) (x y h : Int) (w : World) (hv : IS w v L) (hl : L.length ≤ 9223372036854775807) :
    Calls Try.prog 10 #[.agg #[.int .i64 wd, .int .i64 dp, v], .agg #[.int .i64 e.x, .int .i64 e.b, .int .i64 e.h], .int .i64 x, .int .i64 y, .int .i64 h] w fun en w' => en = .returned (.bool true) ∧ Below w.heap.size w w' := by
  have hl2 : (mirL wd.toNat dp.toNat L).length ≤ 9223372036854775807 := by rw [mirL_len]; exact hl
  have HR := Kp.mk fun W (hW : Below w.heap.size w W) => Mirrored_any wd dp v L W (hv.below hW) hl
  have HV1 := Kp.mk fun W (hW : Below w.heap.size w W) => ValidEye_any wd dp v L e W (hv.below hW) hl
  have HS1 := Kp.mk fun W (hW : Below w.heap.size w W) => Seen_any wd dp v L e x y h W (hv.below hW) hl
  have HH1 := Kp.mk fun W (hW : Below w.heap.size w W) => Hides_any wd dp v L e x y h W (hv.below hW) hl
  have HS2 := Kp.mk fun W u (hu : IS W u (mirL wd.toNat dp.toNat L)) => Seen_any wd dp u _ ⟨IntKind.i64.wrap (IntKind.i64.wrap (wd - 1) - e.x), e.b, e.h⟩ (IntKind.i64.wrap (IntKind.i64.wrap (wd - 1) - x)) y h W hu hl2
  have HH2 := Kp.mk fun W u (hu : IS W u (mirL wd.toNat dp.toNat L)) => Hides_any wd dp u _ ⟨IntKind.i64.wrap (IntKind.i64.wrap (wd - 1) - e.x), e.b, e.h⟩ (IntKind.i64.wrap (IntKind.i64.wrap (wd - 1) - x)) y h W hu hl2
  simp only [seenV_two, hidesV_eq] at HS1 HS2 HH1 HH2
  obtain ⟨g, c, rfl⟩ := hv.shape
  refine law_mirrored_st wd dp e.x e.b e.h x y h _ _ _ g L.length c _ _ _ _ _ _ _ _ _ _ _ _ _ w HR HV1 HS1 HS2 HH1 HH2 ⟨rfl, rfl, rfl⟩ ⟨?_⟩
  intro h1 h2 h3 h4
  have hg := miE_zero h1
  rw [Bool.and_eq_true] at h2
  have he := h2.2
  obtain ⟨⟨a1, a2⟩, ⟨b1, b2⟩, hlen, hal⟩ := gdB_iff hg
  obtain ⟨c1, c2, c3⟩ := eyB_iff.1 he
  have e1 : IntKind.i64.wrap (wd - 1) = wd - 1 := IntWalk.i64_in _ (by omega)
  have e2 : IntKind.i64.wrap (wd - 1 - e.x) = wd - 1 - e.x := IntWalk.i64_in _ (by omega)
  have e3 : IntKind.i64.wrap (wd - 1 - x) = wd - 1 - x := IntWalk.i64_in _ (by omega)
  rw [e1, e2, e3]
  obtain ⟨N, hN⟩ := Int.eq_ofNat_of_zero_le (show 0 ≤ wd by omega)
  obtain ⟨D, hD⟩ := Int.eq_ofNat_of_zero_le (show 0 ≤ dp by omega)
  subst hN hD
  rw [Int.toNat_natCast, Int.toNat_natCast]
  have hl3 : L.length = N * D := by
    have : (L.length : Int) = ((N * D : Nat) : Int) := by rw [hlen, Int.natCast_mul]
    omega
  have hg2 : gdB N D (mirL N D L) = true := by
    unfold gdB
    rw [mirL_len, hlen, allIn_two.2 ⟨⟨a1, a2⟩, b1, b2⟩]
    have : allIn 0 1000 (mirL N D L) = true := by
      unfold allIn
      rw [List.all_eq_true]
      intro z hz
      obtain ⟨i, hi, rfl⟩ := List.mem_iff_getElem.1 hz
      rw [mirL_len] at hi
      have hm := mirL_at (N := N) (k := D) hi
      rw [List.getElem?_eq_getElem (by rw [mirL_len]; exact hi)] at hm
      simp only [Option.some.injEq] at hm
      rw [hm]
      obtain ⟨p0, p1, p2⟩ := place_bdM (hl3 ▸ hi)
      rw [if_pos p2]
      have hj : i / N * N + (N - 1 - i % N) < L.length := by
        have h5 : (i / N + 1) * N ≤ D * N := Nat.mul_le_mul_right N p2
        rw [Nat.add_mul, Nat.one_mul] at h5
        rw [hl3, Nat.mul_comm N D]
        omega
      have := allIn_at hal (List.getElem?_eq_getElem hj)
      rw [List.getD_eq_getElem?_getD, List.getElem?_eq_getElem hj]
      simpa using this
    rw [this]
    simp
  have he2 : eyB N ⟨(N : Int) - 1 - e.x, e.b, e.h⟩ = true := eyB_iff.2 ⟨⟨by simp only; omega, by simp only; omega⟩, c2, c3⟩
  have hcell : cellB N D ((N : Int) - 1 - x) y = cellB N D x y := by
    unfold cellB
    rw [e1, inB_iff.2 ⟨by omega, by omega⟩, inB_iff.2 ⟨by omega, by omega⟩]
  have hask : askE N D (mirL N D L) ⟨(N : Int) - 1 - e.x, e.b, e.h⟩ ((N : Int) - 1 - x) y h = askE N D L e x y h := by
    unfold askE
    rw [hcell, hg2, he2, hg, he]
  rw [hask]
  by_cases h0 : askE N D L e x y h = 0
  · obtain ⟨-, -, hx, hy, hh⟩ := askE_zero h0
    have hyn : (y.toNat : Int) = y := Int.toNat_of_nonneg hy.1
    have key := hid_mirror (N := N) (D := D) (L := L) (e := e) (f := ⟨(N : Int) - 1 - e.x, e.b, e.h⟩) (x := x) (z := (N : Int) - 1 - x) (y := y.toNat) (h := h) hl3 (fun r hr => ⟨⟨c1.1, by omega⟩, c2, c3, ⟨hx.1, by omega⟩, by omega, by omega, by omega⟩) c1.2 hx.2 c1.1 hx.1 (by omega) (by omega) rfl rfl rfl rfl
    rw [h0, key]
    refine ⟨rfl, rfl, ?_, ?_⟩
    · unfold hvE
      rw [key]
    · cases ho : hid N L e x y.toNat h with
      | none => left; unfold hvE; simp
      | some p =>
        obtain ⟨pc, pr⟩ := p
        right
        obtain ⟨⟨r1, r2⟩, hc⟩ := hid_mem ho
        have hbd : Bd e x y.toNat pr := ⟨⟨c1.1, by omega⟩, c2, c3, ⟨hx.1, by omega⟩, by omega, by omega, by omega⟩
        obtain ⟨⟨m1, m2⟩, -⟩ := (mem_colL (n := N) hbd (lst_lt hbd c1.2 hx.2)).1 hc
        refine ⟨rfl, ?_, ?_⟩
        · show 0 ≤ pc
          exact m1
        · show pc < (N : Int)
          omega
  · refine ⟨by simp [h0], rfl, by unfold hvE; rw [if_neg h0, if_neg h0], .inl (by unfold hvE; rw [if_neg h0]; exact h0)⟩
end Go.Proofs.Ytjnggchljilooaa.Sc
