/-
  WALKS (layer 7, scene): the law SceneRaised.
-/
import Derived.Test.YtjnggchljilooaaScRaisA
import Derived.Test.YtjnggchljilooaaScAwake
import Derived.Test.YtjnggchljilooaaScEye
import Derived.Test.YtjnggchljilooaaScPlus
namespace Go.Proofs.Ytjnggchljilooaa.Sc
open Go Go.RowKit Go.Sort

set_option maxRecDepth 100000 in
set_option maxHeartbeats 4000000 in
theorem law_raised_st (wd dp ex eb eh x y h n H K : Int) (g : Option Addr) (M c : Nat) (E0 : Int) (L2 : List Int) (V1 V2 s1 s2 : Bool) (i1 i2 : Int) (w : World)
    (HR : Kp (∀ W, Below w.heap.size w W → Calls Try.prog 21 #[.agg #[.int .i64 wd, .int .i64 dp, .slice g M c], .int .i64 n] W fun e w' => (∃ a b g2 M2 c2, e = .returned (.tuple #[.agg #[.int .i64 a, .int .i64 b, .slice g2 M2 c2], .int .i64 E0]) ∧ (E0 = 0 → a = wd ∧ b = dp ∧ IS w' (.slice g2 M2 c2) L2)) ∧ Below W.heap.size W w'))
    (HV1 : Kp (∀ W, Below w.heap.size w W → Calls Try.prog 18 #[.agg #[.int .i64 wd, .int .i64 dp, .slice g M c], .agg #[.int .i64 ex, .int .i64 eb, .int .i64 eh]] W fun e w' => e = .returned (.bool V1) ∧ Below W.heap.size W w'))
    (HV2 : Kp (∀ W u, IS W u L2 → Calls Try.prog 18 #[.agg #[.int .i64 wd, .int .i64 dp, u], .agg #[.int .i64 ex, .int .i64 eb, .int .i64 H]] W fun e w' => e = .returned (.bool V2) ∧ Below W.heap.size W w'))
    (HS1 : Kp (∀ W, Below w.heap.size w W → Calls Try.prog 29 #[.agg #[.int .i64 wd, .int .i64 dp, .slice g M c], .agg #[.int .i64 ex, .int .i64 eb, .int .i64 eh], .int .i64 x, .int .i64 y, .int .i64 h] W fun e w' => e = .returned (.tuple #[.bool s1, .int .i64 i1]) ∧ Below W.heap.size W w'))
    (HS2 : Kp (∀ W u, IS W u L2 → Calls Try.prog 29 #[.agg #[.int .i64 wd, .int .i64 dp, u], .agg #[.int .i64 ex, .int .i64 eb, .int .i64 H], .int .i64 x, .int .i64 y, .int .i64 K] W fun e w' => e = .returned (.tuple #[.bool s2, .int .i64 i2]) ∧ Below W.heap.size W w'))
    (HW : Kp (IntKind.i64.wrap (eh + n) = H ∧ IntKind.i64.wrap (h + n) = K))
    (HF : Kp (-1000 ≤ n → n ≤ 1000 → 0 ≤ h → h ≤ 3000 → E0 = 0 → V1 = true → V2 = true → i1 = 0 → i2 = 0 → s1 = s2)) :
    Calls Try.prog 9 #[.agg #[.int .i64 wd, .int .i64 dp, .slice g M c], .agg #[.int .i64 ex, .int .i64 eb, .int .i64 eh], .int .i64 x, .int .i64 y, .int .i64 h, .int .i64 n] w fun e w' => e = .returned (.bool true) ∧ Below w.heap.size w w' := by
  have HAW := Kp.mk (fun W => awake_any W)
  go_enter Try.func9, Try.ntmps9
  by_cases hM : (600 : Int) < (M : Int)
  · clear HF HR HV1 HV2 HS1 HS2 HW
    go_wp2_with fail
    refine (HAW.out _).mono ?_
    rintro en w9 ⟨rfl, hb9⟩
    have HB9 : Kp (Below w.heap.size w w9) := ⟨Below.trans (by repeat (first | exact Below.refl _ _ | refine Below.alloc ?_ (by simp <;> omega) _ | refine bDrewN ?_ _ | refine Below.drew ?_)) (hb9.mono (by simp <;> omega))⟩
    clear hb9
    go_wp2
    go_ret
    exact ⟨rfl, HB9.out⟩
  by_cases hn1 : n < -1000
  · clear HF HR HV1 HV2 HS1 HS2 HW
    go_wp2_with fail
    refine (HAW.out _).mono ?_
    rintro en w9 ⟨rfl, hb9⟩
    have HB9 : Kp (Below w.heap.size w w9) := ⟨Below.trans (by repeat (first | exact Below.refl _ _ | refine Below.alloc ?_ (by simp <;> omega) _ | refine bDrewN ?_ _ | refine Below.drew ?_)) (hb9.mono (by simp <;> omega))⟩
    clear hb9
    go_wp2
    go_ret
    exact ⟨rfl, HB9.out⟩
  by_cases hn2 : 1000 < n
  · clear HF HR HV1 HV2 HS1 HS2 HW
    go_wp2_with fail
    refine (HAW.out _).mono ?_
    rintro en w9 ⟨rfl, hb9⟩
    have HB9 : Kp (Below w.heap.size w w9) := ⟨Below.trans (by repeat (first | exact Below.refl _ _ | refine Below.alloc ?_ (by simp <;> omega) _ | refine bDrewN ?_ _ | refine Below.drew ?_)) (hb9.mono (by simp <;> omega))⟩
    clear hb9
    go_wp2
    go_ret
    exact ⟨rfl, HB9.out⟩
  by_cases hh1 : h < 0
  · clear HF HR HV1 HV2 HS1 HS2 HW
    go_wp2_with fail
    refine (HAW.out _).mono ?_
    rintro en w9 ⟨rfl, hb9⟩
    have HB9 : Kp (Below w.heap.size w w9) := ⟨Below.trans (by repeat (first | exact Below.refl _ _ | refine Below.alloc ?_ (by simp <;> omega) _ | refine bDrewN ?_ _ | refine Below.drew ?_)) (hb9.mono (by simp <;> omega))⟩
    clear hb9
    go_wp2
    go_ret
    exact ⟨rfl, HB9.out⟩
  by_cases hh2 : 3000 < h
  · clear HF HR HV1 HV2 HS1 HS2 HW
    go_wp2_with fail
    refine (HAW.out _).mono ?_
    rintro en w9 ⟨rfl, hb9⟩
    have HB9 : Kp (Below w.heap.size w w9) := ⟨Below.trans (by repeat (first | exact Below.refl _ _ | refine Below.alloc ?_ (by simp <;> omega) _ | refine bDrewN ?_ _ | refine Below.drew ?_)) (hb9.mono (by simp <;> omega))⟩
    clear hb9
    go_wp2
    go_ret
    exact ⟨rfl, HB9.out⟩
  go_wp2_with fail
  have HF := Kp.mk (HF.out (by omega) (by omega) (by omega) (by omega))
  clear hM hn1 hn2 hh1 hh2
  refine (HR.out _ (by repeat (first | exact Below.refl _ _ | refine Below.alloc ?_ (by simp <;> omega) _ | refine bDrewN ?_ _ | refine Below.drew ?_))).mono ?_
  rintro en w1 ⟨⟨a, b, g2, M2, c2, rfl, hq⟩, hb1⟩
  have HQ := Kp.mk hq
  clear hq HR
  have HB1 : Kp (Below w.heap.size w w1) := ⟨Below.trans (by repeat (first | refine Below.alloc ?_ (by (try simp) <;> omega) _ | refine bDrewN ?_ _ | refine Below.drew ?_ | refine Below.setCell ?_ (by (try simp) <;> omega) _ | exact Below.refl _ _)) (hb1.mono (by (try simp) <;> omega))⟩
  have hz1_0 : w.heap.size < w1.heap.size := by have := hb1.size; (try simp at this); omega
  have hz1_1 : w.heap.size + 1 < w1.heap.size := by have := hb1.size; (try simp at this); omega
  obtain ⟨hc, hf⟩ := bcell hb1
  have c1_0_0 : w1.cell? ⟨w.heap.size, 0, none⟩ = some (.int .i64 wd) := (hc _ _ (by (try simp) <;> omega)).trans (by go_simp)
  have c1_0_1 : w1.cell? ⟨w.heap.size, 1, none⟩ = some (.int .i64 dp) := (hc _ _ (by (try simp) <;> omega)).trans (by go_simp)
  have c1_0_2 : w1.cell? ⟨w.heap.size, 2, none⟩ = some ((.slice g M c)) := (hc _ _ (by (try simp) <;> omega)).trans (by go_simp)
  have z1_0 : ∀ j, w1.frozen? ⟨w.heap.size, j, none⟩ = false := fun j => (hf _ _ (by (try simp) <;> omega)).trans (by go_simp)
  have c1_1_0 : w1.cell? ⟨w.heap.size + 1, 0, none⟩ = some (.int .i64 ex) := (hc _ _ (by (try simp) <;> omega)).trans (by go_simp)
  have c1_1_1 : w1.cell? ⟨w.heap.size + 1, 1, none⟩ = some (.int .i64 eb) := (hc _ _ (by (try simp) <;> omega)).trans (by go_simp)
  have c1_1_2 : w1.cell? ⟨w.heap.size + 1, 2, none⟩ = some (.int .i64 eh) := (hc _ _ (by (try simp) <;> omega)).trans (by go_simp)
  have z1_1 : ∀ j, w1.frozen? ⟨w.heap.size + 1, j, none⟩ = false := fun j => (hf _ _ (by (try simp) <;> omega)).trans (by go_simp)
  clear hc hf hb1
  obtain ⟨k0, k1⟩ := HW.out
  clear HW
  by_cases hE : E0 = 0
  · subst hE
    obtain ⟨ha, hb, hi⟩ := HQ.out rfl
    have ha := ha.symm
    have hb := hb.symm
    subst ha hb
    have HI := Kp.mk hi
    clear HQ hi
    cases V1 with
    | false =>
      clear HS1 HS2 HF HV2
      go_wp2_with fail
      refine (HV1.out _ (by have := HB1.out.size; refine HB1.out.trans ?_; repeat (first | exact Below.refl _ _ | refine Below.alloc ?_ (by (try simp) <;> omega) _ | refine Below.setCell ?_ (by (try simp) <;> omega) _))).mono ?_
      rintro en w2 ⟨rfl, hb2⟩
      have HB2 : Kp (Below w.heap.size w w2) := ⟨Below.trans (by repeat (first | refine Below.alloc ?_ (by have := HB1.out.size; (try simp) <;> omega) _ | refine bDrewN ?_ _ | refine Below.drew ?_ | refine Below.setCell ?_ (by have := HB1.out.size; (try simp) <;> omega) _ | exact HB1.out)) (hb2.mono (by have := HB1.out.size; (try simp) <;> omega))⟩
      have hz2_0 : w.heap.size < w2.heap.size := by have := hb2.size; (try simp at this); omega
      obtain ⟨hc, hf⟩ := bcell hb2
      have c2_0_0 : w2.cell? ⟨w.heap.size, 0, none⟩ = some (.int .i64 wd) := (hc _ _ (by (try simp) <;> omega)).trans (by go_simp)
      have c2_0_1 : w2.cell? ⟨w.heap.size, 1, none⟩ = some (.int .i64 dp) := (hc _ _ (by (try simp) <;> omega)).trans (by go_simp)
      have c2_0_2 : w2.cell? ⟨w.heap.size, 2, none⟩ = some ((.slice g M c)) := (hc _ _ (by (try simp) <;> omega)).trans (by go_simp)
      have z2_0 : ∀ j, w2.frozen? ⟨w.heap.size, j, none⟩ = false := fun j => (hf _ _ (by (try simp) <;> omega)).trans (by go_simp)
      clear hc hf hb2
      go_wp2_with fail
      refine (HAW.out _).mono ?_
      rintro en w9 ⟨rfl, hb9⟩
      have HB9 : Kp (Below w.heap.size w w9) := ⟨by have := HB2.out.size; refine HB2.out.trans (Below.trans ?_ (hb9.mono (by (try simp) <;> omega))); repeat (first | exact Below.refl _ _ | refine Below.alloc ?_ (by (try simp) <;> omega) _ | refine Below.setCell ?_ (by (try simp) <;> omega) _)⟩
      clear hb9
      go_wp2
      go_ret
      exact ⟨rfl, HB9.out⟩
    | true =>
      go_wp2_with fail
      refine (HV1.out _ (by have := HB1.out.size; refine HB1.out.trans ?_; repeat (first | exact Below.refl _ _ | refine Below.alloc ?_ (by (try simp) <;> omega) _ | refine Below.setCell ?_ (by (try simp) <;> omega) _))).mono ?_
      rintro en w2 ⟨rfl, hb2⟩
      have HI := Kp.mk ((HI.out.below (((Below.refl _ _).alloc (Nat.le_refl _) _).alloc (by simp) _)).below hb2)
      have HB2 : Kp (Below w.heap.size w w2) := ⟨Below.trans (by repeat (first | refine Below.alloc ?_ (by have := HB1.out.size; (try simp) <;> omega) _ | refine bDrewN ?_ _ | refine Below.drew ?_ | refine Below.setCell ?_ (by have := HB1.out.size; (try simp) <;> omega) _ | exact HB1.out)) (hb2.mono (by have := HB1.out.size; (try simp) <;> omega))⟩
      have hz2_0 : w.heap.size < w2.heap.size := by have := hb2.size; (try simp at this); omega
      have hz2_1 : w.heap.size + 1 < w2.heap.size := by have := hb2.size; (try simp at this); omega
      have hz2_2 : w1.heap.size < w2.heap.size := by have := hb2.size; (try simp at this); omega
      have hz2_3 : w1.heap.size + 1 < w2.heap.size := by have := hb2.size; (try simp at this); omega
      obtain ⟨hc, hf⟩ := bcell hb2
      have c2_0_0 : w2.cell? ⟨w.heap.size, 0, none⟩ = some (.int .i64 wd) := (hc _ _ (by (try simp) <;> omega)).trans (by go_simp)
      have c2_0_1 : w2.cell? ⟨w.heap.size, 1, none⟩ = some (.int .i64 dp) := (hc _ _ (by (try simp) <;> omega)).trans (by go_simp)
      have c2_0_2 : w2.cell? ⟨w.heap.size, 2, none⟩ = some ((.slice g M c)) := (hc _ _ (by (try simp) <;> omega)).trans (by go_simp)
      have z2_0 : ∀ j, w2.frozen? ⟨w.heap.size, j, none⟩ = false := fun j => (hf _ _ (by (try simp) <;> omega)).trans (by go_simp)
      have c2_1_0 : w2.cell? ⟨w.heap.size + 1, 0, none⟩ = some (.int .i64 ex) := (hc _ _ (by (try simp) <;> omega)).trans (by go_simp)
      have c2_1_1 : w2.cell? ⟨w.heap.size + 1, 1, none⟩ = some (.int .i64 eb) := (hc _ _ (by (try simp) <;> omega)).trans (by go_simp)
      have c2_1_2 : w2.cell? ⟨w.heap.size + 1, 2, none⟩ = some (.int .i64 eh) := (hc _ _ (by (try simp) <;> omega)).trans (by go_simp)
      have z2_1 : ∀ j, w2.frozen? ⟨w.heap.size + 1, j, none⟩ = false := fun j => (hf _ _ (by (try simp) <;> omega)).trans (by go_simp)
      have c2_2_0 : w2.cell? ⟨w1.heap.size, 0, none⟩ = some (.int .i64 wd) := (hc _ _ (by (try simp) <;> omega)).trans (by go_simp)
      have c2_2_1 : w2.cell? ⟨w1.heap.size, 1, none⟩ = some (.int .i64 dp) := (hc _ _ (by (try simp) <;> omega)).trans (by go_simp)
      have c2_2_2 : w2.cell? ⟨w1.heap.size, 2, none⟩ = some ((.slice g2 M2 c2)) := (hc _ _ (by (try simp) <;> omega)).trans (by go_simp)
      have z2_2 : ∀ j, w2.frozen? ⟨w1.heap.size, j, none⟩ = false := fun j => (hf _ _ (by (try simp) <;> omega)).trans (by go_simp)
      have c2_3_0 : w2.cell? ⟨w1.heap.size + 1, 0, none⟩ = some (.int .i64 ex) := (hc _ _ (by (try simp) <;> omega)).trans (by go_simp)
      have c2_3_1 : w2.cell? ⟨w1.heap.size + 1, 1, none⟩ = some (.int .i64 eb) := (hc _ _ (by (try simp) <;> omega)).trans (by go_simp)
      have c2_3_2 : w2.cell? ⟨w1.heap.size + 1, 2, none⟩ = some (.int .i64 H) := (hc _ _ (by (try simp) <;> omega)).trans (by go_simp)
      have z2_3 : ∀ j, w2.frozen? ⟨w1.heap.size + 1, j, none⟩ = false := fun j => (hf _ _ (by (try simp) <;> omega)).trans (by go_simp)
      clear hc hf hb2
      clear HV1 k0
      cases V2 with
      | false =>
        clear HS1 HS2 HF
        go_wp2_with fail
        refine (HV2.out _ _ HI.out).mono ?_
        rintro en w3 ⟨rfl, hb3⟩
        have HB3 : Kp (Below w.heap.size w w3) := ⟨HB2.out.trans (hb3.mono HB2.out.size)⟩
        clear hb3
        go_wp2_with fail
        refine (HAW.out _).mono ?_
        rintro en w9 ⟨rfl, hb9⟩
        have HB9 : Kp (Below w.heap.size w w9) := ⟨by have := HB3.out.size; refine HB3.out.trans (Below.trans ?_ (hb9.mono (by (try simp) <;> omega))); repeat (first | exact Below.refl _ _ | refine Below.alloc ?_ (by (try simp) <;> omega) _ | refine Below.setCell ?_ (by (try simp) <;> omega) _)⟩
        clear hb9
        go_wp2
        go_ret
        exact ⟨rfl, HB9.out⟩
      | true =>
        go_wp2_with fail
        refine (HV2.out _ _ HI.out).mono ?_
        rintro en w3 ⟨rfl, hb3⟩
        have HI := Kp.mk (HI.out.below hb3)
        have HB3 : Kp (Below w.heap.size w w3) := ⟨Below.trans (by repeat (first | refine Below.alloc ?_ (by have := HB2.out.size; (try simp) <;> omega) _ | refine bDrewN ?_ _ | refine Below.drew ?_ | refine Below.setCell ?_ (by have := HB2.out.size; (try simp) <;> omega) _ | exact HB2.out)) (hb3.mono (by have := HB2.out.size; (try simp) <;> omega))⟩
        have hz3_0 : w.heap.size < w3.heap.size := by have := hb3.size; (try simp at this); omega
        have hz3_1 : w.heap.size + 1 < w3.heap.size := by have := hb3.size; (try simp at this); omega
        have hz3_2 : w1.heap.size < w3.heap.size := by have := hb3.size; (try simp at this); omega
        have hz3_3 : w1.heap.size + 1 < w3.heap.size := by have := hb3.size; (try simp at this); omega
        obtain ⟨hc, hf⟩ := bcell hb3
        have c3_0_0 : w3.cell? ⟨w.heap.size, 0, none⟩ = some (.int .i64 wd) := (hc _ _ (by (try simp) <;> omega)).trans (by go_simp)
        have c3_0_1 : w3.cell? ⟨w.heap.size, 1, none⟩ = some (.int .i64 dp) := (hc _ _ (by (try simp) <;> omega)).trans (by go_simp)
        have c3_0_2 : w3.cell? ⟨w.heap.size, 2, none⟩ = some ((.slice g M c)) := (hc _ _ (by (try simp) <;> omega)).trans (by go_simp)
        have z3_0 : ∀ j, w3.frozen? ⟨w.heap.size, j, none⟩ = false := fun j => (hf _ _ (by (try simp) <;> omega)).trans (by go_simp)
        have c3_1_0 : w3.cell? ⟨w.heap.size + 1, 0, none⟩ = some (.int .i64 ex) := (hc _ _ (by (try simp) <;> omega)).trans (by go_simp)
        have c3_1_1 : w3.cell? ⟨w.heap.size + 1, 1, none⟩ = some (.int .i64 eb) := (hc _ _ (by (try simp) <;> omega)).trans (by go_simp)
        have c3_1_2 : w3.cell? ⟨w.heap.size + 1, 2, none⟩ = some (.int .i64 eh) := (hc _ _ (by (try simp) <;> omega)).trans (by go_simp)
        have z3_1 : ∀ j, w3.frozen? ⟨w.heap.size + 1, j, none⟩ = false := fun j => (hf _ _ (by (try simp) <;> omega)).trans (by go_simp)
        have c3_2_0 : w3.cell? ⟨w1.heap.size, 0, none⟩ = some (.int .i64 wd) := (hc _ _ (by (try simp) <;> omega)).trans (by go_simp)
        have c3_2_1 : w3.cell? ⟨w1.heap.size, 1, none⟩ = some (.int .i64 dp) := (hc _ _ (by (try simp) <;> omega)).trans (by go_simp)
        have c3_2_2 : w3.cell? ⟨w1.heap.size, 2, none⟩ = some ((.slice g2 M2 c2)) := (hc _ _ (by (try simp) <;> omega)).trans (by go_simp)
        have z3_2 : ∀ j, w3.frozen? ⟨w1.heap.size, j, none⟩ = false := fun j => (hf _ _ (by (try simp) <;> omega)).trans (by go_simp)
        have c3_3_0 : w3.cell? ⟨w1.heap.size + 1, 0, none⟩ = some (.int .i64 ex) := (hc _ _ (by (try simp) <;> omega)).trans (by go_simp)
        have c3_3_1 : w3.cell? ⟨w1.heap.size + 1, 1, none⟩ = some (.int .i64 eb) := (hc _ _ (by (try simp) <;> omega)).trans (by go_simp)
        have c3_3_2 : w3.cell? ⟨w1.heap.size + 1, 2, none⟩ = some (.int .i64 H) := (hc _ _ (by (try simp) <;> omega)).trans (by go_simp)
        have z3_3 : ∀ j, w3.frozen? ⟨w1.heap.size + 1, j, none⟩ = false := fun j => (hf _ _ (by (try simp) <;> omega)).trans (by go_simp)
        clear hc hf hb3
        go_wp2_with fail
        refine (HS1.out _ HB3.out).mono ?_
        rintro en w4 ⟨rfl, hb4⟩
        have HI := Kp.mk (HI.out.below hb4)
        clear HS1
        have HB4 : Kp (Below w.heap.size w w4) := ⟨Below.trans (by repeat (first | refine Below.alloc ?_ (by have := HB3.out.size; (try simp) <;> omega) _ | refine bDrewN ?_ _ | refine Below.drew ?_ | refine Below.setCell ?_ (by have := HB3.out.size; (try simp) <;> omega) _ | exact HB3.out)) (hb4.mono (by have := HB3.out.size; (try simp) <;> omega))⟩
        have hz4_0 : w1.heap.size < w4.heap.size := by have := hb4.size; (try simp at this); omega
        have hz4_1 : w1.heap.size + 1 < w4.heap.size := by have := hb4.size; (try simp at this); omega
        obtain ⟨hc, hf⟩ := bcell hb4
        have c4_0_0 : w4.cell? ⟨w1.heap.size, 0, none⟩ = some (.int .i64 wd) := (hc _ _ (by (try simp) <;> omega)).trans (by go_simp)
        have c4_0_1 : w4.cell? ⟨w1.heap.size, 1, none⟩ = some (.int .i64 dp) := (hc _ _ (by (try simp) <;> omega)).trans (by go_simp)
        have c4_0_2 : w4.cell? ⟨w1.heap.size, 2, none⟩ = some ((.slice g2 M2 c2)) := (hc _ _ (by (try simp) <;> omega)).trans (by go_simp)
        have z4_0 : ∀ j, w4.frozen? ⟨w1.heap.size, j, none⟩ = false := fun j => (hf _ _ (by (try simp) <;> omega)).trans (by go_simp)
        have c4_1_0 : w4.cell? ⟨w1.heap.size + 1, 0, none⟩ = some (.int .i64 ex) := (hc _ _ (by (try simp) <;> omega)).trans (by go_simp)
        have c4_1_1 : w4.cell? ⟨w1.heap.size + 1, 1, none⟩ = some (.int .i64 eb) := (hc _ _ (by (try simp) <;> omega)).trans (by go_simp)
        have c4_1_2 : w4.cell? ⟨w1.heap.size + 1, 2, none⟩ = some (.int .i64 H) := (hc _ _ (by (try simp) <;> omega)).trans (by go_simp)
        have z4_1 : ∀ j, w4.frozen? ⟨w1.heap.size + 1, j, none⟩ = false := fun j => (hf _ _ (by (try simp) <;> omega)).trans (by go_simp)
        clear hc hf hb4
        go_wp2_with fail
        refine (HS2.out _ _ HI.out).mono ?_
        rintro en w5 ⟨rfl, hb5⟩
        have HB5 : Kp (Below w.heap.size w w5) := ⟨HB4.out.trans (hb5.mono HB4.out.size)⟩
        clear HS2 HI hb5 k1
        by_cases e1 : i1 = 0
        · subst e1
          by_cases e2 : i2 = 0
          · subst e2
            have hs := HF.out (by simp) (by simp) (by simp) (by simp) (by simp)
            have hs := hs.symm
            subst hs
            clear HF
            go_wp2_with fail
            refine (HAW.out _).mono ?_
            rintro en w9 ⟨rfl, hb9⟩
            have HB9 : Kp (Below w.heap.size w w9) := ⟨by have := HB5.out.size; refine HB5.out.trans (Below.trans ?_ (hb9.mono (by (try simp) <;> omega))); repeat (first | exact Below.refl _ _ | refine Below.alloc ?_ (by (try simp) <;> omega) _ | refine Below.setCell ?_ (by (try simp) <;> omega) _)⟩
            clear hb9
            go_wp2
            go_ret
            exact ⟨rfl, HB9.out⟩
          · have j2 : (i2 != (0 : Int)) = true := by simp [e2]
            clear e2 HF
            go_wp2_with fail
            refine (HAW.out _).mono ?_
            rintro en w9 ⟨rfl, hb9⟩
            have HB9 : Kp (Below w.heap.size w w9) := ⟨by have := HB5.out.size; refine HB5.out.trans (Below.trans ?_ (hb9.mono (by (try simp) <;> omega))); repeat (first | exact Below.refl _ _ | refine Below.alloc ?_ (by (try simp) <;> omega) _ | refine Below.setCell ?_ (by (try simp) <;> omega) _)⟩
            clear hb9
            go_wp2
            go_ret
            exact ⟨rfl, HB9.out⟩
        · have j1 : (i1 != (0 : Int)) = true := by simp [e1]
          clear e1 HF
          go_wp2_with fail
          refine (HAW.out _).mono ?_
          rintro en w9 ⟨rfl, hb9⟩
          have HB9 : Kp (Below w.heap.size w w9) := ⟨by have := HB5.out.size; refine HB5.out.trans (Below.trans ?_ (hb9.mono (by (try simp) <;> omega))); repeat (first | exact Below.refl _ _ | refine Below.alloc ?_ (by (try simp) <;> omega) _ | refine Below.setCell ?_ (by (try simp) <;> omega) _)⟩
          clear hb9
          go_wp2
          go_ret
          exact ⟨rfl, HB9.out⟩
  · have j0 : (E0 != (0 : Int)) = true := by simp [hE]
    clear hE HQ HS1 HS2 HF HV1 HV2
    go_wp2_with fail
    refine (HAW.out _).mono ?_
    rintro en w9 ⟨rfl, hb9⟩
    have HB9 : Kp (Below w.heap.size w w9) := ⟨by have := HB1.out.size; refine HB1.out.trans (Below.trans ?_ (hb9.mono (by (try simp) <;> omega))); repeat (first | exact Below.refl _ _ | refine Below.alloc ?_ (by (try simp) <;> omega) _ | refine Below.setCell ?_ (by (try simp) <;> omega) _)⟩
    clear hb9
    go_wp2
    go_ret
    exact ⟨rfl, HB9.out⟩
theorem seenV_eq (E : Int) (o : Option (Int × Int)) : seenV E o = .tuple #[.bool (decide (E = 0) && o.isNone), .int .i64 E] := by
  unfold seenV
  split
  · subst_vars; simp
  · rename_i h; simp [h]
theorem law_raised (wd dp : Int) (v : Value) (L : List Int) (e : Ey) (x y h n : Int) (w : World) (hv : IS w v L) (hl : L.length ≤ 9223372036854775807) :
    Calls Try.prog 9 #[.agg #[.int .i64 wd, .int .i64 dp, v], .agg #[.int .i64 e.x, .int .i64 e.b, .int .i64 e.h], .int .i64 x, .int .i64 y, .int .i64 h, .int .i64 n] w fun en w' => en = .returned (.bool true) ∧ Below w.heap.size w w' := by
  have HR := Kp.mk fun W (hW : Below w.heap.size w W) => Raised_any wd dp n v L W (hv.below hW) hl
  have HV1 := Kp.mk fun W (hW : Below w.heap.size w W) => ValidEye_any wd dp v L e W (hv.below hW) hl
  have HS1 := Kp.mk fun W (hW : Below w.heap.size w W) => Seen_any wd dp v L e x y h W (hv.below hW) hl
  have HV2 := Kp.mk fun W u (hu : IS W u (L.map (· + n))) => ValidEye_any wd dp u (L.map (· + n)) ⟨e.x, e.b, IntKind.i64.wrap (e.h + n)⟩ W hu (by rw [List.length_map]; exact hl)
  have HS2 := Kp.mk fun W u (hu : IS W u (L.map (· + n))) => Seen_any wd dp u (L.map (· + n)) ⟨e.x, e.b, IntKind.i64.wrap (e.h + n)⟩ x y (IntKind.i64.wrap (h + n)) W hu (by rw [List.length_map]; exact hl)
  simp only [seenV_eq] at HS1 HS2
  obtain ⟨g, c, rfl⟩ := hv.shape
  refine law_raised_st wd dp e.x e.b e.h x y h n _ _ g L.length c _ _ _ _ _ _ _ _ w HR HV1 HV2 HS1 HS2 ⟨rfl, rfl⟩ ⟨?_⟩
  intro n1 n2 h1 h2 _ v1 v2 i1 i2
  obtain ⟨a1, a2, a3, a4, a5⟩ := askE_zero i1
  obtain ⟨b1, b2, -, -, b5⟩ := askE_zero i2
  obtain ⟨hw, hd, hL, -⟩ := gdB_iff a1
  obtain ⟨c1, c2, c3⟩ := eyB_iff.1 a2
  have e1 : IntKind.i64.wrap (e.h + n) = e.h + n := IntWalk.i64_in _ (by omega)
  have e2 : IntKind.i64.wrap (h + n) = h + n := IntWalk.i64_in _ (by omega)
  have hy : (y.toNat : Int) = y := Int.toNat_of_nonneg a4.1
  have hb : ∀ r : Nat, r < y.toNat → Bd e x y.toNat r := fun r hr => ⟨⟨c1.1, by omega⟩, c2, c3, ⟨a3.1, by omega⟩, by omega, by omega, by omega⟩
  rw [i1, i2, e1, e2, hid_raised hL hb c1.2 a3.2 (by omega)]
end Go.Proofs.Ytjnggchljilooaa.Sc
