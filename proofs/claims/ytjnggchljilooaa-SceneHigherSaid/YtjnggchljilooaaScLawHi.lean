/-
  WALKS (layer 7, scene): the law SceneHigher.
-/
import Derived.Test.YtjnggchljilooaaScRLst
import Derived.Test.YtjnggchljilooaaScAwake
namespace Go.Proofs.Ytjnggchljilooaa.Sc
open Go Go.RowKit Go.Sort

set_option maxRecDepth 100000 in
set_option maxHeartbeats 4000000 in
theorem law_higher_st (wd dp ex eb eh x y h more A LE A1 : Int) (g : Option Addr) (M c : Nat) (s1 s2 s3 s4 : Bool) (i1 i2 i3 i4 : Int) (w : World)
    (HL1 : Kp (∀ W, Below w.heap.size w W → Calls Try.prog 35 #[.agg #[.int .i64 wd, .int .i64 dp, .slice g M c], .agg #[.int .i64 ex, .int .i64 eb, .int .i64 eh], .int .i64 x, .int .i64 y] W fun en w' => en = .returned (.tuple #[.int .i64 A, .int .i64 LE]) ∧ Below W.heap.size W w'))
    (HL2 : Kp (∀ W, Below w.heap.size w W → Calls Try.prog 36 #[.agg #[.int .i64 wd, .int .i64 dp, .slice g M c], .agg #[.int .i64 ex, .int .i64 eb, .int .i64 eh], .int .i64 x, .int .i64 y] W fun en w' => en = .returned (.tuple #[.int .i64 A, .int .i64 LE]) ∧ Below W.heap.size W w'))
    (HS1 : Kp (∀ W, Below w.heap.size w W → Calls Try.prog 29 #[.agg #[.int .i64 wd, .int .i64 dp, .slice g M c], .agg #[.int .i64 ex, .int .i64 eb, .int .i64 eh], .int .i64 x, .int .i64 y, .int .i64 A] W fun en w' => en = .returned (.tuple #[.bool s1, .int .i64 i1]) ∧ Below W.heap.size W w'))
    (HS2 : Kp (∀ W, Below w.heap.size w W → Calls Try.prog 29 #[.agg #[.int .i64 wd, .int .i64 dp, .slice g M c], .agg #[.int .i64 ex, .int .i64 eb, .int .i64 eh], .int .i64 x, .int .i64 y, .int .i64 A1] W fun en w' => en = .returned (.tuple #[.bool s2, .int .i64 i2]) ∧ Below W.heap.size W w'))
    (HS3 : Kp (∀ W, Below w.heap.size w W → Calls Try.prog 29 #[.agg #[.int .i64 wd, .int .i64 dp, .slice g M c], .agg #[.int .i64 ex, .int .i64 eb, .int .i64 eh], .int .i64 x, .int .i64 y, .int .i64 h] W fun en w' => en = .returned (.tuple #[.bool s3, .int .i64 i3]) ∧ Below W.heap.size W w'))
    (HS4 : Kp (∀ W, Below w.heap.size w W → Calls Try.prog 29 #[.agg #[.int .i64 wd, .int .i64 dp, .slice g M c], .agg #[.int .i64 ex, .int .i64 eb, .int .i64 eh], .int .i64 x, .int .i64 y, .int .i64 more] W fun en w' => en = .returned (.tuple #[.bool s4, .int .i64 i4]) ∧ Below W.heap.size W w'))
    (HW : Kp (IntKind.i64.wrap (A - 1) = A1)) (HF1 : Kp (LE = 0 → i1 = 0 ∧ s1 = true ∧ (i2 ≠ 0 ∨ s2 = false)))
    (HF2 : Kp (i3 ≠ 0 ∨ i4 ≠ 0 ∨ more < h ∨ s3 = false ∨ s4 = true)) :
    Calls Try.prog 5 #[.agg #[.int .i64 wd, .int .i64 dp, .slice g M c], .agg #[.int .i64 ex, .int .i64 eb, .int .i64 eh], .int .i64 x, .int .i64 y, .int .i64 h, .int .i64 more] w fun e w' => e = .returned (.bool true) ∧ Below w.heap.size w w' := by
  have HAW := Kp.mk (fun W => awake_any W)
  have HFI := Kp.mk (fun W => fit_any wd dp g M c W)
  go_enter Try.func5, Try.ntmps5
  go_wp2_with fail
  refine (HFI.out _).mono ?_
  rintro en w1 ⟨rfl, hb1⟩
  clear HFI
  have HB1 : Kp (Below w.heap.size w w1) := ⟨Below.trans (by repeat (first | refine Below.alloc ?_ (by (try simp) <;> omega) _ | refine bDrewN ?_ _ | refine Below.drew ?_ | refine Below.setCell ?_ (by (try simp) <;> omega) _ | exact Below.refl _ _)) (hb1.mono (by (try simp) <;> omega))⟩
  have hz1_0 : w.heap.size < w1.heap.size := by have := hb1.size; (try simp at this); omega
  have hz1_1 : w.heap.size + 1 < w1.heap.size := by have := hb1.size; (try simp at this); omega
  obtain ⟨hc, hf⟩ := bcell hb1
  have c1_0_0 : w1.cell? ⟨w.heap.size, 0, none⟩ = some (.int .i64 wd) := (hc _ _ (by (try simp) <;> omega)).trans (by go_simp)
  have c1_0_1 : w1.cell? ⟨w.heap.size, 1, none⟩ = some (.int .i64 dp) := (hc _ _ (by (try simp) <;> omega)).trans (by go_simp)
  have c1_0_2 : w1.cell? ⟨w.heap.size, 2, none⟩ = some ((.slice g M c)) := (hc _ _ (by (try simp) <;> omega)).trans (by go_simp)
  have z1_0 : ∀ j, w1.frozen? ⟨w.heap.size, j, none⟩ = false := fun j => (hf _ _ (by (try simp) <;> omega)).trans (by go_simp)
  have c1_1_0 : w1.cell? ⟨w.heap.size + 1, 0, none⟩ = some (.int .i64 ex) := (hc _ _ (by (try simp) <;> omega)).trans (by go_simp)
  have c1_1_1 : w1.cell? ⟨w.heap.size + 1, 1, none⟩ = some (.int .i64 eb) := (hc _ _ (by (try simp) <;> omega)).trans (by go_simp)
  have c1_1_2 : w1.cell? ⟨w.heap.size + 1, 2, none⟩ = some (.int .i64 eh) := (hc _ _ (by (try simp) <;> omega)).trans (by go_simp)
  have z1_1 : ∀ j, w1.frozen? ⟨w.heap.size + 1, j, none⟩ = false := fun j => (hf _ _ (by (try simp) <;> omega)).trans (by go_simp)
  clear hc hf hb1
  by_cases hM : M ≤ 130
  case neg =>
    rw [decide_eq_false hM]
    clear HF1 HF2 HL1 HL2 HS1 HS2 HS3 HS4 hM
    go_wp2_with fail
    refine (HAW.out _).mono ?_
    rintro en w9 ⟨rfl, hb9⟩
    have HB9 : Kp (Below w.heap.size w w9) := ⟨by have := HB1.out.size; refine HB1.out.trans (Below.trans ?_ (hb9.mono (by (try simp) <;> omega))); repeat (first | exact Below.refl _ _ | refine Below.alloc ?_ (by (try simp) <;> omega) _ | refine Below.setCell ?_ (by (try simp) <;> omega) _)⟩
    clear hb9
    go_wp2
    go_ret
    exact ⟨rfl, HB9.out⟩
  case pos =>
  rw [decide_eq_true hM]
  clear hM
  go_wp2_with fail
  refine (HL1.out _ HB1.out).mono ?_
  rintro en w2 ⟨rfl, hb2⟩
  clear HL1
  have HB2 : Kp (Below w.heap.size w w2) := ⟨Below.trans (by repeat (first | refine Below.alloc ?_ (by have := HB1.out.size; (try simp) <;> omega) _ | refine bDrewN ?_ _ | refine Below.drew ?_ | refine Below.setCell ?_ (by have := HB1.out.size; (try simp) <;> omega) _ | exact HB1.out)) (hb2.mono (by have := HB1.out.size; (try simp) <;> omega))⟩
  have hz2_0 : w.heap.size < w2.heap.size := by have := hb2.size; (try simp at this); omega
  have hz2_1 : w.heap.size + 1 < w2.heap.size := by have := hb2.size; (try simp at this); omega
  obtain ⟨hc, hf⟩ := bcell hb2
  have c2_0_0 : w2.cell? ⟨w.heap.size, 0, none⟩ = some (.int .i64 wd) := (hc _ _ (by (try simp) <;> omega)).trans (by go_simp)
  have c2_0_1 : w2.cell? ⟨w.heap.size, 1, none⟩ = some (.int .i64 dp) := (hc _ _ (by (try simp) <;> omega)).trans (by go_simp)
  have c2_0_2 : w2.cell? ⟨w.heap.size, 2, none⟩ = some ((.slice g M c)) := (hc _ _ (by (try simp) <;> omega)).trans (by go_simp)
  have z2_0 : ∀ j, w2.frozen? ⟨w.heap.size, j, none⟩ = false := fun j => (hf _ _ (by (try simp) <;> omega)).trans (by go_simp)
  have c2_1_0 : w2.cell? ⟨w.heap.size + 1, 0, none⟩ = some (.int .i64 ex) := (hc _ _ (by (try simp) <;> omega)).trans (by go_simp)
  have c2_1_1 : w2.cell? ⟨w.heap.size + 1, 1, none⟩ = some (.int .i64 eb) := (hc _ _ (by (try simp) <;> omega)).trans (by go_simp)
  have c2_1_2 : w2.cell? ⟨w.heap.size + 1, 2, none⟩ = some (.int .i64 eh) := (hc _ _ (by (try simp) <;> omega)).trans (by go_simp)
  have z2_1 : ∀ j, w2.frozen? ⟨w.heap.size + 1, j, none⟩ = false := fun j => (hf _ _ (by (try simp) <;> omega)).trans (by go_simp)
  clear hc hf hb2
  go_wp2_with fail
  refine (HL2.out _ HB2.out).mono ?_
  rintro en w3 ⟨rfl, hb3⟩
  clear HL2
  have HB3 : Kp (Below w.heap.size w w3) := ⟨Below.trans (by repeat (first | refine Below.alloc ?_ (by have := HB2.out.size; (try simp) <;> omega) _ | refine bDrewN ?_ _ | refine Below.drew ?_ | refine Below.setCell ?_ (by have := HB2.out.size; (try simp) <;> omega) _ | exact HB2.out)) (hb3.mono (by have := HB2.out.size; (try simp) <;> omega))⟩
  have hz3_0 : w.heap.size < w3.heap.size := by have := hb3.size; (try simp at this); omega
  have hz3_1 : w.heap.size + 1 < w3.heap.size := by have := hb3.size; (try simp at this); omega
  obtain ⟨hc, hf⟩ := bcell hb3
  have c3_0_0 : w3.cell? ⟨w.heap.size, 0, none⟩ = some (.int .i64 wd) := (hc _ _ (by (try simp) <;> omega)).trans (by go_simp)
  have c3_0_1 : w3.cell? ⟨w.heap.size, 1, none⟩ = some (.int .i64 dp) := (hc _ _ (by (try simp) <;> omega)).trans (by go_simp)
  have c3_0_2 : w3.cell? ⟨w.heap.size, 2, none⟩ = some ((.slice g M c)) := (hc _ _ (by (try simp) <;> omega)).trans (by go_simp)
  have z3_0 : ∀ j, w3.frozen? ⟨w.heap.size, j, none⟩ = false := fun j => (hf _ _ (by (try simp) <;> omega)).trans (by go_simp)
  have c3_1_0 : w3.cell? ⟨w.heap.size + 1, 0, none⟩ = some (.int .i64 ex) := (hc _ _ (by (try simp) <;> omega)).trans (by go_simp)
  have c3_1_1 : w3.cell? ⟨w.heap.size + 1, 1, none⟩ = some (.int .i64 eb) := (hc _ _ (by (try simp) <;> omega)).trans (by go_simp)
  have c3_1_2 : w3.cell? ⟨w.heap.size + 1, 2, none⟩ = some (.int .i64 eh) := (hc _ _ (by (try simp) <;> omega)).trans (by go_simp)
  have z3_1 : ∀ j, w3.frozen? ⟨w.heap.size + 1, j, none⟩ = false := fun j => (hf _ _ (by (try simp) <;> omega)).trans (by go_simp)
  clear hc hf hb3
  have t1 : (LE != LE) = false := by simp
  have t2 : (A != A) = false := by simp
  by_cases hE : LE = 0
  · subst hE
    obtain ⟨f1, f2, f3⟩ := HF1.out rfl
    subst f1 f2
    have HF3 := Kp.mk f3
    have k0 := HW.out
    clear HF1 f3
    go_wp2_with fail
    refine (HS1.out _ HB3.out).mono ?_
    rintro en w4 ⟨rfl, hb4⟩
    clear HS1
    have HB4 : Kp (Below w.heap.size w w4) := ⟨Below.trans (by repeat (first | refine Below.alloc ?_ (by have := HB3.out.size; (try simp) <;> omega) _ | refine bDrewN ?_ _ | refine Below.drew ?_ | refine Below.setCell ?_ (by have := HB3.out.size; (try simp) <;> omega) _ | exact HB3.out)) (hb4.mono (by have := HB3.out.size; (try simp) <;> omega))⟩
    have hz4_0 : w.heap.size < w4.heap.size := by have := hb4.size; (try simp at this); omega
    have hz4_1 : w.heap.size + 1 < w4.heap.size := by have := hb4.size; (try simp at this); omega
    obtain ⟨hc, hf⟩ := bcell hb4
    have c4_0_0 : w4.cell? ⟨w.heap.size, 0, none⟩ = some (.int .i64 wd) := (hc _ _ (by (try simp) <;> omega)).trans (by go_simp)
    have c4_0_1 : w4.cell? ⟨w.heap.size, 1, none⟩ = some (.int .i64 dp) := (hc _ _ (by (try simp) <;> omega)).trans (by go_simp)
    have c4_0_2 : w4.cell? ⟨w.heap.size, 2, none⟩ = some ((.slice g M c)) := (hc _ _ (by (try simp) <;> omega)).trans (by go_simp)
    have z4_0 : ∀ j, w4.frozen? ⟨w.heap.size, j, none⟩ = false := fun j => (hf _ _ (by (try simp) <;> omega)).trans (by go_simp)
    have c4_1_0 : w4.cell? ⟨w.heap.size + 1, 0, none⟩ = some (.int .i64 ex) := (hc _ _ (by (try simp) <;> omega)).trans (by go_simp)
    have c4_1_1 : w4.cell? ⟨w.heap.size + 1, 1, none⟩ = some (.int .i64 eb) := (hc _ _ (by (try simp) <;> omega)).trans (by go_simp)
    have c4_1_2 : w4.cell? ⟨w.heap.size + 1, 2, none⟩ = some (.int .i64 eh) := (hc _ _ (by (try simp) <;> omega)).trans (by go_simp)
    have z4_1 : ∀ j, w4.frozen? ⟨w.heap.size + 1, j, none⟩ = false := fun j => (hf _ _ (by (try simp) <;> omega)).trans (by go_simp)
    clear hc hf hb4
    go_wp2_with fail
    refine (HS2.out _ HB4.out).mono ?_
    rintro en w5 ⟨rfl, hb5⟩
    clear HS2
    have HB5 : Kp (Below w.heap.size w w5) := ⟨Below.trans (by repeat (first | refine Below.alloc ?_ (by have := HB4.out.size; (try simp) <;> omega) _ | refine bDrewN ?_ _ | refine Below.drew ?_ | refine Below.setCell ?_ (by have := HB4.out.size; (try simp) <;> omega) _ | exact HB4.out)) (hb5.mono (by have := HB4.out.size; (try simp) <;> omega))⟩
    have hz5_0 : w.heap.size < w5.heap.size := by have := hb5.size; (try simp at this); omega
    have hz5_1 : w.heap.size + 1 < w5.heap.size := by have := hb5.size; (try simp at this); omega
    obtain ⟨hc, hf⟩ := bcell hb5
    have c5_0_0 : w5.cell? ⟨w.heap.size, 0, none⟩ = some (.int .i64 wd) := (hc _ _ (by (try simp) <;> omega)).trans (by go_simp)
    have c5_0_1 : w5.cell? ⟨w.heap.size, 1, none⟩ = some (.int .i64 dp) := (hc _ _ (by (try simp) <;> omega)).trans (by go_simp)
    have c5_0_2 : w5.cell? ⟨w.heap.size, 2, none⟩ = some ((.slice g M c)) := (hc _ _ (by (try simp) <;> omega)).trans (by go_simp)
    have z5_0 : ∀ j, w5.frozen? ⟨w.heap.size, j, none⟩ = false := fun j => (hf _ _ (by (try simp) <;> omega)).trans (by go_simp)
    have c5_1_0 : w5.cell? ⟨w.heap.size + 1, 0, none⟩ = some (.int .i64 ex) := (hc _ _ (by (try simp) <;> omega)).trans (by go_simp)
    have c5_1_1 : w5.cell? ⟨w.heap.size + 1, 1, none⟩ = some (.int .i64 eb) := (hc _ _ (by (try simp) <;> omega)).trans (by go_simp)
    have c5_1_2 : w5.cell? ⟨w.heap.size + 1, 2, none⟩ = some (.int .i64 eh) := (hc _ _ (by (try simp) <;> omega)).trans (by go_simp)
    have z5_1 : ∀ j, w5.frozen? ⟨w.heap.size + 1, j, none⟩ = false := fun j => (hf _ _ (by (try simp) <;> omega)).trans (by go_simp)
    clear hc hf hb5 c4_0_0 c4_0_1 c4_0_2 z4_0 c4_1_0 c4_1_1 c4_1_2 z4_1
    clear k0 HW
    by_cases e2 : i2 = 0
    · subst e2
      obtain rfl : s2 = false := by rcases HF3.out with h | h; exact absurd rfl h; exact h
      clear HF3
      go_wp2_with fail
      refine (HS3.out _ HB5.out).mono ?_
      rintro en w6 ⟨rfl, hb6⟩
      clear HS3
      have HB6 : Kp (Below w.heap.size w w6) := ⟨Below.trans (by repeat (first | refine Below.alloc ?_ (by have := HB5.out.size; (try simp) <;> omega) _ | refine bDrewN ?_ _ | refine Below.drew ?_ | refine Below.setCell ?_ (by have := HB5.out.size; (try simp) <;> omega) _ | exact HB5.out)) (hb6.mono (by have := HB5.out.size; (try simp) <;> omega))⟩
      have hz6_0 : w.heap.size < w6.heap.size := by have := hb6.size; (try simp at this); omega
      have hz6_1 : w.heap.size + 1 < w6.heap.size := by have := hb6.size; (try simp at this); omega
      obtain ⟨hc, hf⟩ := bcell hb6
      have c6_0_0 : w6.cell? ⟨w.heap.size, 0, none⟩ = some (.int .i64 wd) := (hc _ _ (by (try simp) <;> omega)).trans (by go_simp)
      have c6_0_1 : w6.cell? ⟨w.heap.size, 1, none⟩ = some (.int .i64 dp) := (hc _ _ (by (try simp) <;> omega)).trans (by go_simp)
      have c6_0_2 : w6.cell? ⟨w.heap.size, 2, none⟩ = some ((.slice g M c)) := (hc _ _ (by (try simp) <;> omega)).trans (by go_simp)
      have z6_0 : ∀ j, w6.frozen? ⟨w.heap.size, j, none⟩ = false := fun j => (hf _ _ (by (try simp) <;> omega)).trans (by go_simp)
      have c6_1_0 : w6.cell? ⟨w.heap.size + 1, 0, none⟩ = some (.int .i64 ex) := (hc _ _ (by (try simp) <;> omega)).trans (by go_simp)
      have c6_1_1 : w6.cell? ⟨w.heap.size + 1, 1, none⟩ = some (.int .i64 eb) := (hc _ _ (by (try simp) <;> omega)).trans (by go_simp)
      have c6_1_2 : w6.cell? ⟨w.heap.size + 1, 2, none⟩ = some (.int .i64 eh) := (hc _ _ (by (try simp) <;> omega)).trans (by go_simp)
      have z6_1 : ∀ j, w6.frozen? ⟨w.heap.size + 1, j, none⟩ = false := fun j => (hf _ _ (by (try simp) <;> omega)).trans (by go_simp)
      clear hc hf hb6 c5_0_0 c5_0_1 c5_0_2 z5_0 c5_1_0 c5_1_1 c5_1_2 z5_1
      go_wp2_with fail
      refine (HS4.out _ HB6.out).mono ?_
      rintro en w7 ⟨rfl, hb7⟩
      clear HS4
      have HB7 : Kp (Below w.heap.size w w7) := ⟨Below.trans (by repeat (first | refine Below.alloc ?_ (by have := HB6.out.size; (try simp) <;> omega) _ | refine bDrewN ?_ _ | refine Below.drew ?_ | refine Below.setCell ?_ (by have := HB6.out.size; (try simp) <;> omega) _ | exact HB6.out)) (hb7.mono (by have := HB6.out.size; (try simp) <;> omega))⟩
      have hz7_0 : w.heap.size < w7.heap.size := by have := hb7.size; (try simp at this); omega
      have hz7_1 : w.heap.size + 1 < w7.heap.size := by have := hb7.size; (try simp at this); omega
      obtain ⟨hc, hf⟩ := bcell hb7
      have c7_0_0 : w7.cell? ⟨w.heap.size, 0, none⟩ = some (.int .i64 wd) := (hc _ _ (by (try simp) <;> omega)).trans (by go_simp)
      have c7_0_1 : w7.cell? ⟨w.heap.size, 1, none⟩ = some (.int .i64 dp) := (hc _ _ (by (try simp) <;> omega)).trans (by go_simp)
      have c7_0_2 : w7.cell? ⟨w.heap.size, 2, none⟩ = some ((.slice g M c)) := (hc _ _ (by (try simp) <;> omega)).trans (by go_simp)
      have z7_0 : ∀ j, w7.frozen? ⟨w.heap.size, j, none⟩ = false := fun j => (hf _ _ (by (try simp) <;> omega)).trans (by go_simp)
      have c7_1_0 : w7.cell? ⟨w.heap.size + 1, 0, none⟩ = some (.int .i64 ex) := (hc _ _ (by (try simp) <;> omega)).trans (by go_simp)
      have c7_1_1 : w7.cell? ⟨w.heap.size + 1, 1, none⟩ = some (.int .i64 eb) := (hc _ _ (by (try simp) <;> omega)).trans (by go_simp)
      have c7_1_2 : w7.cell? ⟨w.heap.size + 1, 2, none⟩ = some (.int .i64 eh) := (hc _ _ (by (try simp) <;> omega)).trans (by go_simp)
      have z7_1 : ∀ j, w7.frozen? ⟨w.heap.size + 1, j, none⟩ = false := fun j => (hf _ _ (by (try simp) <;> omega)).trans (by go_simp)
      clear hc hf hb7 c6_0_0 c6_0_1 c6_0_2 z6_0 c6_1_0 c6_1_1 c6_1_2 z6_1
      rcases HF2.out with hf | hf | hf | hf | hf
      · have j3 : (i3 != (0 : Int)) = true := by simp [hf]
        clear HF2
        go_wp2_with fail
        refine (HAW.out _).mono ?_
        rintro en w9 ⟨rfl, hb9⟩
        have HB9 : Kp (Below w.heap.size w w9) := ⟨by have := HB7.out.size; refine HB7.out.trans (Below.trans ?_ (hb9.mono (by (try simp) <;> omega))); repeat (first | exact Below.refl _ _ | refine Below.alloc ?_ (by (try simp) <;> omega) _ | refine Below.setCell ?_ (by (try simp) <;> omega) _)⟩
        clear hb9
        go_wp2
        go_ret
        exact ⟨rfl, HB9.out⟩
      · have j4 : (i4 != (0 : Int)) = true := by simp [hf]
        by_cases ei3 : i3 = 0
        · subst ei3
          clear HF2
          go_wp2_with fail
          refine (HAW.out _).mono ?_
          rintro en w9 ⟨rfl, hb9⟩
          have HB9 : Kp (Below w.heap.size w w9) := ⟨by have := HB7.out.size; refine HB7.out.trans (Below.trans ?_ (hb9.mono (by (try simp) <;> omega))); repeat (first | exact Below.refl _ _ | refine Below.alloc ?_ (by (try simp) <;> omega) _ | refine Below.setCell ?_ (by (try simp) <;> omega) _)⟩
          clear hb9
          go_wp2
          go_ret
          exact ⟨rfl, HB9.out⟩
        · have qi3 : (i3 != (0 : Int)) = true := by simp [ei3]
          clear HF2
          go_wp2_with fail
          refine (HAW.out _).mono ?_
          rintro en w9 ⟨rfl, hb9⟩
          have HB9 : Kp (Below w.heap.size w w9) := ⟨by have := HB7.out.size; refine HB7.out.trans (Below.trans ?_ (hb9.mono (by (try simp) <;> omega))); repeat (first | exact Below.refl _ _ | refine Below.alloc ?_ (by (try simp) <;> omega) _ | refine Below.setCell ?_ (by (try simp) <;> omega) _)⟩
          clear hb9
          go_wp2
          go_ret
          exact ⟨rfl, HB9.out⟩
      · have j5 : more < h := hf
        by_cases ei3 : i3 = 0
        · subst ei3
          by_cases ei4 : i4 = 0
          · subst ei4
            clear HF2
            go_wp2_with fail
            refine (HAW.out _).mono ?_
            rintro en w9 ⟨rfl, hb9⟩
            have HB9 : Kp (Below w.heap.size w w9) := ⟨by have := HB7.out.size; refine HB7.out.trans (Below.trans ?_ (hb9.mono (by (try simp) <;> omega))); repeat (first | exact Below.refl _ _ | refine Below.alloc ?_ (by (try simp) <;> omega) _ | refine Below.setCell ?_ (by (try simp) <;> omega) _)⟩
            clear hb9
            go_wp2
            go_ret
            exact ⟨rfl, HB9.out⟩
          · have qi4 : (i4 != (0 : Int)) = true := by simp [ei4]
            clear HF2
            go_wp2_with fail
            refine (HAW.out _).mono ?_
            rintro en w9 ⟨rfl, hb9⟩
            have HB9 : Kp (Below w.heap.size w w9) := ⟨by have := HB7.out.size; refine HB7.out.trans (Below.trans ?_ (hb9.mono (by (try simp) <;> omega))); repeat (first | exact Below.refl _ _ | refine Below.alloc ?_ (by (try simp) <;> omega) _ | refine Below.setCell ?_ (by (try simp) <;> omega) _)⟩
            clear hb9
            go_wp2
            go_ret
            exact ⟨rfl, HB9.out⟩
        · have qi3 : (i3 != (0 : Int)) = true := by simp [ei3]
          clear HF2
          go_wp2_with fail
          refine (HAW.out _).mono ?_
          rintro en w9 ⟨rfl, hb9⟩
          have HB9 : Kp (Below w.heap.size w w9) := ⟨by have := HB7.out.size; refine HB7.out.trans (Below.trans ?_ (hb9.mono (by (try simp) <;> omega))); repeat (first | exact Below.refl _ _ | refine Below.alloc ?_ (by (try simp) <;> omega) _ | refine Below.setCell ?_ (by (try simp) <;> omega) _)⟩
          clear hb9
          go_wp2
          go_ret
          exact ⟨rfl, HB9.out⟩
      · subst hf
        by_cases ei3 : i3 = 0
        · subst ei3
          by_cases ei4 : i4 = 0
          · subst ei4
            by_cases emo : more < h
            · skip
              clear HF2
              go_wp2_with fail
              refine (HAW.out _).mono ?_
              rintro en w9 ⟨rfl, hb9⟩
              have HB9 : Kp (Below w.heap.size w w9) := ⟨by have := HB7.out.size; refine HB7.out.trans (Below.trans ?_ (hb9.mono (by (try simp) <;> omega))); repeat (first | exact Below.refl _ _ | refine Below.alloc ?_ (by (try simp) <;> omega) _ | refine Below.setCell ?_ (by (try simp) <;> omega) _)⟩
              clear hb9
              go_wp2
              go_ret
              exact ⟨rfl, HB9.out⟩
            · skip
              clear HF2
              go_wp2_with fail
              refine (HAW.out _).mono ?_
              rintro en w9 ⟨rfl, hb9⟩
              have HB9 : Kp (Below w.heap.size w w9) := ⟨by have := HB7.out.size; refine HB7.out.trans (Below.trans ?_ (hb9.mono (by (try simp) <;> omega))); repeat (first | exact Below.refl _ _ | refine Below.alloc ?_ (by (try simp) <;> omega) _ | refine Below.setCell ?_ (by (try simp) <;> omega) _)⟩
              clear hb9
              go_wp2
              go_ret
              exact ⟨rfl, HB9.out⟩
          · have qi4 : (i4 != (0 : Int)) = true := by simp [ei4]
            clear HF2
            go_wp2_with fail
            refine (HAW.out _).mono ?_
            rintro en w9 ⟨rfl, hb9⟩
            have HB9 : Kp (Below w.heap.size w w9) := ⟨by have := HB7.out.size; refine HB7.out.trans (Below.trans ?_ (hb9.mono (by (try simp) <;> omega))); repeat (first | exact Below.refl _ _ | refine Below.alloc ?_ (by (try simp) <;> omega) _ | refine Below.setCell ?_ (by (try simp) <;> omega) _)⟩
            clear hb9
            go_wp2
            go_ret
            exact ⟨rfl, HB9.out⟩
        · have qi3 : (i3 != (0 : Int)) = true := by simp [ei3]
          clear HF2
          go_wp2_with fail
          refine (HAW.out _).mono ?_
          rintro en w9 ⟨rfl, hb9⟩
          have HB9 : Kp (Below w.heap.size w w9) := ⟨by have := HB7.out.size; refine HB7.out.trans (Below.trans ?_ (hb9.mono (by (try simp) <;> omega))); repeat (first | exact Below.refl _ _ | refine Below.alloc ?_ (by (try simp) <;> omega) _ | refine Below.setCell ?_ (by (try simp) <;> omega) _)⟩
          clear hb9
          go_wp2
          go_ret
          exact ⟨rfl, HB9.out⟩
      · subst hf
        by_cases ei3 : i3 = 0
        · subst ei3
          by_cases ei4 : i4 = 0
          · subst ei4
            by_cases emo : more < h
            · skip
              clear HF2
              go_wp2_with fail
              refine (HAW.out _).mono ?_
              rintro en w9 ⟨rfl, hb9⟩
              have HB9 : Kp (Below w.heap.size w w9) := ⟨by have := HB7.out.size; refine HB7.out.trans (Below.trans ?_ (hb9.mono (by (try simp) <;> omega))); repeat (first | exact Below.refl _ _ | refine Below.alloc ?_ (by (try simp) <;> omega) _ | refine Below.setCell ?_ (by (try simp) <;> omega) _)⟩
              clear hb9
              go_wp2
              go_ret
              exact ⟨rfl, HB9.out⟩
            · skip
              cases s3 with
              | true =>
                clear HF2
                go_wp2_with fail
                refine (HAW.out _).mono ?_
                rintro en w9 ⟨rfl, hb9⟩
                have HB9 : Kp (Below w.heap.size w w9) := ⟨by have := HB7.out.size; refine HB7.out.trans (Below.trans ?_ (hb9.mono (by (try simp) <;> omega))); repeat (first | exact Below.refl _ _ | refine Below.alloc ?_ (by (try simp) <;> omega) _ | refine Below.setCell ?_ (by (try simp) <;> omega) _)⟩
                clear hb9
                go_wp2
                go_ret
                exact ⟨rfl, HB9.out⟩
              | false =>
                clear HF2
                go_wp2_with fail
                refine (HAW.out _).mono ?_
                rintro en w9 ⟨rfl, hb9⟩
                have HB9 : Kp (Below w.heap.size w w9) := ⟨by have := HB7.out.size; refine HB7.out.trans (Below.trans ?_ (hb9.mono (by (try simp) <;> omega))); repeat (first | exact Below.refl _ _ | refine Below.alloc ?_ (by (try simp) <;> omega) _ | refine Below.setCell ?_ (by (try simp) <;> omega) _)⟩
                clear hb9
                go_wp2
                go_ret
                exact ⟨rfl, HB9.out⟩
          · have qi4 : (i4 != (0 : Int)) = true := by simp [ei4]
            clear HF2
            go_wp2_with fail
            refine (HAW.out _).mono ?_
            rintro en w9 ⟨rfl, hb9⟩
            have HB9 : Kp (Below w.heap.size w w9) := ⟨by have := HB7.out.size; refine HB7.out.trans (Below.trans ?_ (hb9.mono (by (try simp) <;> omega))); repeat (first | exact Below.refl _ _ | refine Below.alloc ?_ (by (try simp) <;> omega) _ | refine Below.setCell ?_ (by (try simp) <;> omega) _)⟩
            clear hb9
            go_wp2
            go_ret
            exact ⟨rfl, HB9.out⟩
        · have qi3 : (i3 != (0 : Int)) = true := by simp [ei3]
          clear HF2
          go_wp2_with fail
          refine (HAW.out _).mono ?_
          rintro en w9 ⟨rfl, hb9⟩
          have HB9 : Kp (Below w.heap.size w w9) := ⟨by have := HB7.out.size; refine HB7.out.trans (Below.trans ?_ (hb9.mono (by (try simp) <;> omega))); repeat (first | exact Below.refl _ _ | refine Below.alloc ?_ (by (try simp) <;> omega) _ | refine Below.setCell ?_ (by (try simp) <;> omega) _)⟩
          clear hb9
          go_wp2
          go_ret
          exact ⟨rfl, HB9.out⟩
    · have j2 : (i2 == (0 : Int)) = false := by simp [e2]
      clear e2 HF3
      go_wp2_with fail
      refine (HS3.out _ HB5.out).mono ?_
      rintro en w6 ⟨rfl, hb6⟩
      clear HS3
      have HB6 : Kp (Below w.heap.size w w6) := ⟨Below.trans (by repeat (first | refine Below.alloc ?_ (by have := HB5.out.size; (try simp) <;> omega) _ | refine bDrewN ?_ _ | refine Below.drew ?_ | refine Below.setCell ?_ (by have := HB5.out.size; (try simp) <;> omega) _ | exact HB5.out)) (hb6.mono (by have := HB5.out.size; (try simp) <;> omega))⟩
      have hz6_0 : w.heap.size < w6.heap.size := by have := hb6.size; (try simp at this); omega
      have hz6_1 : w.heap.size + 1 < w6.heap.size := by have := hb6.size; (try simp at this); omega
      obtain ⟨hc, hf⟩ := bcell hb6
      have c6_0_0 : w6.cell? ⟨w.heap.size, 0, none⟩ = some (.int .i64 wd) := (hc _ _ (by (try simp) <;> omega)).trans (by go_simp)
      have c6_0_1 : w6.cell? ⟨w.heap.size, 1, none⟩ = some (.int .i64 dp) := (hc _ _ (by (try simp) <;> omega)).trans (by go_simp)
      have c6_0_2 : w6.cell? ⟨w.heap.size, 2, none⟩ = some ((.slice g M c)) := (hc _ _ (by (try simp) <;> omega)).trans (by go_simp)
      have z6_0 : ∀ j, w6.frozen? ⟨w.heap.size, j, none⟩ = false := fun j => (hf _ _ (by (try simp) <;> omega)).trans (by go_simp)
      have c6_1_0 : w6.cell? ⟨w.heap.size + 1, 0, none⟩ = some (.int .i64 ex) := (hc _ _ (by (try simp) <;> omega)).trans (by go_simp)
      have c6_1_1 : w6.cell? ⟨w.heap.size + 1, 1, none⟩ = some (.int .i64 eb) := (hc _ _ (by (try simp) <;> omega)).trans (by go_simp)
      have c6_1_2 : w6.cell? ⟨w.heap.size + 1, 2, none⟩ = some (.int .i64 eh) := (hc _ _ (by (try simp) <;> omega)).trans (by go_simp)
      have z6_1 : ∀ j, w6.frozen? ⟨w.heap.size + 1, j, none⟩ = false := fun j => (hf _ _ (by (try simp) <;> omega)).trans (by go_simp)
      clear hc hf hb6 c5_0_0 c5_0_1 c5_0_2 z5_0 c5_1_0 c5_1_1 c5_1_2 z5_1
      go_wp2_with fail
      refine (HS4.out _ HB6.out).mono ?_
      rintro en w7 ⟨rfl, hb7⟩
      clear HS4
      have HB7 : Kp (Below w.heap.size w w7) := ⟨Below.trans (by repeat (first | refine Below.alloc ?_ (by have := HB6.out.size; (try simp) <;> omega) _ | refine bDrewN ?_ _ | refine Below.drew ?_ | refine Below.setCell ?_ (by have := HB6.out.size; (try simp) <;> omega) _ | exact HB6.out)) (hb7.mono (by have := HB6.out.size; (try simp) <;> omega))⟩
      have hz7_0 : w.heap.size < w7.heap.size := by have := hb7.size; (try simp at this); omega
      have hz7_1 : w.heap.size + 1 < w7.heap.size := by have := hb7.size; (try simp at this); omega
      obtain ⟨hc, hf⟩ := bcell hb7
      have c7_0_0 : w7.cell? ⟨w.heap.size, 0, none⟩ = some (.int .i64 wd) := (hc _ _ (by (try simp) <;> omega)).trans (by go_simp)
      have c7_0_1 : w7.cell? ⟨w.heap.size, 1, none⟩ = some (.int .i64 dp) := (hc _ _ (by (try simp) <;> omega)).trans (by go_simp)
      have c7_0_2 : w7.cell? ⟨w.heap.size, 2, none⟩ = some ((.slice g M c)) := (hc _ _ (by (try simp) <;> omega)).trans (by go_simp)
      have z7_0 : ∀ j, w7.frozen? ⟨w.heap.size, j, none⟩ = false := fun j => (hf _ _ (by (try simp) <;> omega)).trans (by go_simp)
      have c7_1_0 : w7.cell? ⟨w.heap.size + 1, 0, none⟩ = some (.int .i64 ex) := (hc _ _ (by (try simp) <;> omega)).trans (by go_simp)
      have c7_1_1 : w7.cell? ⟨w.heap.size + 1, 1, none⟩ = some (.int .i64 eb) := (hc _ _ (by (try simp) <;> omega)).trans (by go_simp)
      have c7_1_2 : w7.cell? ⟨w.heap.size + 1, 2, none⟩ = some (.int .i64 eh) := (hc _ _ (by (try simp) <;> omega)).trans (by go_simp)
      have z7_1 : ∀ j, w7.frozen? ⟨w.heap.size + 1, j, none⟩ = false := fun j => (hf _ _ (by (try simp) <;> omega)).trans (by go_simp)
      clear hc hf hb7
      rcases HF2.out with hf | hf | hf | hf | hf
      · have j3 : (i3 != (0 : Int)) = true := by simp [hf]
        clear HF2
        go_wp2_with fail
        refine (HAW.out _).mono ?_
        rintro en w9 ⟨rfl, hb9⟩
        have HB9 : Kp (Below w.heap.size w w9) := ⟨by have := HB7.out.size; refine HB7.out.trans (Below.trans ?_ (hb9.mono (by (try simp) <;> omega))); repeat (first | exact Below.refl _ _ | refine Below.alloc ?_ (by (try simp) <;> omega) _ | refine Below.setCell ?_ (by (try simp) <;> omega) _)⟩
        clear hb9
        go_wp2
        go_ret
        exact ⟨rfl, HB9.out⟩
      · have j4 : (i4 != (0 : Int)) = true := by simp [hf]
        by_cases ei3 : i3 = 0
        · subst ei3
          clear HF2
          go_wp2_with fail
          refine (HAW.out _).mono ?_
          rintro en w9 ⟨rfl, hb9⟩
          have HB9 : Kp (Below w.heap.size w w9) := ⟨by have := HB7.out.size; refine HB7.out.trans (Below.trans ?_ (hb9.mono (by (try simp) <;> omega))); repeat (first | exact Below.refl _ _ | refine Below.alloc ?_ (by (try simp) <;> omega) _ | refine Below.setCell ?_ (by (try simp) <;> omega) _)⟩
          clear hb9
          go_wp2
          go_ret
          exact ⟨rfl, HB9.out⟩
        · have qi3 : (i3 != (0 : Int)) = true := by simp [ei3]
          clear HF2
          go_wp2_with fail
          refine (HAW.out _).mono ?_
          rintro en w9 ⟨rfl, hb9⟩
          have HB9 : Kp (Below w.heap.size w w9) := ⟨by have := HB7.out.size; refine HB7.out.trans (Below.trans ?_ (hb9.mono (by (try simp) <;> omega))); repeat (first | exact Below.refl _ _ | refine Below.alloc ?_ (by (try simp) <;> omega) _ | refine Below.setCell ?_ (by (try simp) <;> omega) _)⟩
          clear hb9
          go_wp2
          go_ret
          exact ⟨rfl, HB9.out⟩
      · have j5 : more < h := hf
        by_cases ei3 : i3 = 0
        · subst ei3
          by_cases ei4 : i4 = 0
          · subst ei4
            clear HF2
            go_wp2_with fail
            refine (HAW.out _).mono ?_
            rintro en w9 ⟨rfl, hb9⟩
            have HB9 : Kp (Below w.heap.size w w9) := ⟨by have := HB7.out.size; refine HB7.out.trans (Below.trans ?_ (hb9.mono (by (try simp) <;> omega))); repeat (first | exact Below.refl _ _ | refine Below.alloc ?_ (by (try simp) <;> omega) _ | refine Below.setCell ?_ (by (try simp) <;> omega) _)⟩
            clear hb9
            go_wp2
            go_ret
            exact ⟨rfl, HB9.out⟩
          · have qi4 : (i4 != (0 : Int)) = true := by simp [ei4]
            clear HF2
            go_wp2_with fail
            refine (HAW.out _).mono ?_
            rintro en w9 ⟨rfl, hb9⟩
            have HB9 : Kp (Below w.heap.size w w9) := ⟨by have := HB7.out.size; refine HB7.out.trans (Below.trans ?_ (hb9.mono (by (try simp) <;> omega))); repeat (first | exact Below.refl _ _ | refine Below.alloc ?_ (by (try simp) <;> omega) _ | refine Below.setCell ?_ (by (try simp) <;> omega) _)⟩
            clear hb9
            go_wp2
            go_ret
            exact ⟨rfl, HB9.out⟩
        · have qi3 : (i3 != (0 : Int)) = true := by simp [ei3]
          clear HF2
          go_wp2_with fail
          refine (HAW.out _).mono ?_
          rintro en w9 ⟨rfl, hb9⟩
          have HB9 : Kp (Below w.heap.size w w9) := ⟨by have := HB7.out.size; refine HB7.out.trans (Below.trans ?_ (hb9.mono (by (try simp) <;> omega))); repeat (first | exact Below.refl _ _ | refine Below.alloc ?_ (by (try simp) <;> omega) _ | refine Below.setCell ?_ (by (try simp) <;> omega) _)⟩
          clear hb9
          go_wp2
          go_ret
          exact ⟨rfl, HB9.out⟩
      · subst hf
        by_cases ei3 : i3 = 0
        · subst ei3
          by_cases ei4 : i4 = 0
          · subst ei4
            by_cases emo : more < h
            · skip
              clear HF2
              go_wp2_with fail
              refine (HAW.out _).mono ?_
              rintro en w9 ⟨rfl, hb9⟩
              have HB9 : Kp (Below w.heap.size w w9) := ⟨by have := HB7.out.size; refine HB7.out.trans (Below.trans ?_ (hb9.mono (by (try simp) <;> omega))); repeat (first | exact Below.refl _ _ | refine Below.alloc ?_ (by (try simp) <;> omega) _ | refine Below.setCell ?_ (by (try simp) <;> omega) _)⟩
              clear hb9
              go_wp2
              go_ret
              exact ⟨rfl, HB9.out⟩
            · skip
              clear HF2
              go_wp2_with fail
              refine (HAW.out _).mono ?_
              rintro en w9 ⟨rfl, hb9⟩
              have HB9 : Kp (Below w.heap.size w w9) := ⟨by have := HB7.out.size; refine HB7.out.trans (Below.trans ?_ (hb9.mono (by (try simp) <;> omega))); repeat (first | exact Below.refl _ _ | refine Below.alloc ?_ (by (try simp) <;> omega) _ | refine Below.setCell ?_ (by (try simp) <;> omega) _)⟩
              clear hb9
              go_wp2
              go_ret
              exact ⟨rfl, HB9.out⟩
          · have qi4 : (i4 != (0 : Int)) = true := by simp [ei4]
            clear HF2
            go_wp2_with fail
            refine (HAW.out _).mono ?_
            rintro en w9 ⟨rfl, hb9⟩
            have HB9 : Kp (Below w.heap.size w w9) := ⟨by have := HB7.out.size; refine HB7.out.trans (Below.trans ?_ (hb9.mono (by (try simp) <;> omega))); repeat (first | exact Below.refl _ _ | refine Below.alloc ?_ (by (try simp) <;> omega) _ | refine Below.setCell ?_ (by (try simp) <;> omega) _)⟩
            clear hb9
            go_wp2
            go_ret
            exact ⟨rfl, HB9.out⟩
        · have qi3 : (i3 != (0 : Int)) = true := by simp [ei3]
          clear HF2
          go_wp2_with fail
          refine (HAW.out _).mono ?_
          rintro en w9 ⟨rfl, hb9⟩
          have HB9 : Kp (Below w.heap.size w w9) := ⟨by have := HB7.out.size; refine HB7.out.trans (Below.trans ?_ (hb9.mono (by (try simp) <;> omega))); repeat (first | exact Below.refl _ _ | refine Below.alloc ?_ (by (try simp) <;> omega) _ | refine Below.setCell ?_ (by (try simp) <;> omega) _)⟩
          clear hb9
          go_wp2
          go_ret
          exact ⟨rfl, HB9.out⟩
      · subst hf
        by_cases ei3 : i3 = 0
        · subst ei3
          by_cases ei4 : i4 = 0
          · subst ei4
            by_cases emo : more < h
            · skip
              clear HF2
              go_wp2_with fail
              refine (HAW.out _).mono ?_
              rintro en w9 ⟨rfl, hb9⟩
              have HB9 : Kp (Below w.heap.size w w9) := ⟨by have := HB7.out.size; refine HB7.out.trans (Below.trans ?_ (hb9.mono (by (try simp) <;> omega))); repeat (first | exact Below.refl _ _ | refine Below.alloc ?_ (by (try simp) <;> omega) _ | refine Below.setCell ?_ (by (try simp) <;> omega) _)⟩
              clear hb9
              go_wp2
              go_ret
              exact ⟨rfl, HB9.out⟩
            · skip
              cases s3 with
              | true =>
                clear HF2
                go_wp2_with fail
                refine (HAW.out _).mono ?_
                rintro en w9 ⟨rfl, hb9⟩
                have HB9 : Kp (Below w.heap.size w w9) := ⟨by have := HB7.out.size; refine HB7.out.trans (Below.trans ?_ (hb9.mono (by (try simp) <;> omega))); repeat (first | exact Below.refl _ _ | refine Below.alloc ?_ (by (try simp) <;> omega) _ | refine Below.setCell ?_ (by (try simp) <;> omega) _)⟩
                clear hb9
                go_wp2
                go_ret
                exact ⟨rfl, HB9.out⟩
              | false =>
                clear HF2
                go_wp2_with fail
                refine (HAW.out _).mono ?_
                rintro en w9 ⟨rfl, hb9⟩
                have HB9 : Kp (Below w.heap.size w w9) := ⟨by have := HB7.out.size; refine HB7.out.trans (Below.trans ?_ (hb9.mono (by (try simp) <;> omega))); repeat (first | exact Below.refl _ _ | refine Below.alloc ?_ (by (try simp) <;> omega) _ | refine Below.setCell ?_ (by (try simp) <;> omega) _)⟩
                clear hb9
                go_wp2
                go_ret
                exact ⟨rfl, HB9.out⟩
          · have qi4 : (i4 != (0 : Int)) = true := by simp [ei4]
            clear HF2
            go_wp2_with fail
            refine (HAW.out _).mono ?_
            rintro en w9 ⟨rfl, hb9⟩
            have HB9 : Kp (Below w.heap.size w w9) := ⟨by have := HB7.out.size; refine HB7.out.trans (Below.trans ?_ (hb9.mono (by (try simp) <;> omega))); repeat (first | exact Below.refl _ _ | refine Below.alloc ?_ (by (try simp) <;> omega) _ | refine Below.setCell ?_ (by (try simp) <;> omega) _)⟩
            clear hb9
            go_wp2
            go_ret
            exact ⟨rfl, HB9.out⟩
        · have qi3 : (i3 != (0 : Int)) = true := by simp [ei3]
          clear HF2
          go_wp2_with fail
          refine (HAW.out _).mono ?_
          rintro en w9 ⟨rfl, hb9⟩
          have HB9 : Kp (Below w.heap.size w w9) := ⟨by have := HB7.out.size; refine HB7.out.trans (Below.trans ?_ (hb9.mono (by (try simp) <;> omega))); repeat (first | exact Below.refl _ _ | refine Below.alloc ?_ (by (try simp) <;> omega) _ | refine Below.setCell ?_ (by (try simp) <;> omega) _)⟩
          clear hb9
          go_wp2
          go_ret
          exact ⟨rfl, HB9.out⟩
  · have j0 : (LE == (0 : Int)) = false := by simp [hE]
    clear hE HF1 HS1 HS2 HW
    go_wp2_with fail
    refine (HS3.out _ HB3.out).mono ?_
    rintro en w4 ⟨rfl, hb4⟩
    clear HS3
    have HB4 : Kp (Below w.heap.size w w4) := ⟨Below.trans (by repeat (first | refine Below.alloc ?_ (by have := HB3.out.size; (try simp) <;> omega) _ | refine bDrewN ?_ _ | refine Below.drew ?_ | refine Below.setCell ?_ (by have := HB3.out.size; (try simp) <;> omega) _ | exact HB3.out)) (hb4.mono (by have := HB3.out.size; (try simp) <;> omega))⟩
    have hz4_0 : w.heap.size < w4.heap.size := by have := hb4.size; (try simp at this); omega
    have hz4_1 : w.heap.size + 1 < w4.heap.size := by have := hb4.size; (try simp at this); omega
    obtain ⟨hc, hf⟩ := bcell hb4
    have c4_0_0 : w4.cell? ⟨w.heap.size, 0, none⟩ = some (.int .i64 wd) := (hc _ _ (by (try simp) <;> omega)).trans (by go_simp)
    have c4_0_1 : w4.cell? ⟨w.heap.size, 1, none⟩ = some (.int .i64 dp) := (hc _ _ (by (try simp) <;> omega)).trans (by go_simp)
    have c4_0_2 : w4.cell? ⟨w.heap.size, 2, none⟩ = some ((.slice g M c)) := (hc _ _ (by (try simp) <;> omega)).trans (by go_simp)
    have z4_0 : ∀ j, w4.frozen? ⟨w.heap.size, j, none⟩ = false := fun j => (hf _ _ (by (try simp) <;> omega)).trans (by go_simp)
    have c4_1_0 : w4.cell? ⟨w.heap.size + 1, 0, none⟩ = some (.int .i64 ex) := (hc _ _ (by (try simp) <;> omega)).trans (by go_simp)
    have c4_1_1 : w4.cell? ⟨w.heap.size + 1, 1, none⟩ = some (.int .i64 eb) := (hc _ _ (by (try simp) <;> omega)).trans (by go_simp)
    have c4_1_2 : w4.cell? ⟨w.heap.size + 1, 2, none⟩ = some (.int .i64 eh) := (hc _ _ (by (try simp) <;> omega)).trans (by go_simp)
    have z4_1 : ∀ j, w4.frozen? ⟨w.heap.size + 1, j, none⟩ = false := fun j => (hf _ _ (by (try simp) <;> omega)).trans (by go_simp)
    clear hc hf hb4
    go_wp2_with fail
    refine (HS4.out _ HB4.out).mono ?_
    rintro en w5 ⟨rfl, hb5⟩
    clear HS4
    have HB5 : Kp (Below w.heap.size w w5) := ⟨Below.trans (by repeat (first | refine Below.alloc ?_ (by have := HB4.out.size; (try simp) <;> omega) _ | refine bDrewN ?_ _ | refine Below.drew ?_ | refine Below.setCell ?_ (by have := HB4.out.size; (try simp) <;> omega) _ | exact HB4.out)) (hb5.mono (by have := HB4.out.size; (try simp) <;> omega))⟩
    have hz5_0 : w.heap.size < w5.heap.size := by have := hb5.size; (try simp at this); omega
    have hz5_1 : w.heap.size + 1 < w5.heap.size := by have := hb5.size; (try simp at this); omega
    obtain ⟨hc, hf⟩ := bcell hb5
    have c5_0_0 : w5.cell? ⟨w.heap.size, 0, none⟩ = some (.int .i64 wd) := (hc _ _ (by (try simp) <;> omega)).trans (by go_simp)
    have c5_0_1 : w5.cell? ⟨w.heap.size, 1, none⟩ = some (.int .i64 dp) := (hc _ _ (by (try simp) <;> omega)).trans (by go_simp)
    have c5_0_2 : w5.cell? ⟨w.heap.size, 2, none⟩ = some ((.slice g M c)) := (hc _ _ (by (try simp) <;> omega)).trans (by go_simp)
    have z5_0 : ∀ j, w5.frozen? ⟨w.heap.size, j, none⟩ = false := fun j => (hf _ _ (by (try simp) <;> omega)).trans (by go_simp)
    have c5_1_0 : w5.cell? ⟨w.heap.size + 1, 0, none⟩ = some (.int .i64 ex) := (hc _ _ (by (try simp) <;> omega)).trans (by go_simp)
    have c5_1_1 : w5.cell? ⟨w.heap.size + 1, 1, none⟩ = some (.int .i64 eb) := (hc _ _ (by (try simp) <;> omega)).trans (by go_simp)
    have c5_1_2 : w5.cell? ⟨w.heap.size + 1, 2, none⟩ = some (.int .i64 eh) := (hc _ _ (by (try simp) <;> omega)).trans (by go_simp)
    have z5_1 : ∀ j, w5.frozen? ⟨w.heap.size + 1, j, none⟩ = false := fun j => (hf _ _ (by (try simp) <;> omega)).trans (by go_simp)
    clear hc hf hb5
    rcases HF2.out with hf | hf | hf | hf | hf
    · have j3 : (i3 != (0 : Int)) = true := by simp [hf]
      clear HF2
      go_wp2_with fail
      refine (HAW.out _).mono ?_
      rintro en w9 ⟨rfl, hb9⟩
      have HB9 : Kp (Below w.heap.size w w9) := ⟨by have := HB5.out.size; refine HB5.out.trans (Below.trans ?_ (hb9.mono (by (try simp) <;> omega))); repeat (first | exact Below.refl _ _ | refine Below.alloc ?_ (by (try simp) <;> omega) _ | refine Below.setCell ?_ (by (try simp) <;> omega) _)⟩
      clear hb9
      go_wp2
      go_ret
      exact ⟨rfl, HB9.out⟩
    · have j4 : (i4 != (0 : Int)) = true := by simp [hf]
      by_cases ei3 : i3 = 0
      · subst ei3
        clear HF2
        go_wp2_with fail
        refine (HAW.out _).mono ?_
        rintro en w9 ⟨rfl, hb9⟩
        have HB9 : Kp (Below w.heap.size w w9) := ⟨by have := HB5.out.size; refine HB5.out.trans (Below.trans ?_ (hb9.mono (by (try simp) <;> omega))); repeat (first | exact Below.refl _ _ | refine Below.alloc ?_ (by (try simp) <;> omega) _ | refine Below.setCell ?_ (by (try simp) <;> omega) _)⟩
        clear hb9
        go_wp2
        go_ret
        exact ⟨rfl, HB9.out⟩
      · have qi3 : (i3 != (0 : Int)) = true := by simp [ei3]
        clear HF2
        go_wp2_with fail
        refine (HAW.out _).mono ?_
        rintro en w9 ⟨rfl, hb9⟩
        have HB9 : Kp (Below w.heap.size w w9) := ⟨by have := HB5.out.size; refine HB5.out.trans (Below.trans ?_ (hb9.mono (by (try simp) <;> omega))); repeat (first | exact Below.refl _ _ | refine Below.alloc ?_ (by (try simp) <;> omega) _ | refine Below.setCell ?_ (by (try simp) <;> omega) _)⟩
        clear hb9
        go_wp2
        go_ret
        exact ⟨rfl, HB9.out⟩
    · have j5 : more < h := hf
      by_cases ei3 : i3 = 0
      · subst ei3
        by_cases ei4 : i4 = 0
        · subst ei4
          clear HF2
          go_wp2_with fail
          refine (HAW.out _).mono ?_
          rintro en w9 ⟨rfl, hb9⟩
          have HB9 : Kp (Below w.heap.size w w9) := ⟨by have := HB5.out.size; refine HB5.out.trans (Below.trans ?_ (hb9.mono (by (try simp) <;> omega))); repeat (first | exact Below.refl _ _ | refine Below.alloc ?_ (by (try simp) <;> omega) _ | refine Below.setCell ?_ (by (try simp) <;> omega) _)⟩
          clear hb9
          go_wp2
          go_ret
          exact ⟨rfl, HB9.out⟩
        · have qi4 : (i4 != (0 : Int)) = true := by simp [ei4]
          clear HF2
          go_wp2_with fail
          refine (HAW.out _).mono ?_
          rintro en w9 ⟨rfl, hb9⟩
          have HB9 : Kp (Below w.heap.size w w9) := ⟨by have := HB5.out.size; refine HB5.out.trans (Below.trans ?_ (hb9.mono (by (try simp) <;> omega))); repeat (first | exact Below.refl _ _ | refine Below.alloc ?_ (by (try simp) <;> omega) _ | refine Below.setCell ?_ (by (try simp) <;> omega) _)⟩
          clear hb9
          go_wp2
          go_ret
          exact ⟨rfl, HB9.out⟩
      · have qi3 : (i3 != (0 : Int)) = true := by simp [ei3]
        clear HF2
        go_wp2_with fail
        refine (HAW.out _).mono ?_
        rintro en w9 ⟨rfl, hb9⟩
        have HB9 : Kp (Below w.heap.size w w9) := ⟨by have := HB5.out.size; refine HB5.out.trans (Below.trans ?_ (hb9.mono (by (try simp) <;> omega))); repeat (first | exact Below.refl _ _ | refine Below.alloc ?_ (by (try simp) <;> omega) _ | refine Below.setCell ?_ (by (try simp) <;> omega) _)⟩
        clear hb9
        go_wp2
        go_ret
        exact ⟨rfl, HB9.out⟩
    · subst hf
      by_cases ei3 : i3 = 0
      · subst ei3
        by_cases ei4 : i4 = 0
        · subst ei4
          by_cases emo : more < h
          · skip
            clear HF2
            go_wp2_with fail
            refine (HAW.out _).mono ?_
            rintro en w9 ⟨rfl, hb9⟩
            have HB9 : Kp (Below w.heap.size w w9) := ⟨by have := HB5.out.size; refine HB5.out.trans (Below.trans ?_ (hb9.mono (by (try simp) <;> omega))); repeat (first | exact Below.refl _ _ | refine Below.alloc ?_ (by (try simp) <;> omega) _ | refine Below.setCell ?_ (by (try simp) <;> omega) _)⟩
            clear hb9
            go_wp2
            go_ret
            exact ⟨rfl, HB9.out⟩
          · skip
            clear HF2
            go_wp2_with fail
            refine (HAW.out _).mono ?_
            rintro en w9 ⟨rfl, hb9⟩
            have HB9 : Kp (Below w.heap.size w w9) := ⟨by have := HB5.out.size; refine HB5.out.trans (Below.trans ?_ (hb9.mono (by (try simp) <;> omega))); repeat (first | exact Below.refl _ _ | refine Below.alloc ?_ (by (try simp) <;> omega) _ | refine Below.setCell ?_ (by (try simp) <;> omega) _)⟩
            clear hb9
            go_wp2
            go_ret
            exact ⟨rfl, HB9.out⟩
        · have qi4 : (i4 != (0 : Int)) = true := by simp [ei4]
          clear HF2
          go_wp2_with fail
          refine (HAW.out _).mono ?_
          rintro en w9 ⟨rfl, hb9⟩
          have HB9 : Kp (Below w.heap.size w w9) := ⟨by have := HB5.out.size; refine HB5.out.trans (Below.trans ?_ (hb9.mono (by (try simp) <;> omega))); repeat (first | exact Below.refl _ _ | refine Below.alloc ?_ (by (try simp) <;> omega) _ | refine Below.setCell ?_ (by (try simp) <;> omega) _)⟩
          clear hb9
          go_wp2
          go_ret
          exact ⟨rfl, HB9.out⟩
      · have qi3 : (i3 != (0 : Int)) = true := by simp [ei3]
        clear HF2
        go_wp2_with fail
        refine (HAW.out _).mono ?_
        rintro en w9 ⟨rfl, hb9⟩
        have HB9 : Kp (Below w.heap.size w w9) := ⟨by have := HB5.out.size; refine HB5.out.trans (Below.trans ?_ (hb9.mono (by (try simp) <;> omega))); repeat (first | exact Below.refl _ _ | refine Below.alloc ?_ (by (try simp) <;> omega) _ | refine Below.setCell ?_ (by (try simp) <;> omega) _)⟩
        clear hb9
        go_wp2
        go_ret
        exact ⟨rfl, HB9.out⟩
    · subst hf
      by_cases ei3 : i3 = 0
      · subst ei3
        by_cases ei4 : i4 = 0
        · subst ei4
          by_cases emo : more < h
          · skip
            clear HF2
            go_wp2_with fail
            refine (HAW.out _).mono ?_
            rintro en w9 ⟨rfl, hb9⟩
            have HB9 : Kp (Below w.heap.size w w9) := ⟨by have := HB5.out.size; refine HB5.out.trans (Below.trans ?_ (hb9.mono (by (try simp) <;> omega))); repeat (first | exact Below.refl _ _ | refine Below.alloc ?_ (by (try simp) <;> omega) _ | refine Below.setCell ?_ (by (try simp) <;> omega) _)⟩
            clear hb9
            go_wp2
            go_ret
            exact ⟨rfl, HB9.out⟩
          · skip
            cases s3 with
            | true =>
              clear HF2
              go_wp2_with fail
              refine (HAW.out _).mono ?_
              rintro en w9 ⟨rfl, hb9⟩
              have HB9 : Kp (Below w.heap.size w w9) := ⟨by have := HB5.out.size; refine HB5.out.trans (Below.trans ?_ (hb9.mono (by (try simp) <;> omega))); repeat (first | exact Below.refl _ _ | refine Below.alloc ?_ (by (try simp) <;> omega) _ | refine Below.setCell ?_ (by (try simp) <;> omega) _)⟩
              clear hb9
              go_wp2
              go_ret
              exact ⟨rfl, HB9.out⟩
            | false =>
              clear HF2
              go_wp2_with fail
              refine (HAW.out _).mono ?_
              rintro en w9 ⟨rfl, hb9⟩
              have HB9 : Kp (Below w.heap.size w w9) := ⟨by have := HB5.out.size; refine HB5.out.trans (Below.trans ?_ (hb9.mono (by (try simp) <;> omega))); repeat (first | exact Below.refl _ _ | refine Below.alloc ?_ (by (try simp) <;> omega) _ | refine Below.setCell ?_ (by (try simp) <;> omega) _)⟩
              clear hb9
              go_wp2
              go_ret
              exact ⟨rfl, HB9.out⟩
        · have qi4 : (i4 != (0 : Int)) = true := by simp [ei4]
          clear HF2
          go_wp2_with fail
          refine (HAW.out _).mono ?_
          rintro en w9 ⟨rfl, hb9⟩
          have HB9 : Kp (Below w.heap.size w w9) := ⟨by have := HB5.out.size; refine HB5.out.trans (Below.trans ?_ (hb9.mono (by (try simp) <;> omega))); repeat (first | exact Below.refl _ _ | refine Below.alloc ?_ (by (try simp) <;> omega) _ | refine Below.setCell ?_ (by (try simp) <;> omega) _)⟩
          clear hb9
          go_wp2
          go_ret
          exact ⟨rfl, HB9.out⟩
      · have qi3 : (i3 != (0 : Int)) = true := by simp [ei3]
        clear HF2
        go_wp2_with fail
        refine (HAW.out _).mono ?_
        rintro en w9 ⟨rfl, hb9⟩
        have HB9 : Kp (Below w.heap.size w w9) := ⟨by have := HB5.out.size; refine HB5.out.trans (Below.trans ?_ (hb9.mono (by (try simp) <;> omega))); repeat (first | exact Below.refl _ _ | refine Below.alloc ?_ (by (try simp) <;> omega) _ | refine Below.setCell ?_ (by (try simp) <;> omega) _)⟩
        clear hb9
        go_wp2
        go_ret
        exact ⟨rfl, HB9.out⟩
def lsA (E : Int) (n : Nat) : Int := if E = 0 then (if n ≤ 3000 then (n : Int) else 0) else 0
def lsE (E : Int) (n : Nat) : Int := if E = 0 then (if n ≤ 3000 then 0 else 8) else E
theorem leastV_eq (E : Int) (n : Nat) : leastV E n = .tuple #[.int .i64 (lsA E n), .int .i64 (lsE E n)] := by
  unfold leastV lsA lsE
  split
  · split <;> rfl
  · rfl
theorem seenV_thr (E : Int) (o : Option (Int × Int)) : seenV E o = .tuple #[.bool (decide (E = 0) && o.isNone), .int .i64 E] := by
  unfold seenV
  split
  · subst_vars; simp
  · rename_i h; simp [h]
theorem lst_true {p : Nat → Bool} (h : lstH p ≤ 3000) : p (lstH p) = true ∧ ∀ j : Nat, j < lstH p → p j = false := by
  unfold lstH at *
  cases hf : (List.range 3001).find? p with
  | none => rw [hf] at h; simp at h
  | some k =>
    obtain ⟨h1, -, h2⟩ := List.find?_range_eq_some.1 hf
    exact ⟨h1, fun j hj => by simpa using h2 j hj⟩
theorem ask_h {wd dp : Int} {L : List Int} {e : Ey} {x y h : Int} (h0 : askE wd dp L e x y 0 = 0) (h1 : 0 ≤ h) (h2 : h ≤ 3000) : askE wd dp L e x y h = 0 := by
  unfold askE at *
  rw [inB_iff.2 ⟨h1, h2⟩, Bool.and_true]
  rwa [show inB 0 3000 0 = true from rfl, Bool.and_true] at h0
theorem law_higher (wd dp : Int) (v : Value) (L : List Int) (e : Ey) (x y h more : Int) (w : World) (hv : IS w v L) (hl : L.length ≤ 9223372036854775807) :
    Calls Try.prog 5 #[.agg #[.int .i64 wd, .int .i64 dp, v], .agg #[.int .i64 e.x, .int .i64 e.b, .int .i64 e.h], .int .i64 x, .int .i64 y, .int .i64 h, .int .i64 more] w fun en w' => en = .returned (.bool true) ∧ Below w.heap.size w w' := by
  have HL1 := Kp.mk fun W (hW : Below w.heap.size w W) => Least_any wd dp v L e x y W (hv.below hW) hl
  have HL2 := Kp.mk fun W (hW : Below w.heap.size w W) => rLeast_any wd dp v L e x y W (hv.below hW) hl
  have HS := fun q => Kp.mk fun W (hW : Below w.heap.size w W) => Seen_any wd dp v L e x y q W (hv.below hW) hl
  simp only [seenV_thr, leastV_eq] at HL1 HL2 HS
  obtain ⟨g, c, rfl⟩ := hv.shape
  refine law_higher_st wd dp e.x e.b e.h x y h more _ _ _ g L.length c _ _ _ _ _ _ _ _ w HL1 HL2 (HS _) (HS _) (HS h) (HS more) ⟨rfl⟩ ⟨fun k => ?_⟩ ⟨?_⟩
  · have ka : askE wd dp L e x y 0 = 0 ∧ lstH (freeB wd L e x y.toNat) ≤ 3000 := by
      unfold lsE at k
      split at k
      · rename_i h0
        split at k
        · rename_i h1
          exact ⟨h0, h1⟩
        · omega
      · rename_i h0
        exact absurd k h0
    obtain ⟨k0, k1⟩ := ka
    obtain ⟨m1, m2⟩ := lst_true k1
    have hA : lsA (askE wd dp L e x y 0) (lstH (freeB wd L e x y.toNat)) = ((lstH (freeB wd L e x y.toNat) : Nat) : Int) := by
      unfold lsA
      rw [if_pos k0, if_pos k1]
    rw [hA]
    generalize lstH (freeB wd L e x y.toNat) = n at *
    refine ⟨ask_h k0 (by omega) (by omega), ?_, ?_⟩
    · rw [ask_h k0 (by omega) (by omega)]
      unfold freeB at m1
      rw [m1]
      rfl
    · rw [IntWalk.i64_in ((n : Int) - 1) (by omega)]
      by_cases hn : n = 0
      · left
        intro q
        have := (askE_zero q).2.2.2.2
        omega
      · right
        have := m2 (n - 1) (by omega)
        unfold freeB at this
        rw [show ((n - 1 : Nat) : Int) = (n : Int) - 1 by omega] at this
        rw [this, Bool.and_false]
  · by_cases a1 : askE wd dp L e x y h = 0
    · by_cases a2 : askE wd dp L e x y more = 0
      · by_cases a3 : more < h
        · exact .inr (.inr (.inl a3))
        · right; right; right
          rw [a1, a2]
          cases hs : (hid wd L e x y.toNat h).isNone with
          | false => left; simp
          | true =>
            right
            have := hid_mono (h2 := more) (by have := (eyB_iff.1 (askE_zero a1).2.1).2.1; omega) (by omega) (Option.isNone_iff_eq_none.1 hs)
            rw [this]
            rfl
      · exact .inr (.inl a2)
    · exact .inl a1
end Go.Proofs.Ytjnggchljilooaa.Sc
