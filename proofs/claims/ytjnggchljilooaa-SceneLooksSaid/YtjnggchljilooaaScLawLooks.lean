/-
  WALKS (layer 7, scene): the law SceneLooks.
-/
import Derived.Test.YtjnggchljilooaaScLooksA
import Derived.Test.YtjnggchljilooaaScAwake
namespace Go.Proofs.Ytjnggchljilooaa.Sc
open Go Go.RowKit Go.Sort

def ratN (E : Int) (n d : Nat) : Int := if E = 0 then (n / Nat.gcd n d : Nat) else 0
def ratD (E : Int) (n d : Nat) : Int := if E = 0 then (d / Nat.gcd n d : Nat) else 0
theorem looksV_eq (E : Int) (n d : Nat) : looksV E n d = .tuple #[.agg #[.int .i64 (ratN E n d), .int .i64 (ratD E n d)], .int .i64 E] := by
  unfold looksV ratN ratD
  split
  · subst_vars; rfl
  · rfl

set_option maxHeartbeats 4000000 in
theorem law_looks_st (wd dp ex eb eh y h to : Int) (g : Option Addr) (M c : Nat) (E1 E2 a0 a1 c0 c1 : Int) (w : World)
    (HL : Kp (∀ W, Below w.heap.size w W → Calls Try.prog 42 #[.agg #[.int .i64 wd, .int .i64 dp, .slice g M c], .agg #[.int .i64 ex, .int .i64 eb, .int .i64 eh], .int .i64 y, .int .i64 h] W fun e w' => e = .returned (.tuple #[.agg #[.int .i64 a0, .int .i64 a1], .int .i64 E1]) ∧ Below W.heap.size W w'))
    (HR : Kp (∀ W, Below w.heap.size w W → Calls Try.prog 43 #[.agg #[.int .i64 wd, .int .i64 dp, .slice g M c], .agg #[.int .i64 ex, .int .i64 eb, .int .i64 eh], .int .i64 y, .int .i64 h] W fun e w' => e = .returned (.tuple #[.agg #[.int .i64 a0, .int .i64 a1], .int .i64 E1]) ∧ Below W.heap.size W w'))
    (HS : Kp (∀ W, Below w.heap.size w W → Calls Try.prog 44 #[.agg #[.int .i64 wd, .int .i64 dp, .slice g M c], .agg #[.int .i64 ex, .int .i64 eb, .int .i64 eh], .int .i64 y, .int .i64 h, .int .i64 to] W fun e w' => e = .returned (.tuple #[.agg #[.int .i64 c0, .int .i64 c1], .int .i64 E2]) ∧ Below W.heap.size W w'))
    (HT : Kp (∀ W, Below w.heap.size w W → Calls Try.prog 45 #[.agg #[.int .i64 wd, .int .i64 dp, .slice g M c], .agg #[.int .i64 ex, .int .i64 eb, .int .i64 eh], .int .i64 y, .int .i64 h, .int .i64 to] W fun e w' => e = .returned (.tuple #[.agg #[.int .i64 c0, .int .i64 c1], .int .i64 E2]) ∧ Below W.heap.size W w'))
    (HF : Kp (E2 = 0 → ∃ P Q R S T : Int, IntKind.i64.wrap (c0 * eb) = P ∧ IntKind.i64.wrap (P * a1) = Q ∧ IntKind.i64.wrap (a0 * c1) = R ∧ IntKind.i64.wrap (to + eb) = S ∧ IntKind.i64.wrap (R * S) = T ∧ Q = T)) :
    Calls Try.prog 8 #[.agg #[.int .i64 wd, .int .i64 dp, .slice g M c], .agg #[.int .i64 ex, .int .i64 eb, .int .i64 eh], .int .i64 y, .int .i64 h, .int .i64 to] w fun e w' => e = .returned (.bool true) ∧ Below w.heap.size w w' := by
  have HAW := Kp.mk (fun W => awake_any W)
  go_enter Try.func8, Try.ntmps8
  by_cases hM : (600 : Int) < (M : Int)
  · go_wp2_with fail
    refine (HAW.out _).mono ?_
    rintro en w1 ⟨rfl, hb1⟩
    have HB1 : Kp (Below w.heap.size w w1) := ⟨Below.trans (by repeat (first | exact Below.refl _ _ | refine Below.alloc ?_ (by simp <;> omega) _ | refine bDrewN ?_ _ | refine Below.drew ?_)) (hb1.mono (by simp <;> omega))⟩
    clear hb1
    go_wp2
    go_ret
    exact ⟨rfl, HB1.out⟩
  · go_wp2_with fail
    refine (HL.out _ (by repeat (first | exact Below.refl _ _ | refine Below.alloc ?_ (by simp <;> omega) _ | refine bDrewN ?_ _ | refine Below.drew ?_))).mono ?_
    rintro en w1 ⟨rfl, hb1⟩
    have HB1 : Kp (Below w.heap.size w w1) := ⟨Below.trans (by repeat (first | refine Below.alloc ?_ (by (try simp) <;> omega) _ | refine bDrewN ?_ _ | refine Below.drew ?_ | refine Below.setCell ?_ (by (try simp) <;> omega) _ | exact Below.refl _ _)) (hb1.mono (by (try simp) <;> omega))⟩
    have hz1_0 : w.heap.size < w1.heap.size := by have := hb1.size; (try simp at this); omega
    have hz1_1 : w.heap.size + 1 < w1.heap.size := by have := hb1.size; (try simp at this); omega
    obtain ⟨hc, hf⟩ := bcell hb1
    have c1_0_0 : w1.cell? ⟨w.heap.size, 0, none⟩ = some (.int .i64 wd) := (hc _ _ (by (try simp) <;> omega)).trans (by go_simp)
    have c1_0_1 : w1.cell? ⟨w.heap.size, 1, none⟩ = some (.int .i64 dp) := (hc _ _ (by (try simp) <;> omega)).trans (by go_simp)
    have c1_0_2 : w1.cell? ⟨w.heap.size, 2, none⟩ = some ((.slice g M c)) := (hc _ _ (by (try simp) <;> omega)).trans (by go_simp)
    have z1_0 : ∀ j, w1.frozen? ⟨w.heap.size, j, none⟩ = false := fun j => (hf _ _ (by (try simp) <;> omega)).trans (by go_simp)
    have c1_1_0 : w1.cell? ⟨w.heap.size + 1, 0, none⟩ = some (.int .i64 ex) := (hc _ _ (by (try simp) <;> omega)).trans (by go_simp)
    have c1_1_1 : w1.cell? ⟨w.heap.size + 1, 1, none⟩ = some (.int .i64 eb) := (hc _ _ (by (try simp) <;> omega)).trans (by go_simp)
    have c1_1_2 : w1.cell? ⟨w.heap.size + 1, 2, none⟩ = some (.int .i64 eh) := (hc _ _ (by (try simp) <;> omega)).trans (by go_simp)
    have z1_1 : ∀ j, w1.frozen? ⟨w.heap.size + 1, j, none⟩ = false := fun j => (hf _ _ (by (try simp) <;> omega)).trans (by go_simp)
    clear hc hf hb1
    go_wp2_with fail
    refine (HR.out _ (by have := HB1.out.size; refine HB1.out.trans ?_; repeat (first | exact Below.refl _ _ | refine Below.alloc ?_ (by (try simp) <;> omega) _ | refine Below.setCell ?_ (by (try simp) <;> omega) _))).mono ?_
    rintro en w2 ⟨rfl, hb2⟩
    have HB2 : Kp (Below w.heap.size w w2) := ⟨Below.trans (by repeat (first | refine Below.alloc ?_ (by have := HB1.out.size; (try simp) <;> omega) _ | refine bDrewN ?_ _ | refine Below.drew ?_ | refine Below.setCell ?_ (by have := HB1.out.size; (try simp) <;> omega) _ | exact HB1.out)) (hb2.mono (by have := HB1.out.size; (try simp) <;> omega))⟩
    have hz2_0 : w.heap.size < w2.heap.size := by have := hb2.size; (try simp at this); omega
    have hz2_1 : w.heap.size + 1 < w2.heap.size := by have := hb2.size; (try simp at this); omega
    have hz2_2 : w1.heap.size < w2.heap.size := by have := hb2.size; (try simp at this); omega
    obtain ⟨hc, hf⟩ := bcell hb2
    have c2_0_0 : w2.cell? ⟨w.heap.size, 0, none⟩ = some (.int .i64 wd) := (hc _ _ (by (try simp) <;> omega)).trans (by go_simp)
    have c2_0_1 : w2.cell? ⟨w.heap.size, 1, none⟩ = some (.int .i64 dp) := (hc _ _ (by (try simp) <;> omega)).trans (by go_simp)
    have c2_0_2 : w2.cell? ⟨w.heap.size, 2, none⟩ = some ((.slice g M c)) := (hc _ _ (by (try simp) <;> omega)).trans (by go_simp)
    have z2_0 : ∀ j, w2.frozen? ⟨w.heap.size, j, none⟩ = false := fun j => (hf _ _ (by (try simp) <;> omega)).trans (by go_simp)
    have c2_1_0 : w2.cell? ⟨w.heap.size + 1, 0, none⟩ = some (.int .i64 ex) := (hc _ _ (by (try simp) <;> omega)).trans (by go_simp)
    have c2_1_1 : w2.cell? ⟨w.heap.size + 1, 1, none⟩ = some (.int .i64 eb) := (hc _ _ (by (try simp) <;> omega)).trans (by go_simp)
    have c2_1_2 : w2.cell? ⟨w.heap.size + 1, 2, none⟩ = some (.int .i64 eh) := (hc _ _ (by (try simp) <;> omega)).trans (by go_simp)
    have z2_1 : ∀ j, w2.frozen? ⟨w.heap.size + 1, j, none⟩ = false := fun j => (hf _ _ (by (try simp) <;> omega)).trans (by go_simp)
    have c2_2_0 : w2.cell? ⟨w1.heap.size, 0, none⟩ = some (.int .i64 a0) := (hc _ _ (by (try simp) <;> omega)).trans (by go_simp)
    have c2_2_1 : w2.cell? ⟨w1.heap.size, 1, none⟩ = some (.int .i64 a1) := (hc _ _ (by (try simp) <;> omega)).trans (by go_simp)
    have z2_2 : ∀ j, w2.frozen? ⟨w1.heap.size, j, none⟩ = false := fun j => (hf _ _ (by (try simp) <;> omega)).trans (by go_simp)
    clear hc hf hb2
    clear HR HL
    go_wp2_with fail
    refine (HS.out _ (by have := HB2.out.size; refine HB2.out.trans ?_; repeat (first | exact Below.refl _ _ | refine Below.alloc ?_ (by (try simp) <;> omega) _ | refine Below.setCell ?_ (by (try simp) <;> omega) _))).mono ?_
    rintro en w3 ⟨rfl, hb3⟩
    have HB3 : Kp (Below w.heap.size w w3) := ⟨Below.trans (by repeat (first | refine Below.alloc ?_ (by have := HB2.out.size; (try simp) <;> omega) _ | refine bDrewN ?_ _ | refine Below.drew ?_ | refine Below.setCell ?_ (by have := HB2.out.size; (try simp) <;> omega) _ | exact HB2.out)) (hb3.mono (by have := HB2.out.size; (try simp) <;> omega))⟩
    have hz3_0 : w.heap.size < w3.heap.size := by have := hb3.size; (try simp at this); omega
    have hz3_1 : w.heap.size + 1 < w3.heap.size := by have := hb3.size; (try simp at this); omega
    have hz3_2 : w1.heap.size < w3.heap.size := by have := hb3.size; (try simp at this); omega
    have hz3_3 : w2.heap.size < w3.heap.size := by have := hb3.size; (try simp at this); omega
    obtain ⟨hc, hf⟩ := bcell hb3
    have c3_0_0 : w3.cell? ⟨w.heap.size, 0, none⟩ = some (.int .i64 wd) := (hc _ _ (by (try simp) <;> omega)).trans (by go_simp)
    have c3_0_1 : w3.cell? ⟨w.heap.size, 1, none⟩ = some (.int .i64 dp) := (hc _ _ (by (try simp) <;> omega)).trans (by go_simp)
    have c3_0_2 : w3.cell? ⟨w.heap.size, 2, none⟩ = some ((.slice g M c)) := (hc _ _ (by (try simp) <;> omega)).trans (by go_simp)
    have z3_0 : ∀ j, w3.frozen? ⟨w.heap.size, j, none⟩ = false := fun j => (hf _ _ (by (try simp) <;> omega)).trans (by go_simp)
    have c3_1_0 : w3.cell? ⟨w.heap.size + 1, 0, none⟩ = some (.int .i64 ex) := (hc _ _ (by (try simp) <;> omega)).trans (by go_simp)
    have c3_1_1 : w3.cell? ⟨w.heap.size + 1, 1, none⟩ = some (.int .i64 eb) := (hc _ _ (by (try simp) <;> omega)).trans (by go_simp)
    have c3_1_2 : w3.cell? ⟨w.heap.size + 1, 2, none⟩ = some (.int .i64 eh) := (hc _ _ (by (try simp) <;> omega)).trans (by go_simp)
    have z3_1 : ∀ j, w3.frozen? ⟨w.heap.size + 1, j, none⟩ = false := fun j => (hf _ _ (by (try simp) <;> omega)).trans (by go_simp)
    have c3_2_0 : w3.cell? ⟨w1.heap.size, 0, none⟩ = some (.int .i64 a0) := (hc _ _ (by (try simp) <;> omega)).trans (by go_simp)
    have c3_2_1 : w3.cell? ⟨w1.heap.size, 1, none⟩ = some (.int .i64 a1) := (hc _ _ (by (try simp) <;> omega)).trans (by go_simp)
    have z3_2 : ∀ j, w3.frozen? ⟨w1.heap.size, j, none⟩ = false := fun j => (hf _ _ (by (try simp) <;> omega)).trans (by go_simp)
    have c3_3_0 : w3.cell? ⟨w2.heap.size, 0, none⟩ = some (.int .i64 a0) := (hc _ _ (by (try simp) <;> omega)).trans (by go_simp)
    have c3_3_1 : w3.cell? ⟨w2.heap.size, 1, none⟩ = some (.int .i64 a1) := (hc _ _ (by (try simp) <;> omega)).trans (by go_simp)
    have z3_3 : ∀ j, w3.frozen? ⟨w2.heap.size, j, none⟩ = false := fun j => (hf _ _ (by (try simp) <;> omega)).trans (by go_simp)
    clear hc hf hb3
    clear HS
    go_wp2_with fail
    refine (HT.out _ (by have := HB3.out.size; refine HB3.out.trans ?_; repeat (first | exact Below.refl _ _ | refine Below.alloc ?_ (by (try simp) <;> omega) _ | refine Below.setCell ?_ (by (try simp) <;> omega) _))).mono ?_
    rintro en w4 ⟨rfl, hb4⟩
    have HB4 : Kp (Below w.heap.size w w4) := ⟨Below.trans (by repeat (first | refine Below.alloc ?_ (by have := HB3.out.size; (try simp) <;> omega) _ | refine bDrewN ?_ _ | refine Below.drew ?_ | refine Below.setCell ?_ (by have := HB3.out.size; (try simp) <;> omega) _ | exact HB3.out)) (hb4.mono (by have := HB3.out.size; (try simp) <;> omega))⟩
    have hz4_0 : w.heap.size < w4.heap.size := by have := hb4.size; (try simp at this); omega
    have hz4_1 : w.heap.size + 1 < w4.heap.size := by have := hb4.size; (try simp at this); omega
    have hz4_2 : w1.heap.size < w4.heap.size := by have := hb4.size; (try simp at this); omega
    have hz4_3 : w2.heap.size < w4.heap.size := by have := hb4.size; (try simp at this); omega
    have hz4_4 : w3.heap.size < w4.heap.size := by have := hb4.size; (try simp at this); omega
    obtain ⟨hc, hf⟩ := bcell hb4
    have c4_0_0 : w4.cell? ⟨w.heap.size, 0, none⟩ = some (.int .i64 wd) := (hc _ _ (by (try simp) <;> omega)).trans (by go_simp)
    have c4_0_1 : w4.cell? ⟨w.heap.size, 1, none⟩ = some (.int .i64 dp) := (hc _ _ (by (try simp) <;> omega)).trans (by go_simp)
    have c4_0_2 : w4.cell? ⟨w.heap.size, 2, none⟩ = some ((.slice g M c)) := (hc _ _ (by (try simp) <;> omega)).trans (by go_simp)
    have z4_0 : ∀ j, w4.frozen? ⟨w.heap.size, j, none⟩ = false := fun j => (hf _ _ (by (try simp) <;> omega)).trans (by go_simp)
    have c4_1_0 : w4.cell? ⟨w.heap.size + 1, 0, none⟩ = some (.int .i64 ex) := (hc _ _ (by (try simp) <;> omega)).trans (by go_simp)
    have c4_1_1 : w4.cell? ⟨w.heap.size + 1, 1, none⟩ = some (.int .i64 eb) := (hc _ _ (by (try simp) <;> omega)).trans (by go_simp)
    have c4_1_2 : w4.cell? ⟨w.heap.size + 1, 2, none⟩ = some (.int .i64 eh) := (hc _ _ (by (try simp) <;> omega)).trans (by go_simp)
    have z4_1 : ∀ j, w4.frozen? ⟨w.heap.size + 1, j, none⟩ = false := fun j => (hf _ _ (by (try simp) <;> omega)).trans (by go_simp)
    have c4_2_0 : w4.cell? ⟨w1.heap.size, 0, none⟩ = some (.int .i64 a0) := (hc _ _ (by (try simp) <;> omega)).trans (by go_simp)
    have c4_2_1 : w4.cell? ⟨w1.heap.size, 1, none⟩ = some (.int .i64 a1) := (hc _ _ (by (try simp) <;> omega)).trans (by go_simp)
    have z4_2 : ∀ j, w4.frozen? ⟨w1.heap.size, j, none⟩ = false := fun j => (hf _ _ (by (try simp) <;> omega)).trans (by go_simp)
    have c4_3_0 : w4.cell? ⟨w2.heap.size, 0, none⟩ = some (.int .i64 a0) := (hc _ _ (by (try simp) <;> omega)).trans (by go_simp)
    have c4_3_1 : w4.cell? ⟨w2.heap.size, 1, none⟩ = some (.int .i64 a1) := (hc _ _ (by (try simp) <;> omega)).trans (by go_simp)
    have z4_3 : ∀ j, w4.frozen? ⟨w2.heap.size, j, none⟩ = false := fun j => (hf _ _ (by (try simp) <;> omega)).trans (by go_simp)
    have c4_4_0 : w4.cell? ⟨w3.heap.size, 0, none⟩ = some (.int .i64 c0) := (hc _ _ (by (try simp) <;> omega)).trans (by go_simp)
    have c4_4_1 : w4.cell? ⟨w3.heap.size, 1, none⟩ = some (.int .i64 c1) := (hc _ _ (by (try simp) <;> omega)).trans (by go_simp)
    have z4_4 : ∀ j, w4.frozen? ⟨w3.heap.size, j, none⟩ = false := fun j => (hf _ _ (by (try simp) <;> omega)).trans (by go_simp)
    clear hc hf hb4
    clear HT
    by_cases hE : E2 = 0
    · obtain ⟨P, Q, R, S, T, k1, k2, k3, k4, k5, k6⟩ := HF.out hE
      subst hE k6
      go_wp2_with fail
      refine (HAW.out _).mono ?_
      rintro en w5 ⟨rfl, hb5⟩
      have HB5 : Kp (Below w.heap.size w w5) := ⟨by have := HB4.out.size; refine HB4.out.trans (Below.trans ?_ (hb5.mono (by (try simp) <;> omega))); repeat (first | exact Below.refl _ _ | refine Below.alloc ?_ (by (try simp) <;> omega) _ | refine Below.setCell ?_ (by (try simp) <;> omega) _)⟩
      clear hb5
      go_wp2
      go_ret
      exact ⟨rfl, HB5.out⟩
    · have i2 : (E2 != (0 : Int)) = true := by simp [hE]
      go_wp2_with fail
      refine (HAW.out _).mono ?_
      rintro en w5 ⟨rfl, hb5⟩
      have HB5 : Kp (Below w.heap.size w w5) := ⟨by have := HB4.out.size; refine HB4.out.trans (Below.trans ?_ (hb5.mono (by (try simp) <;> omega))); repeat (first | exact Below.refl _ _ | refine Below.alloc ?_ (by (try simp) <;> omega) _ | refine Below.setCell ?_ (by (try simp) <;> omega) _)⟩
      clear hb5
      go_wp2
      go_ret
      exact ⟨rfl, HB5.out⟩
end Go.Proofs.Ytjnggchljilooaa.Sc
