/-
  WALKS (layer 5, carve): valid blocks and views, by the reference.
-/
import Derived.Test.YtcjlijiifhggfaaCvRefC
namespace Go.Proofs.Ytcjlijiifhggfaa.Cv
open Go Go.RowKit Go.Sort

theorem rside_any (s : Int) (w : World) : Calls Try.prog 47 #[.int .i64 s, .int .i64 1, .int .i64 10] w fun e w' => e = .returned (.bool (sideB s)) ∧ w = w' := by
  have h := rwithin_any s 1 10 w
  have e : (decide ((1 : Int) ≤ s) && decide (s ≤ 10)) = sideB s := by
    rw [Bool.eq_iff_iff, side_iff]
    simp
  rwa [e] at h
theorem rValidBlock_any (s : Int) (g : Option Addr) (n c : Nat) (w : World) : Calls Try.prog 22 #[.agg #[.int .i64 s, .slice g n c]] w fun e w' => e = .returned (.bool (blockB s n)) ∧ Below w.heap.size w w' := by
  have HS : Kp (∀ W, Calls Try.prog 47 #[.int .i64 s, .int .i64 1, .int .i64 10] W fun e w' => e = .returned (.bool (sideB s)) ∧ W = w') := ⟨fun W => rside_any s W⟩
  cases h : sideB s with
  | false =>
    have HR : Kp (blockB s n = false) := ⟨by unfold blockB; rw [h]; rfl⟩
    rw [h] at HS
    clear h
    go_enter Try.func22, Try.ntmps22
    go_wp2_with fail
    refine (HS.out _).mono ?_
    rintro en w1 ⟨rfl, rfl⟩
    go_wp2
    go_ret
    exact ⟨ret_bool HR.out.symm, by repeat (first | exact Below.refl _ _ | refine Below.alloc ?_ (by simp <;> omega) _ | refine bDrewN ?_ _ | refine Below.drew ?_)⟩
  | true =>
    obtain ⟨e1, e2⟩ := side_cube h
    by_cases hn : (n : Int) = s * s * s
    · have HR : Kp (blockB s n = true) := ⟨by unfold blockB; rw [h, decide_eq_true hn]; rfl⟩
      have i1 : ((n : Int) == s * s * s) = true := beq_iff_eq.2 hn
      rw [h] at HS
      clear h hn
      go_enter Try.func22, Try.ntmps22
      go_wp2_with fail
      refine (HS.out _).mono ?_
      rintro en w1 ⟨rfl, rfl⟩
      go_wp2
      go_ret
      exact ⟨ret_bool HR.out.symm, by repeat (first | exact Below.refl _ _ | refine Below.alloc ?_ (by simp <;> omega) _ | refine bDrewN ?_ _ | refine Below.drew ?_)⟩
    · have HR : Kp (blockB s n = false) := ⟨by unfold blockB; rw [decide_eq_false hn, Bool.and_false]⟩
      have i1 : ((n : Int) == s * s * s) = false := beq_eq_false_iff_ne.2 hn
      rw [h] at HS
      clear h hn
      go_enter Try.func22, Try.ntmps22
      go_wp2_with fail
      refine (HS.out _).mono ?_
      rintro en w1 ⟨rfl, rfl⟩
      go_wp2
      go_ret
      exact ⟨ret_bool HR.out.symm, by repeat (first | exact Below.refl _ _ | refine Below.alloc ?_ (by simp <;> omega) _ | refine bDrewN ?_ _ | refine Below.drew ?_)⟩
end Go.Proofs.Ytcjlijiifhggfaa.Cv
