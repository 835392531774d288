/-
  WALKS of the specification's own functions on marks (Sign, Mark, Number and what they call).
-/
import Derived.Test.YtknggeofilfiaaaGreatDoorMkWalkB
import Derived.Test.YtknggeofilfiaaaGreatDoorMkPlainB
import Derived.WalkKit
namespace Go.Proofs.YtknggeofilfiaaaGreatDoor.Mk
open Go Go.RowKit

def qn (n : Nat) : Nat → Nat
  | 0 => n
  | p + 1 => qn n p / 10
def rs (n : Nat) : Nat → Nat
  | 0 => 0
  | p + 1 => rs n p + (7 - p) * (qn n p % 10)
theorem qn_le (n : Nat) (hn : n ≤ 999999) : ∀ p, qn n p ≤ 999999
  | 0 => hn
  | p + 1 => by have := qn_le n hn p; simp only [qn]; omega
theorem rs_le (n : Nat) : ∀ p, rs n p ≤ 63 * p
  | 0 => Nat.le_refl _
  | p + 1 => by
    have := rs_le n p
    have : (7 - p) * (qn n p % 10) ≤ 7 * 9 := Nat.mul_le_mul (by omega) (by omega)
    simp only [rs]
    omega
theorem rs_six (n : Nat) (_hn : n ≤ 999999) : rs n 6 = ws n 6 := by
  rw [ws_six]
  simp only [rs, qn, dig]
  omega
theorem dec_million (n : Nat) (hn : n ≤ 999999) : Lib.decDigits (1000000 + n) = 49 :: six n := by
  rw [dec_ge10 (by omega), dec_ge10 (by omega), dec_ge10 (by omega), dec_ge10 (by omega), dec_ge10 (by omega), dec_ge10 (by omega), dec_lt10 (by omega)]
  have e : (1000000 + n) / 10 / 10 / 10 / 10 / 10 / 10 = 1 := by omega
  have e0 : (1000000 + n) / 10 / 10 / 10 / 10 / 10 % 10 = dig n 0 := by simp only [dig]; omega
  have e1 : (1000000 + n) / 10 / 10 / 10 / 10 % 10 = dig n 1 := by simp only [dig]; omega
  have e2 : (1000000 + n) / 10 / 10 / 10 % 10 = dig n 2 := by simp only [dig]; omega
  have e3 : (1000000 + n) / 10 / 10 % 10 = dig n 3 := by simp only [dig]; omega
  have e4 : (1000000 + n) / 10 % 10 = dig n 4 := by simp only [dig]; omega
  have e5 : (1000000 + n) % 10 = dig n 5 := by simp only [dig]; omega
  rw [e, e0, e1, e2, e3, e4, e5]
  rfl
theorem cut_million (n : Nat) : (⟨(49 :: six n).toArray⟩ : ByteArray).extract 1 7 = ⟨(six n).toArray⟩ := by
  apply ByteArray.ext
  apply Array.ext'
  rw [Lib.extract_data]
  rfl
def RefRead (l : List UInt8) (w : World) (e : Ending) (w' : World) : Prop :=
  (∃ a b : Int, e = .returned (.tuple #[.int .i64 a, .int .i64 b, .bool (form l)]) ∧ (form l = true → a = (numOf l : Nat) ∧ b = (signOf l : Nat))) ∧ w = w'
theorem refRead_no {l : List UInt8} {w w' : World} {e : Ending} {a b : Int} (h : form l = false) (he : e = .returned (.tuple #[.int .i64 a, .int .i64 b, .bool false])) (hw : w = w') : RefRead l w e w' :=
  ⟨⟨a, b, by rw [he, h], fun h2 => by rw [h] at h2; cases h2⟩, hw⟩
theorem refRead_yes {l : List UInt8} {w w' : World} {e : Ending} (h : form l = true) (he : e = .returned (.tuple #[.int .i64 (dval (l.take 6) : Nat), .int .i64 (idx (l.getD 7 0)), .bool true])) (hw : w = w') : RefRead l w e w' := by
  have hs : 0 ≤ idx (l.getD 7 0) := by
    simp only [form, Bool.and_eq_true, decide_eq_true_eq] at h
    exact h.2
  refine ⟨⟨_, _, by rw [he, h], fun _ => ?_⟩, hw⟩
  unfold numOf signOf
  rw [h, if_pos rfl, if_pos rfl, Int.toNat_of_nonneg hs]
  exact ⟨rfl, rfl⟩
end Go.Proofs.YtknggeofilfiaaaGreatDoor.Mk
