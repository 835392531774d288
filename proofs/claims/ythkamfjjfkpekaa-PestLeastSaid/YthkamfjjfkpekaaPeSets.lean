/-
  WALKS (layer 8, pest): a room in a set, sets of a house's rooms, where a door leads.
-/
import Derived.Test.YthkamfjjfkpekaaPePlain
namespace Go.Proofs.Ythkamfjjfkpekaa.Pe
open Go Go.RowKit

theorem has_any (S k : Nat) (w : World) (hS : S < 9223372036854775808) (hk : k ≤ 63) : Calls Try.prog 61 #[.int .i64 (S : Nat), .int .i64 (k : Nat)] w fun e w' => e = .returned (.bool (S.testBit k)) ∧ w = w' := by
  have hb := bit_has (k := k) hS
  obtain ⟨B, hB⟩ : ∃ B, S.testBit k = B := ⟨_, rfl⟩
  rw [hB] at hb ⊢
  clear hB hS
  go_enter Try.func61, Try.ntmps61
  cases B with
  | false =>
    replace hb : bits .and .i64 ((S : Int) / 2 ^ k) 1 = 0 := hb
    go_wp2
    go_ret
    exact ⟨rfl, rfl⟩
  | true =>
    replace hb : bits .and .i64 ((S : Int) / 2 ^ k) 1 = 1 := hb
    go_wp2
    go_ret
    exact ⟨rfl, rfl⟩
theorem beyond_any (a b c room : Int) (w : World) : Calls Try.prog 109 #[.agg #[.int .i64 a, .int .i64 b, .int .i64 c], .int .i64 room] w fun e w' => e = .returned (.tuple #[.int .i64 (beyd ⟨a, b, c⟩ room).1, .int .i64 (beyd ⟨a, b, c⟩ room).2]) ∧ Below w.heap.size w w' := by
  unfold beyd
  go_enter Try.func109, Try.ntmps109
  by_cases h1 : room = a
  · subst h1
    go_wp2
    go_ret2
    exact ⟨by simp, by repeat (first | exact Below.refl _ _ | refine Below.alloc ?_ (by simp <;> omega) _ | refine bDrewN ?_ _ | refine Below.drew ?_)⟩
  · by_cases h2 : room = b
    · subst h2
      go_wp2
      go_ret2
      exact ⟨by simp [h1], by repeat (first | exact Below.refl _ _ | refine Below.alloc ?_ (by simp <;> omega) _ | refine bDrewN ?_ _ | refine Below.drew ?_)⟩
    · go_wp2
      go_ret2
      exact ⟨by simp [h1, h2], by repeat (first | exact Below.refl _ _ | refine Below.alloc ?_ (by simp <;> omega) _ | refine bDrewN ?_ _ | refine Below.drew ?_)⟩
/-- Whether a number is a set of so many rooms. -/
def setB (R s : Int) : Bool := inB 1 12 R && inB 0 (2 ^ R.toNat - 1) s
set_option maxRecDepth 100000 in
set_option maxHeartbeats 1000000 in
theorem isSet_any (R x y s : Int) (g : Option Addr) (M c : Nat) (w : World) : Calls Try.prog 62 #[.agg #[.int .i64 R, .slice g M c, .int .i64 x, .int .i64 y], .int .i64 s] w fun e w' => e = .returned (.bool (setB R s)) ∧ Below w.heap.size w w' := by
  have HW : Kp (∀ (lo hi n : Int) W u, IS W u [n] → Calls Try.prog 51 #[.int .i64 lo, .int .i64 hi, u] W fun e w' => e = .returned (.bool (inB lo hi n)) ∧ W = w') := ⟨fun lo hi n W u hu => by
    have := within_any lo hi u _ W hu (by simp)
    rwa [allIn_one] at this⟩
  unfold setB
  obtain ⟨P, hP⟩ : ∃ P, inB 0 (2 ^ R.toNat - 1) s = P := ⟨_, rfl⟩
  have HP := Kp.mk hP
  rw [hP]
  clear hP
  go_enter Try.func62, Try.ntmps62
  go_wp2_with fail
  refine (HW.out 1 12 R _ _ (is_one (by go_simp))).mono ?_
  rintro en w1 ⟨rfl, rfl⟩
  cases h : inB 1 12 R with
  | false =>
    go_wp2
    go_ret
    exact ⟨by rw [h]; rfl, by repeat (first | exact Below.refl _ _ | refine Below.alloc ?_ (by simp <;> omega) _ | refine bDrewN ?_ _ | refine Below.drew ?_)⟩
  | true =>
    have hR : R = 1 ∨ R = 2 ∨ R = 3 ∨ R = 4 ∨ R = 5 ∨ R = 6 ∨ R = 7 ∨ R = 8 ∨ R = 9 ∨ R = 10 ∨ R = 11 ∨ R = 12 := by have := inB_iff.1 h; omega
    clear h
    rcases hR with rfl | rfl | rfl | rfl | rfl | rfl | rfl | rfl | rfl | rfl | rfl | rfl
    · have HQ : Kp (inB 0 1 s = P) := ⟨HP.out⟩
      clear HP
      go_wp2_with fail
      refine (HW.out 0 1 s _ _ (is_one (by go_simp))).mono ?_
      rintro en w2 ⟨rfl, rfl⟩
      rw [HQ.out]
      go_wp2
      go_ret
      exact ⟨rfl, by repeat (first | exact Below.refl _ _ | refine Below.alloc ?_ (by simp <;> omega) _ | refine bDrewN ?_ _ | refine Below.drew ?_)⟩
    · have HQ : Kp (inB 0 3 s = P) := ⟨HP.out⟩
      clear HP
      go_wp2_with fail
      refine (HW.out 0 3 s _ _ (is_one (by go_simp))).mono ?_
      rintro en w2 ⟨rfl, rfl⟩
      rw [HQ.out]
      go_wp2
      go_ret
      exact ⟨rfl, by repeat (first | exact Below.refl _ _ | refine Below.alloc ?_ (by simp <;> omega) _ | refine bDrewN ?_ _ | refine Below.drew ?_)⟩
    · have HQ : Kp (inB 0 7 s = P) := ⟨HP.out⟩
      clear HP
      go_wp2_with fail
      refine (HW.out 0 7 s _ _ (is_one (by go_simp))).mono ?_
      rintro en w2 ⟨rfl, rfl⟩
      rw [HQ.out]
      go_wp2
      go_ret
      exact ⟨rfl, by repeat (first | exact Below.refl _ _ | refine Below.alloc ?_ (by simp <;> omega) _ | refine bDrewN ?_ _ | refine Below.drew ?_)⟩
    · have HQ : Kp (inB 0 15 s = P) := ⟨HP.out⟩
      clear HP
      go_wp2_with fail
      refine (HW.out 0 15 s _ _ (is_one (by go_simp))).mono ?_
      rintro en w2 ⟨rfl, rfl⟩
      rw [HQ.out]
      go_wp2
      go_ret
      exact ⟨rfl, by repeat (first | exact Below.refl _ _ | refine Below.alloc ?_ (by simp <;> omega) _ | refine bDrewN ?_ _ | refine Below.drew ?_)⟩
    · have HQ : Kp (inB 0 31 s = P) := ⟨HP.out⟩
      clear HP
      go_wp2_with fail
      refine (HW.out 0 31 s _ _ (is_one (by go_simp))).mono ?_
      rintro en w2 ⟨rfl, rfl⟩
      rw [HQ.out]
      go_wp2
      go_ret
      exact ⟨rfl, by repeat (first | exact Below.refl _ _ | refine Below.alloc ?_ (by simp <;> omega) _ | refine bDrewN ?_ _ | refine Below.drew ?_)⟩
    · have HQ : Kp (inB 0 63 s = P) := ⟨HP.out⟩
      clear HP
      go_wp2_with fail
      refine (HW.out 0 63 s _ _ (is_one (by go_simp))).mono ?_
      rintro en w2 ⟨rfl, rfl⟩
      rw [HQ.out]
      go_wp2
      go_ret
      exact ⟨rfl, by repeat (first | exact Below.refl _ _ | refine Below.alloc ?_ (by simp <;> omega) _ | refine bDrewN ?_ _ | refine Below.drew ?_)⟩
    · have HQ : Kp (inB 0 127 s = P) := ⟨HP.out⟩
      clear HP
      go_wp2_with fail
      refine (HW.out 0 127 s _ _ (is_one (by go_simp))).mono ?_
      rintro en w2 ⟨rfl, rfl⟩
      rw [HQ.out]
      go_wp2
      go_ret
      exact ⟨rfl, by repeat (first | exact Below.refl _ _ | refine Below.alloc ?_ (by simp <;> omega) _ | refine bDrewN ?_ _ | refine Below.drew ?_)⟩
    · have HQ : Kp (inB 0 255 s = P) := ⟨HP.out⟩
      clear HP
      go_wp2_with fail
      refine (HW.out 0 255 s _ _ (is_one (by go_simp))).mono ?_
      rintro en w2 ⟨rfl, rfl⟩
      rw [HQ.out]
      go_wp2
      go_ret
      exact ⟨rfl, by repeat (first | exact Below.refl _ _ | refine Below.alloc ?_ (by simp <;> omega) _ | refine bDrewN ?_ _ | refine Below.drew ?_)⟩
    · have HQ : Kp (inB 0 511 s = P) := ⟨HP.out⟩
      clear HP
      go_wp2_with fail
      refine (HW.out 0 511 s _ _ (is_one (by go_simp))).mono ?_
      rintro en w2 ⟨rfl, rfl⟩
      rw [HQ.out]
      go_wp2
      go_ret
      exact ⟨rfl, by repeat (first | exact Below.refl _ _ | refine Below.alloc ?_ (by simp <;> omega) _ | refine bDrewN ?_ _ | refine Below.drew ?_)⟩
    · have HQ : Kp (inB 0 1023 s = P) := ⟨HP.out⟩
      clear HP
      go_wp2_with fail
      refine (HW.out 0 1023 s _ _ (is_one (by go_simp))).mono ?_
      rintro en w2 ⟨rfl, rfl⟩
      rw [HQ.out]
      go_wp2
      go_ret
      exact ⟨rfl, by repeat (first | exact Below.refl _ _ | refine Below.alloc ?_ (by simp <;> omega) _ | refine bDrewN ?_ _ | refine Below.drew ?_)⟩
    · have HQ : Kp (inB 0 2047 s = P) := ⟨HP.out⟩
      clear HP
      go_wp2_with fail
      refine (HW.out 0 2047 s _ _ (is_one (by go_simp))).mono ?_
      rintro en w2 ⟨rfl, rfl⟩
      rw [HQ.out]
      go_wp2
      go_ret
      exact ⟨rfl, by repeat (first | exact Below.refl _ _ | refine Below.alloc ?_ (by simp <;> omega) _ | refine bDrewN ?_ _ | refine Below.drew ?_)⟩
    · have HQ : Kp (inB 0 4095 s = P) := ⟨HP.out⟩
      clear HP
      go_wp2_with fail
      refine (HW.out 0 4095 s _ _ (is_one (by go_simp))).mono ?_
      rintro en w2 ⟨rfl, rfl⟩
      rw [HQ.out]
      go_wp2
      go_ret
      exact ⟨rfl, by repeat (first | exact Below.refl _ _ | refine Below.alloc ?_ (by simp <;> omega) _ | refine bDrewN ?_ _ | refine Below.drew ?_)⟩
end Go.Proofs.Ythkamfjjfkpekaa.Pe
