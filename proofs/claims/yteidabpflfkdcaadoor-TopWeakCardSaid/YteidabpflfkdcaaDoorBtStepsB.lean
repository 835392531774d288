/-
  WALKS (layer 3, baths): steps that are valid.
-/
import Derived.Test.YteidabpflfkdcaaDoorBtStepsA
import Derived.Test.YteidabpflfkdcaaDoorBtHourB
import Derived.Test.YteidabpflfkdcaaDoorBtRefA
namespace Go.Proofs.YteidabpflfkdcaaDoor.Bt
open Go Go.RowKit

/-- The most that a step's number may be. -/
def lim (k : Int) : Int := if k = 1 ∨ k = 6 then 1000 else 1000000000
def stepB (s : St) : Bool := decide (1 ≤ s.k) && decide (s.k ≤ 6) && rngB (lim s.k) s.n
theorem step_iff {s : St} : stepB s = true ↔ (1 ≤ s.k ∧ s.k ≤ 6) ∧ 0 ≤ s.n ∧ s.n ≤ lim s.k := by
  unfold stepB
  rw [Bool.and_eq_true, Bool.and_eq_true, decide_eq_true_eq, decide_eq_true_eq, rng_iff]
def stepsB (l : List St) : Bool := decide (l.length ≤ 200) && l.all stepB
theorem validStep_1 (n : Int) (w : World)  :
    Calls Tryd.prog 28 #[.agg #[.int .i64 1, .int .i64 n]] w fun e w' => e = .returned (.bool (stepB ⟨1, n⟩)) ∧ Below w.heap.size w w' := by
  have HE : Kp (stepB ⟨1, n⟩ = allB 1000 [n]) := ⟨by rw [allB1]; simp [stepB, lim]⟩
  go_enter Tryd.func28, Tryd.ntmps28
  go_wp2_with fail
  refine (within_any 1000 [n] _ _ (by simp) ?_).mono ?_
  · intro k h
    obtain rfl : k = 0 := by simp at h; omega
    first | (simp; done) | (simp; go_simp; done) | (go_simp; done)
  rintro e w1 ⟨rfl, rfl⟩
  go_wp2
  go_ret
  exact ⟨ret_bool HE.out.symm, by repeat (first | exact Below.refl _ _ | refine Below.alloc ?_ (by simp <;> omega) _ | refine bDrewN ?_ _ | refine Below.drew ?_)⟩
theorem validStep_2 (n : Int) (w : World)  :
    Calls Tryd.prog 28 #[.agg #[.int .i64 2, .int .i64 n]] w fun e w' => e = .returned (.bool (stepB ⟨2, n⟩)) ∧ Below w.heap.size w w' := by
  have HE : Kp (stepB ⟨2, n⟩ = allB 1000000000 [n]) := ⟨by rw [allB1]; simp [stepB, lim]⟩
  go_enter Tryd.func28, Tryd.ntmps28
  go_wp2_with fail
  refine (within_any 1000000000 [n] _ _ (by simp) ?_).mono ?_
  · intro k h
    obtain rfl : k = 0 := by simp at h; omega
    first | (simp; done) | (simp; go_simp; done) | (go_simp; done)
  rintro e w1 ⟨rfl, rfl⟩
  go_wp2
  go_ret
  exact ⟨ret_bool HE.out.symm, by repeat (first | exact Below.refl _ _ | refine Below.alloc ?_ (by simp <;> omega) _ | refine bDrewN ?_ _ | refine Below.drew ?_)⟩
theorem validStep_3 (n : Int) (w : World)  :
    Calls Tryd.prog 28 #[.agg #[.int .i64 3, .int .i64 n]] w fun e w' => e = .returned (.bool (stepB ⟨3, n⟩)) ∧ Below w.heap.size w w' := by
  have HE : Kp (stepB ⟨3, n⟩ = allB 1000000000 [n]) := ⟨by rw [allB1]; simp [stepB, lim]⟩
  go_enter Tryd.func28, Tryd.ntmps28
  go_wp2_with fail
  refine (within_any 1000000000 [n] _ _ (by simp) ?_).mono ?_
  · intro k h
    obtain rfl : k = 0 := by simp at h; omega
    first | (simp; done) | (simp; go_simp; done) | (go_simp; done)
  rintro e w1 ⟨rfl, rfl⟩
  go_wp2
  go_ret
  exact ⟨ret_bool HE.out.symm, by repeat (first | exact Below.refl _ _ | refine Below.alloc ?_ (by simp <;> omega) _ | refine bDrewN ?_ _ | refine Below.drew ?_)⟩
theorem validStep_4 (n : Int) (w : World)  :
    Calls Tryd.prog 28 #[.agg #[.int .i64 4, .int .i64 n]] w fun e w' => e = .returned (.bool (stepB ⟨4, n⟩)) ∧ Below w.heap.size w w' := by
  have HE : Kp (stepB ⟨4, n⟩ = allB 1000000000 [n]) := ⟨by rw [allB1]; simp [stepB, lim]⟩
  go_enter Tryd.func28, Tryd.ntmps28
  go_wp2_with fail
  refine (within_any 1000000000 [n] _ _ (by simp) ?_).mono ?_
  · intro k h
    obtain rfl : k = 0 := by simp at h; omega
    first | (simp; done) | (simp; go_simp; done) | (go_simp; done)
  rintro e w1 ⟨rfl, rfl⟩
  go_wp2
  go_ret
  exact ⟨ret_bool HE.out.symm, by repeat (first | exact Below.refl _ _ | refine Below.alloc ?_ (by simp <;> omega) _ | refine bDrewN ?_ _ | refine Below.drew ?_)⟩
theorem validStep_5 (n : Int) (w : World)  :
    Calls Tryd.prog 28 #[.agg #[.int .i64 5, .int .i64 n]] w fun e w' => e = .returned (.bool (stepB ⟨5, n⟩)) ∧ Below w.heap.size w w' := by
  have HE : Kp (stepB ⟨5, n⟩ = allB 1000000000 [n]) := ⟨by rw [allB1]; simp [stepB, lim]⟩
  go_enter Tryd.func28, Tryd.ntmps28
  go_wp2_with fail
  refine (within_any 1000000000 [n] _ _ (by simp) ?_).mono ?_
  · intro k h
    obtain rfl : k = 0 := by simp at h; omega
    first | (simp; done) | (simp; go_simp; done) | (go_simp; done)
  rintro e w1 ⟨rfl, rfl⟩
  go_wp2
  go_ret
  exact ⟨ret_bool HE.out.symm, by repeat (first | exact Below.refl _ _ | refine Below.alloc ?_ (by simp <;> omega) _ | refine bDrewN ?_ _ | refine Below.drew ?_)⟩
theorem validStep_6 (n : Int) (w : World)  :
    Calls Tryd.prog 28 #[.agg #[.int .i64 6, .int .i64 n]] w fun e w' => e = .returned (.bool (stepB ⟨6, n⟩)) ∧ Below w.heap.size w w' := by
  have HE : Kp (stepB ⟨6, n⟩ = allB 1000 [n]) := ⟨by rw [allB1]; simp [stepB, lim]⟩
  go_enter Tryd.func28, Tryd.ntmps28
  go_wp2_with fail
  refine (within_any 1000 [n] _ _ (by simp) ?_).mono ?_
  · intro k h
    obtain rfl : k = 0 := by simp at h; omega
    first | (simp; done) | (simp; go_simp; done) | (go_simp; done)
  rintro e w1 ⟨rfl, rfl⟩
  go_wp2
  go_ret
  exact ⟨ret_bool HE.out.symm, by repeat (first | exact Below.refl _ _ | refine Below.alloc ?_ (by simp <;> omega) _ | refine bDrewN ?_ _ | refine Below.drew ?_)⟩
theorem validStep_else (k n : Int) (w : World) (h : k < 1 ∨ 6 < k) :
    Calls Tryd.prog 28 #[.agg #[.int .i64 k, .int .i64 n]] w fun e w' => e = .returned (.bool (stepB ⟨k, n⟩)) ∧ Below w.heap.size w w' := by
  have HE : Kp (stepB ⟨k, n⟩ = false) := ⟨by rw [← Bool.not_eq_true, step_iff]; simp only; omega⟩
  have h1 : (k == 1) = false := by rw [beq_eq_false_iff_ne]; omega
  have h2 : (k == 2) = false := by rw [beq_eq_false_iff_ne]; omega
  have h3 : (k == 3) = false := by rw [beq_eq_false_iff_ne]; omega
  have h4 : (k == 4) = false := by rw [beq_eq_false_iff_ne]; omega
  have h5 : (k == 5) = false := by rw [beq_eq_false_iff_ne]; omega
  have h6 : (k == 6) = false := by rw [beq_eq_false_iff_ne]; omega
  clear h
  go_enter Tryd.func28, Tryd.ntmps28
  go_wp2
  go_ret
  exact ⟨ret_bool HE.out.symm, by repeat (first | exact Below.refl _ _ | refine Below.alloc ?_ (by simp <;> omega) _ | refine bDrewN ?_ _ | refine Below.drew ?_)⟩
theorem six {k : Int} (h : ¬ (k < 1 ∨ 6 < k)) : k = 1 ∨ k = 2 ∨ k = 3 ∨ k = 4 ∨ k = 5 ∨ k = 6 := by omega
theorem validStep_any (k n : Int) (w : World) :
    Calls Tryd.prog 28 #[.agg #[.int .i64 k, .int .i64 n]] w fun e w' => e = .returned (.bool (stepB ⟨k, n⟩)) ∧ Below w.heap.size w w' := by
  by_cases h : k < 1 ∨ 6 < k
  · exact validStep_else k n w h
  · rcases six h with rfl | rfl | rfl | rfl | rfl | rfl
    · exact validStep_1 n w
    · exact validStep_2 n w
    · exact validStep_3 n w
    · exact validStep_4 n w
    · exact validStep_5 n w
    · exact validStep_6 n w
theorem validStep_yes (k n : Int) (w : World) (h : stepB ⟨k, n⟩ = true) :
    Calls Tryd.prog 28 #[.agg #[.int .i64 k, .int .i64 n]] w fun e w' => e = .returned (.bool true) ∧ Below w.heap.size w w' :=
  (validStep_any k n w).mono fun _ _ ⟨he, hb⟩ => ⟨by rw [he, h], hb⟩
theorem validStep_no (k n : Int) (w : World) (h : stepB ⟨k, n⟩ = false) :
    Calls Tryd.prog 28 #[.agg #[.int .i64 k, .int .i64 n]] w fun e w' => e = .returned (.bool false) ∧ Below w.heap.size w w' :=
  (validStep_any k n w).mono fun _ _ ⟨he, hb⟩ => ⟨by rw [he, h], hb⟩

end Go.Proofs.YteidabpflfkdcaaDoor.Bt
