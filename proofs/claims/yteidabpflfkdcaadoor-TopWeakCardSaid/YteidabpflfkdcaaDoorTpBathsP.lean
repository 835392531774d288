/-
  Plain mathematics: a vat whose whole bath is poured away.
-/
import Derived.Test.YteidabpflfkdcaaDoorBtRun
import Derived.Test.YteidabpflfkdcaaDoorBtSteady
namespace Go.Proofs.YteidabpflfkdcaaDoor.Tp
open Go.Proofs.YteidabpflfkdcaaDoor.Bt

/-- The vat without its bath, which is told in what is gone. -/
def emptyV (u : Va) : Va := ⟨⟨0, 0, 0⟩, u.s, ⟨u.g.w + u.b.w, u.g.s + u.b.s, u.g.a + u.b.a⟩⟩
theorem part_whole (n : Int) : Bt.part 1000 n = n := by unfold Bt.part; exact Int.mul_ediv_cancel n (by decide)
theorem doS_pour (u : Va) : doS u 6 1000 = emptyV u := by
  unfold doS emptyV restB addB subB partB
  simp only [Int.reduceEq, if_false, part_whole]
  simp
theorem empty_valid {u : Va} (h : vatB u = true) : vatB (emptyV u) = true := by
  rw [← doS_pour]; exact pour_valid h (by decide) (by decide)
theorem doS_none (u : Va) : doS u 1 0 = u := rfl
theorem run_empty2 {u : Va} (h : vatB u = true) : runR [⟨6, 1000⟩, ⟨1, 0⟩] u 0 = (emptyV u, 2, 0) := by
  have h1 := empty_valid h
  simp only [runR]
  rw [doS_pour, if_pos h1, doS_none, if_pos h1]
theorem steps_two : stepsB [⟨6, 1000⟩, ⟨1, 0⟩] = true := by decide
theorem empty_tot (u : Va) : tot (emptyV u) = tot u := by
  unfold tot emptyV
  simp only [Ba.mk.injEq]
  omega
theorem bal_none (sw y : Int) : bal 0 sw 0 y = y := by
  unfold bal
  split
  · rfl
  · rename_i hh
    rw [Int.zero_add, Int.zero_add] at *
    exact Int.mul_ediv_cancel y hh
theorem empty_steady (u : Va) : steadyB (emptyV u) = true := by
  unfold steadyB
  rw [decide_eq_true_eq]
  unfold hour emptyV
  simp only [bal_none, Int.sub_self]
  have e : ∀ o, ovr o 0 = 0 := fun o => by unfold ovr; rw [Int.zero_mul]; rfl
  simp only [e, Int.sub_zero, Int.add_zero]
end Go.Proofs.YteidabpflfkdcaaDoor.Tp
