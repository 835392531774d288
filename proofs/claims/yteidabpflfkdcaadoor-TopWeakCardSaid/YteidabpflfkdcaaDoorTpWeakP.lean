/-
  Plain mathematics: the water that is told makes a bath weak enough, in one step or in two.
-/
import Derived.Test.YteidabpflfkdcaaDoorBtRun
import Derived.Test.YteidabpflfkdcaaDoorBtWater
namespace Go.Proofs.YteidabpflfkdcaaDoor.Tp
open Go.Proofs.YteidabpflfkdcaaDoor.Bt

theorem wat_ok {W S A n d : Int} (h : watE W S A n d = 0) : bathB ⟨W, S, A⟩ = true ∧ fracB n d = true ∧ short A n d = false ∧ watA W S A n d = watR W A n d := by
  unfold watE at h
  unfold watA
  cases h1 : bathB ⟨W, S, A⟩ <;> cases h2 : fracB n d <;> cases h3 : short A n d <;> simp_all
theorem wat_bd {W S A n d : Int} (h : watE W S A n d = 0) : 0 ≤ watA W S A n d ∧ watA W S A n d ≤ 1000000000 := by
  obtain ⟨h1, h2, h3, h4⟩ := wat_ok h
  have hb := bath_iff.1 h1
  have hf := frac_iff.1 h2
  have hn := (short_no hf.1.1 (show 0 ≤ A by simp only at hb; omega) hf.2.1 h3).2
  rw [h4]
  unfold watR
  simp only at hb
  split <;> omega
theorem wat_again {W S A n d : Int} (h : watE W S A n d = 0) (S' : Int) (hb : bathB ⟨W + watA W S A n d, S', A⟩ = true) : watA (W + watA W S A n d) S' A n d = 0 ∧ watE (W + watA W S A n d) S' A n d = 0 := by
  obtain ⟨h1, h2, h3, h4⟩ := wat_ok h
  have hE : watE (W + watA W S A n d) S' A n d = 0 := by unfold watE; rw [hb, h2, h3]; rfl
  refine ⟨?_, hE⟩
  rw [(wat_ok hE).2.2.2, h4]
  unfold watR
  split <;> split <;> omega
theorem doS_water (u : Va) (n : Int) : doS u 2 n = ⟨⟨u.b.w + n, u.b.s, u.b.a⟩, u.s, u.g⟩ := rfl
theorem doS_twice (u : Va) (h x : Int) : doS (doS u 2 h) 2 (x - h) = doS u 2 x := by
  rw [doS_water, doS_water, doS_water]
  simp only [Va.mk.injEq, Ba.mk.injEq, and_true]
  omega
theorem water_half {u : Va} {h x : Int} (hu : vatB u = true) (h0 : 0 ≤ h) (h1 : h ≤ x) (hv : vatB (doS u 2 x) = true) : vatB (doS u 2 h) = true := by
  have b := vat_bd hu
  have c := vat_bd hv
  rw [doS_water] at c ⊢
  refine vat_mk ?_
  simp only at c ⊢
  omega
theorem run_one {u : Va} (x : Int) : runR [⟨2, x⟩] u 0 = if vatB (doS u 2 x) = true then (doS u 2 x, 1, 0) else (zeroV, 0, 4) := rfl
theorem run_two_ok {u : Va} {h x : Int} (hu : vatB u = true) (h0 : 0 ≤ h) (h1 : h ≤ x) (hv : vatB (doS u 2 x) = true) : runR [⟨2, h⟩, ⟨2, x - h⟩] u 0 = (doS u 2 x, 2, 0) := by
  simp only [runR]
  rw [if_pos (water_half hu h0 h1 hv), doS_twice, if_pos hv]
theorem run_two_no {u : Va} {h x : Int} (hv : vatB (doS u 2 x) = false) : ∃ k : Nat, runR [⟨2, h⟩, ⟨2, x - h⟩] u 0 = (zeroV, k, 4) := by
  simp only [runR]
  rw [doS_twice, hv]
  split
  · exact ⟨_, rfl⟩
  · exact ⟨_, rfl⟩
theorem steps_one {x : Int} (h0 : 0 ≤ x) (h1 : x ≤ 1000000000) : stepsB [⟨2, x⟩] = true := by
  simp only [stepsB, List.all_cons, List.all_nil, List.length_cons, List.length_nil, Bool.and_true, Bool.and_eq_true, decide_eq_true_eq]
  exact ⟨by decide, step_iff.2 ⟨by simp, h0, h1⟩⟩
theorem steps_half {h x : Int} (h0 : 0 ≤ h) (h1 : h ≤ x) (h2 : x ≤ 1000000000) : stepsB [⟨2, h⟩, ⟨2, x - h⟩] = true := by
  simp only [stepsB, List.all_cons, List.all_nil, List.length_cons, List.length_nil, Bool.and_true, Bool.and_eq_true, decide_eq_true_eq]
  exact ⟨by decide, step_iff.2 ⟨by simp, h0, by show h ≤ 1000000000; omega⟩, step_iff.2 ⟨by simp, by simp only; omega, by show x - h ≤ 1000000000; omega⟩⟩
end Go.Proofs.YteidabpflfkdcaaDoor.Tp
