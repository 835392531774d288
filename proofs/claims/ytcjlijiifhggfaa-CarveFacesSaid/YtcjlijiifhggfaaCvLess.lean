/-
  Plain mathematics of blocks: what is there, what is left, what is carved back.
-/
import Derived.Test.YtcjlijiifhggfaaCvHullN
namespace Go.Proofs.Ytcjlijiifhggfaa.Cv
open Go Go.RowKit

theorem mem_ins {s : Nat} {g : Gr} (h : g ∈ placesL s) : insB s g = true := by
  obtain ⟨j, hj, rfl⟩ := List.mem_map.1 h
  exact grAt_ins (List.mem_range.1 hj)
theorem has_map {s : Nat} {q : Gr → Bool} {g : Gr} (h : g ∈ placesL s) : hasB s ((placesL s).map q) g = q g := by
  obtain ⟨j, hj, rfl⟩ := List.mem_map.1 h
  have hj := List.mem_range.1 hj
  unfold hasB
  rw [grAt_ins hj, Bool.true_and, grAt_idx, Int.toNat_natCast, List.getD_eq_getElem?_getD, List.getElem?_map, places_at hj]
  rfl
theorem mem_grains {s : Nat} {q : Gr → Bool} {g : Gr} (h : g ∈ placesL s) : g ∈ grainsL s ((placesL s).map q) ↔ q g = true := by
  unfold grainsL
  rw [List.mem_filter, has_map h]
  exact ⟨fun k => k.2, fun k => ⟨h, k⟩⟩
theorem less_map (s : Nat) (q p : Gr → Bool) : lessL s ((placesL s).map q) (grainsL s ((placesL s).map p)) = (placesL s).map fun g => q g && !p g := by
  unfold lessL
  refine List.map_congr_left fun g hg => ?_
  unfold lessB
  rw [has_map hg]
  congr 2
  rw [Bool.eq_iff_iff, decide_eq_true_eq]
  exact mem_grains hg
/-- Carved grain by grain from the full block: the block itself. -/
theorem carve_back (s : Nat) (q : Gr → Bool) : lessL s ((placesL s).map fun _ => true) (grainsL s (lessL s ((placesL s).map fun _ => true) (grainsL s ((placesL s).map q)))) = (placesL s).map q := by
  rw [less_map, less_map]
  refine List.map_congr_left fun g _ => ?_
  simp
/-- Without a grain of its own, a block does not have that grain within. -/
theorem less_not {s : Nat} {h : List Bool} {g : Gr} (hg : g ∈ placesL s) : hasB s (lessL s h [g]) g = false := by
  unfold lessL
  rw [has_map hg]
  unfold lessB
  simp
theorem set_has {s : Nat} {l : List Gr} {g : Gr} (hg : g ∈ placesL s) : hasB s (setB s l) g = decide (g ∈ l) := by
  unfold setB
  rw [has_map hg]
theorem set_one {s : Nat} {g : Gr} {x : Gr} : x ∈ grainsL s (setB s [g]) → x = g := by
  intro hx
  unfold grainsL at hx
  obtain ⟨h1, h2⟩ := List.mem_filter.1 hx
  rw [set_has h1] at h2
  simpa using h2
theorem one_within {s : Nat} {h : List Bool} {g : Gr} (hg : hasB s h g = true) : (grainsL s (setB s [g])).all (hasB s h) = true := by
  rw [List.all_eq_true]
  intro x hx
  rw [set_one hx]
  exact hg
theorem one_not {s : Nat} {h : List Bool} {g : Gr} (hg : g ∈ placesL s) (h2 : hasB s h g = false) : (grainsL s (setB s [g])).all (hasB s h) = false := by
  rw [← Bool.not_eq_true, List.all_eq_true]
  intro hh
  have := hh g (by
    unfold grainsL
    exact List.mem_filter.2 ⟨hg, by rw [set_has hg]; simp⟩)
  rw [h2] at this
  cases this
end Go.Proofs.Ytcjlijiifhggfaa.Cv
