/-
  WALKS (layer 4, cold): hours that are sorted.
-/
import Derived.Test.YtbbbnfodjkpiaaaCdArrA
import Derived.Test.YtbbbnfodjkpiaaaShelfB
import Derived.Sort.OwnSortedInts
namespace Go.Proofs.Ytbbbnfodjkpiaaa.Cd
open Go Go.RowKit Go.Sort

theorem sort_own (w : World) (B : Nat) (u : Value) (hs : List Int) (h : OwnI w B u hs) (hl : hs.length ≤ 60) (hB : B ≤ w.heap.size) :
    Calls Try.prog 86 #[u] w fun e w' => e = .returned (.tuple #[]) ∧ OwnI w' B u (hs.mergeSort fun x y => decide (x ≤ y)) ∧ Below B w w' := by
  have hml : (hs.mergeSort fun x y => decide (x ≤ y)).length = hs.length := List.length_mergeSort _
  rcases h.2 with ⟨hv, h0⟩ | ⟨g, cap, cur, hv, hgB, hh, hnc, hcm, hcs, htake⟩
  · have hq : hs = [] := List.eq_nil_of_length_eq_zero h0
    subst hq
    rw [hv]
    refine (Try.slices_Sort_int_none none 0 w).mono ?_
    rintro e w' ⟨rfl, rfl⟩
    exact ⟨rfl, by rw [List.mergeSort_nil]; exact OwnI.nil _ _, Below.refl _ _⟩
  · rw [hv]
    have hlt := (Array.getElem?_eq_some_iff.1 hh).1
    rw [Nat.mul_one] at htake
    refine (Try.slices_Sort_int g 0 cap hs w (holds_of_blockI hh htake) hlt (by omega)).mono ?_
    rintro e w' ⟨rfl, n, os, rfl⟩
    refine ⟨rfl, ?_, (Below.refl B w).grown (grownBy_sortedI _) hB (fun j hj => by cases hj; exact hgB)⟩
    unfold OwnI
    rw [hml]
    exact ownsRow_sortedI hml hgB hh hnc hcm hcs
end Go.Proofs.Ytbbbnfodjkpiaaa.Cd
