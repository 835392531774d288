/-
  WALKS (layer 7, scene): the least and the greatest of a row of numbers, and its copy.
-/
import Derived.Test.YtjnggchljilooaaShelf
import Derived.Test.YtjnggchljilooaaScRowI
namespace Go.Proofs.Ytjnggchljilooaa.Sc
open Go Go.RowKit Go.Sort Go.Proofs

theorem IS.at {w : World} {v : Value} {L : List Int} (h : IS w v L) (h0 : 0 < L.length) : ∃ b o c, v = .slice (some ⟨b, o, none⟩) L.length c ∧ ∀ j, j < L.length → w.cell? ⟨b, o + j, none⟩ = some (.int .i64 (L.getD j 0)) := by
  obtain ⟨g, c, rfl, hc, hi⟩ := h
  obtain ⟨b, o, rfl, -⟩ := hi 0 _ (List.getElem?_eq_getElem h0)
  refine ⟨b, o, c, rfl, fun j hj => ?_⟩
  obtain ⟨b2, o2, he, hx⟩ := hi j _ (List.getElem?_eq_getElem hj)
  simp only [Option.some.injEq, Addr.mk.injEq, and_true] at he
  obtain ⟨rfl, rfl⟩ := he
  rw [hx, List.getD_eq_getElem?_getD, List.getElem?_eq_getElem hj]
  rfl
theorem min_any (v : Value) (L : List Int) (w : World) (hv : IS w v L) (h0 : 0 < L.length) (hl : L.length ≤ 9223372036854775807) :
    Calls Try.prog 56 #[v] w fun e w' => e = .returned (.int .i64 (Lib.minOf L)) ∧ w = w' := by
  obtain ⟨b, o, c, rfl, hc⟩ := hv.at h0
  refine (Try.slices_Min_int b o L.length c L w h0 (Nat.le_refl _) hl hc).mono ?_
  rintro e w' ⟨rfl, rfl⟩
  exact ⟨by rw [List.take_length], rfl⟩
theorem max_any (v : Value) (L : List Int) (w : World) (hv : IS w v L) (h0 : 0 < L.length) (hl : L.length ≤ 9223372036854775807) :
    Calls Try.prog 57 #[v] w fun e w' => e = .returned (.int .i64 (Lib.maxOf L)) ∧ w = w' := by
  obtain ⟨b, o, c, rfl, hc⟩ := hv.at h0
  refine (Try.slices_Max_int b o L.length c L w h0 (Nat.le_refl _) hl hc).mono ?_
  rintro e w' ⟨rfl, rfl⟩
  exact ⟨by rw [List.take_length], rfl⟩
theorem clone_any (v : Value) (L : List Int) (w : World) (hv : IS w v L) (h0 : 0 < L.length) (hl : L.length ≤ 1000000) :
    Calls Try.prog 58 #[v] w fun e w' => ∃ u, e = .returned u ∧ (∃ G, w.heap.size ≤ G ∧ G < w'.heap.size ∧ RI w' G u L) ∧ Below w.heap.size w w' := by
  obtain ⟨b, o, c, rfl, hc⟩ := hv.at h0
  refine (Try.slices_Clone_int b o L.length c L w (Nat.le_refl _) (by omega) hc).mono ?_
  rintro e w' ⟨u, rfl, hown, -, hb⟩
  rw [List.take_length] at hown
  exact ⟨u, rfl, RI.of_own hown h0, hb⟩
end Go.Proofs.Ytjnggchljilooaa.Sc
