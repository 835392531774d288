/-
  What maps.Copy makes of the maps of two labels.
-/
import Derived.Test.YtknggeofilfiaaaGreatDoorMkAgree
import Derived.Lib.SlMapMerge
namespace Go.Proofs.YtknggeofilfiaaaGreatDoor.Mk
open Go Go.RowKit Go.Maps

theorem vals_isMap (L : List FB) : IsMap (vals L) := by
  have h : ∀ (L : List FB) (D : DataW Unit), IsMap D → IsMap (L.foldl (fun D f => D.put (keyL f.1) (litD f.2)) D) := by
    intro L
    induction L with
    | nil => exact fun _ h => h
    | cons f L ih => exact fun D h => ih _ (h.put _ _)
  exact h L _ isMap_empty
theorem vals_canonK (L : List FB) (hs : ∀ f ∈ L, f.1.size ≤ maxLen) : CanonK (KeysOf Tryz.prog 9) (vals L) := by
  have h : ∀ (L : List FB) (D : DataW Unit), (∀ f ∈ L, f.1.size ≤ maxLen) → CanonK (KeysOf Tryz.prog 9) D → CanonK (KeysOf Tryz.prog 9) (L.foldl (fun D f => D.put (keyL f.1) (litD f.2)) D) := by
    intro L
    induction L with
    | nil => exact fun _ _ h => h
    | cons f L ih => exact fun D hs h => ih _ (fun g hg => hs g (List.mem_cons_of_mem _ hg)) (canonK_put keyed.one ⟨_, WideMaps.keyOf_string_mk Tryz.underlying9 (hs f (by simp))⟩ _ h)
  exact h L _ hs ⟨[], rfl, List.Pairwise.nil, fun p hp => by cases hp⟩
theorem merged_vals (A : List FB) (R : List FB) : Merged (vals (A ++ R.reverse)) (vals A) (vals R.reverse) (fun _ => false) := by
  induction R with
  | nil =>
    refine ⟨fun k => ?_, fun k z => ?_⟩
    · simp [vals, has]
    · simp [vals, has]
  | cons f R ih =>
    rw [List.reverse_cons, ← List.append_assoc, vals_snoc, vals_snoc]
    have h1 := vals_isMap (A ++ R.reverse)
    have h2 := vals_isMap R.reverse
    have hk := isKey f.1
    refine ⟨fun k => ?_, fun k z => ?_⟩
    · by_cases e : k = keyL f.1
      · subst e
        rw [has_put_same h1 hk, has_put_same h2 hk]
        simp
      · rw [has_put_other e, has_put_other e]
        exact ih.1 k
    · by_cases e : k = keyL f.1
      · subst e
        rw [atKey_put_same h1 hk, has_put_same h2 hk, atKey_put_same h2 hk]
        simp
      · rw [atKey_put_other e, has_put_other e, atKey_put_other e]
        exact ih.2 k z
theorem merge_vals (A L : List FB) (hA : ∀ f ∈ A, f.1.size ≤ maxLen) (hL : ∀ f ∈ L, f.1.size ≤ maxLen) : Lib.mergeD (vals A) (vals L) = vals (A ++ L) := by
  have h := merged_vals A L.reverse
  rw [List.reverse_reverse] at h
  refine (merged_eq keyed.one h (fun _ => rfl) ((vals_canonK (A ++ L) ?_).canon keyed.one) (vals_canonK A hA) (vals_canonK L hL)).symm
  intro f hf
  rcases List.mem_append.1 hf with hf | hf
  · exact hA f hf
  · exact hL f hf
end Go.Proofs.YtknggeofilfiaaaGreatDoor.Mk
