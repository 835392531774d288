/-
  Plain mathematics of blocks: a block's own grains make it; blocks that are joined place by place.
-/
import Derived.Test.YtcjlijiifhggfaaCvRefC
namespace Go.Proofs.Ytcjlijiifhggfaa.Cv
open Go Go.RowKit

theorem has_back {s : Nat} {h : List Bool} (hl : h.length = s * s * s) : (placesL s).map (hasB s h) = h := by
  apply List.ext_getElem?
  intro i
  rw [List.getElem?_map]
  by_cases hi : i < s * s * s
  · rw [places_at hi, Option.map_some]
    unfold hasB
    rw [grAt_ins hi, Bool.true_and, grAt_idx, Int.toNat_natCast, List.getD_eq_getElem?_getD, List.getElem?_eq_getElem (by omega), Option.getD_some]
  · rw [List.getElem?_eq_none (by rw [places_len]; omega), List.getElem?_eq_none (by omega)]
    rfl
theorem set_back {s : Nat} {h : List Bool} (hl : h.length = s * s * s) : setB s (grainsL s h) = h := by
  refine Eq.trans ?_ (has_back hl)
  unfold setB
  refine List.map_congr_left fun g hg => ?_
  rw [Bool.eq_iff_iff, decide_eq_true_eq]
  unfold grainsL
  rw [List.mem_filter]
  exact ⟨fun k => k.2, fun k => ⟨hg, k⟩⟩
theorem grains_nodup (s : Nat) (h : List Bool) : (grainsL s h).Nodup := (places_nodup s).sublist List.filter_sublist
theorem grains_all (s : Nat) (h : List Bool) : allB s (grainsL s h) = true := by
  unfold allB
  rw [List.all_eq_true]
  intro x hx
  rw [inB_ins]
  exact mem_ins (List.mem_filter.1 hx).1
theorem grains_few (s : Nat) (h : List Bool) : (grainsL s h).length ≤ s * s * s := by
  rw [← places_len s]
  exact List.length_filter_le _ _
theorem all_grains {s : Nat} {q p : Gr → Bool} (h : ∀ g ∈ placesL s, q g = true → p g = true) : (grainsL s ((placesL s).map q)).all p = true := by
  rw [List.all_eq_true]
  intro x hx
  have hm : x ∈ placesL s := (List.mem_filter.1 hx).1
  exact h x hm ((mem_grains hm).1 hx)
/-- Two blocks joined place by place. -/
def jnL (op : Bool → Bool → Bool) (s : Nat) (h k : List Bool) : List Bool := (placesL s).map fun g => op (hasB s h g) (hasB s k g)
theorem jnL_len (op : Bool → Bool → Bool) (s : Nat) (h k : List Bool) : (jnL op s h k).length = s * s * s := by unfold jnL; rw [List.length_map, places_len]
theorem jnL_at {op : Bool → Bool → Bool} {s i : Nat} {h k : List Bool} {x y : Bool} (hl : h.length = s * s * s) (hx : h[i]? = some x) (hy : k[i]? = some y) : (jnL op s h k)[i]? = some (op x y) := by
  have hi : i < s * s * s := hl ▸ (List.getElem?_eq_some_iff.1 hx).1
  unfold jnL
  rw [List.getElem?_map, places_at hi, Option.map_some]
  unfold hasB
  rw [grAt_ins hi, Bool.true_and, Bool.true_and, grAt_idx, Int.toNat_natCast, List.getD_eq_getElem?_getD, List.getD_eq_getElem?_getD, hx, hy]
  rfl
theorem jn_within {op : Bool → Bool → Bool} {s : Nat} {h k : List Bool} : ((∀ x y, op x y = true → x = true) → (grainsL s (jnL op s h k)).all (hasB s h) = true) ∧ ((∀ x y, op x y = true → y = true) → (grainsL s (jnL op s h k)).all (hasB s k) = true) ∧
    ((∀ x y, x = true → op x y = true) → (grainsL s h).all (hasB s (jnL op s h k)) = true) ∧ ((∀ x y, y = true → op x y = true) → (grainsL s k).all (hasB s (jnL op s h k)) = true) := by
  refine ⟨fun ho => all_grains fun g _ hg => ho _ _ hg, fun ho => all_grains fun g _ hg => ho _ _ hg, fun ho => ?_, fun ho => ?_⟩
  all_goals
    rw [List.all_eq_true]
    intro x hx
    unfold jnL
    rw [has_map (List.mem_filter.1 hx).1]
    exact ho _ _ (List.mem_filter.1 hx).2
end Go.Proofs.Ytcjlijiifhggfaa.Cv
