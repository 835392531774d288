/-
  WALKS (layer 5, carve): View of any block along an axis; what a view shows.
-/
import Derived.Test.YtcjlijiifhggfaaCvLess
namespace Go.Proofs.Ytcjlijiifhggfaa.Cv
open Go Go.RowKit Go.Sort

theorem cnts_pos (s M : Nat) (sq : Gr → Int × Int) (l : List Gr) (hl : ∀ g ∈ l, sqIx s sq g < M) (i : Nat) (hi : i < M) : ∃ y, (cnts s M sq l)[i]? = some y ∧ 0 ≤ y ∧ (0 < y ↔ ∃ g ∈ l, sqIx s sq g = i) := by
  have key : ∀ (r : List Gr), (∀ g ∈ r, sqIx s sq g < M) → ∃ y, (cnts s M sq r.reverse)[i]? = some y ∧ 0 ≤ y ∧ (0 < y ↔ ∃ g ∈ r, sqIx s sq g = i) := by
    intro r
    induction r with
    | nil =>
      intro _
      refine ⟨0, ?_, Int.le_refl _, by simp⟩
      simp [cnts, hi]
    | cons x r ih =>
      intro hr
      obtain ⟨y, hy, h0, hiff⟩ := ih fun g hg => hr g (List.mem_cons_of_mem _ hg)
      have hx := hr x (by simp)
      rw [List.reverse_cons, cnts_snoc]
      by_cases e : sqIx s sq x = i
      · rw [e]
        have hlt : i < (cnts s M sq r.reverse).length := by rw [cnts_len]; exact hi
        refine ⟨y + 1, ?_, by omega, ?_⟩
        · rw [List.getElem?_set_self hlt, List.getD_eq_getElem?_getD, hy]
          rfl
        · exact ⟨fun _ => ⟨x, by simp, e⟩, fun _ => by omega⟩
      · refine ⟨y, ?_, h0, ?_⟩
        · rw [List.getElem?_set_ne e, hy]
        · rw [hiff]
          constructor
          · rintro ⟨g, hg, h⟩
            exact ⟨g, List.mem_cons_of_mem _ hg, h⟩
          · rintro ⟨g, hg, h⟩
            rcases List.mem_cons.1 hg with rfl | hg
            · exact absurd h e
            · exact ⟨g, hg, h⟩
  obtain ⟨y, h1, h2, h3⟩ := key l.reverse fun g hg => hl g (List.mem_reverse.1 hg)
  rw [List.reverse_reverse] at h1
  exact ⟨y, h1, h2, by rw [h3]; simp [List.mem_reverse]⟩
/-- What a view of a block shows: the squares on which a grain lies. -/
def viewL (s k : Nat) (h : List Bool) : List Bool := (List.range (s * s)).map fun i => decide (∃ g ∈ grainsL s h, sqIx s (axSq k) g = i)
theorem viewL_len (s k : Nat) (h : List Bool) : (viewL s k h).length = s * s := by simp [viewL]
theorem viewL_at {s k i : Nat} {h : List Bool} (hi : i < s * s) : (viewL s k h)[i]? = some (decide (∃ g ∈ grainsL s h, sqIx s (axSq k) g = i)) := by
  unfold viewL
  rw [List.getElem?_map, List.getElem?_range hi]
  rfl
theorem grains_in {s : Nat} {h : List Bool} {g : Gr} (hg : g ∈ grainsL s h) : insB s g = true ∧ hasB s h g = true := by
  unfold grainsL at hg
  obtain ⟨h1, h2⟩ := List.mem_filter.1 hg
  exact ⟨mem_ins h1, h2⟩
theorem axSq_lt {s k : Nat} {g : Gr} (hg : insB s g = true) : sqIx s (axSq k) g < s * s := by
  obtain ⟨a, b, c⟩ := ins_iff.1 hg
  refine sqIx_lt ?_
  unfold axSq
  split
  · exact ⟨b, c⟩
  · split
    · exact ⟨a, c⟩
    · exact ⟨a, b⟩
theorem cnts_view (s k : Nat) (h : List Bool) : (cnts s (s * s) (axSq k) (grainsL s h)).map (fun n => decide (0 < n)) = viewL s k h := by
  apply List.ext_getElem?
  intro i
  rw [List.getElem?_map]
  by_cases hi : i < s * s
  · obtain ⟨y, h1, -, h3⟩ := cnts_pos s (s * s) (axSq k) (grainsL s h) (fun g hg => axSq_lt (grains_in hg).1) i hi
    rw [h1, viewL_at hi, Option.map_some]
    exact congrArg some (decide_eq_decide.2 h3)
  · rw [List.getElem?_eq_none (by rw [cnts_len]; omega), List.getElem?_eq_none (by rw [viewL_len]; omega)]
    rfl
/-- All that is dark in the one is dark in the other. -/
def darkB (A B : List Bool) : Bool := decide (∀ i, i < A.length → A.getD i false = true → B.getD i false = true)
theorem hull_dark {s : Nat} {a b c : List Bool} {k : Nat} (hk : k < 3) : darkB (viewL s k (hullB s a b c)) (hs3 a b c k) = true := by
  unfold darkB
  rw [decide_eq_true_eq]
  intro i hi hd
  rw [viewL_len] at hi
  rw [List.getD_eq_getElem?_getD, viewL_at hi, Option.getD_some, decide_eq_true_eq] at hd
  obtain ⟨g, hg, rfl⟩ := hd
  obtain ⟨h1, h2⟩ := grains_in hg
  have hp : g ∈ placesL s := by unfold grainsL at hg; exact (List.mem_filter.1 hg).1
  unfold hullB at h2
  rw [has_map hp] at h2
  unfold onB at h2
  exact List.all_eq_true.1 h2 k (List.mem_range.2 hk)
/-- A block lies within the hull exactly if its views are dark nowhere else. -/
theorem within_dark {s : Nat} {a b c X : List Bool} : (grainsL s X).all (hasB s (hullB s a b c)) = (darkB (viewL s 0 X) a && (darkB (viewL s 1 X) b && darkB (viewL s 2 X) c)) := by
  rw [Bool.eq_iff_iff, List.all_eq_true, Bool.and_eq_true, Bool.and_eq_true]
  have one : ∀ k, k < 3 → (darkB (viewL s k X) (hs3 a b c k) = true ↔ ∀ g ∈ grainsL s X, (hs3 a b c k).getD (sqIx s (axSq k) g) false = true) := fun k hk => by
    unfold darkB
    rw [decide_eq_true_eq]
    constructor
    · intro h g hg
      have hi := axSq_lt (k := k) (grains_in hg).1
      refine h _ (by rw [viewL_len]; exact hi) ?_
      rw [List.getD_eq_getElem?_getD, viewL_at hi, Option.getD_some, decide_eq_true_eq]
      exact ⟨g, hg, rfl⟩
    · intro h i hi hd
      rw [viewL_len] at hi
      rw [List.getD_eq_getElem?_getD, viewL_at hi, Option.getD_some, decide_eq_true_eq] at hd
      obtain ⟨g, hg, rfl⟩ := hd
      exact h g hg
  have h0 := one 0 (by decide)
  have h1 := one 1 (by decide)
  have h2 := one 2 (by decide)
  rw [show hs3 a b c 0 = a from rfl] at h0
  rw [show hs3 a b c 1 = b from rfl] at h1
  rw [show hs3 a b c 2 = c from rfl] at h2
  rw [h0, h1, h2]
  have hh : ∀ g ∈ grainsL s X, (hasB s (hullB s a b c) g = true ↔ (a.getD (sqIx s (axSq 0) g) false = true ∧ b.getD (sqIx s (axSq 1) g) false = true ∧ c.getD (sqIx s (axSq 2) g) false = true)) := fun g hg => by
    have hp : g ∈ placesL s := by unfold grainsL at hg; exact (List.mem_filter.1 hg).1
    unfold hullB
    rw [has_map hp]
    unfold onB
    rw [show List.range 3 = [0, 1, 2] from rfl]
    simp [hs3]
  constructor
  · intro h
    exact ⟨fun g hg => ((hh g hg).1 (h g hg)).1, fun g hg => ((hh g hg).1 (h g hg)).2.1, fun g hg => ((hh g hg).1 (h g hg)).2.2⟩
  · rintro ⟨k0, k1, k2⟩ g hg
    exact (hh g hg).2 ⟨k0 g hg, k1 g hg, k2 g hg⟩
end Go.Proofs.Ytcjlijiifhggfaa.Cv
