/-
  WALKS (layer 5, carve): within, by the reference; rows that are filled place by place.
-/
import Derived.Test.YtcjlijiifhggfaaCvJoin
import Derived.Test.YtcjlijiifhggfaaCvRefD
import Derived.Test.YtcjlijiifhggfaaCvGrKit
import Derived.StillTailTactics
namespace Go.Proofs.Ytcjlijiifhggfaa.Cv
open Go Go.RowKit Go.Sort

theorem region_tail {P : Program} {id : Nat} {Q : Exit → Act → World → Prop} {a : Act} {w : World} {l : List Oper} (n : Nat) (hm : P.follows .mixedOrders = true) (hB : Region.lexTailB .any l.toArray n = true)
    (h : ∀ w1, w1 = w.drew → wpStill P l.toArray w1 (fun a' => wpList P l.toArray Q (l.drop n) a' w1) (l.take n) a) : (Code.region id l.toArray true).wp P Q a w :=
  wp_region_still_tail n hm hB (h _ rfl)
/-- A row that is filled from its begin. -/
def fillL (L : List Bool) (k : Nat) : List Bool := L.take k ++ List.replicate (L.length - k) false
theorem fill_len {L : List Bool} {k : Nat} (hk : k ≤ L.length) : (fillL L k).length = L.length := by
  unfold fillL
  rw [List.length_append, List.length_take, List.length_replicate]
  omega
theorem fill_get {L : List Bool} {k i : Nat} (hk : k ≤ L.length) : (fillL L k)[i]? = if i < k then L[i]? else if i < L.length then some false else none := by
  unfold fillL
  have e : (L.take k).length = k := by rw [List.length_take]; omega
  by_cases hi : i < k
  · rw [if_pos hi, List.getElem?_append_left (by omega), List.getElem?_take, if_pos hi]
  · rw [if_neg hi, List.getElem?_append_right (by omega), e, List.getElem?_replicate]
    by_cases hl : i < L.length
    · rw [if_pos hl, if_pos (by omega)]
    · rw [if_neg hl, if_neg (by omega)]
theorem fill_zero (L : List Bool) : fillL L 0 = List.replicate L.length false := by simp [fillL]
theorem fill_all (L : List Bool) : fillL L L.length = L := by simp [fillL]
theorem fill_set {L : List Bool} {k : Nat} {x : Bool} (hx : L[k]? = some x) : (fillL L k).set k x = fillL L (k + 1) := by
  have hk := (List.getElem?_eq_some_iff.1 hx).1
  apply List.ext_getElem?
  intro i
  rw [List.getElem?_set, fill_len (Nat.le_of_lt hk), fill_get (Nat.le_of_lt hk), fill_get hk]
  by_cases hi : k = i
  · subst hi
    rw [if_pos rfl, if_pos hk, if_pos (by omega), hx]
  · rw [if_neg hi]
    by_cases h2 : i < k
    · rw [if_pos h2, if_pos (by omega)]
    · rw [if_neg h2, if_neg (by omega : ¬ i < k + 1)]
theorem fill_at {L : List Bool} {k : Nat} (hk : k < L.length) : (fillL L k)[k]? = some false := by
  rw [fill_get (Nat.le_of_lt hk), if_neg (by omega), if_pos hk]
theorem Hd.store {w W : World} {ps : List (Nat × Nat × Value)} {M j : Nat} {v : Value} (h : Hd w ps W) (hM : w.heap.size ≤ M) (hp : ∀ p ∈ ps, p.1 ≠ M) : Hd w ps (W.setCell ⟨M, j, none⟩ v) :=
  h.same (h.below.setCell hM _) fun p hp' => Below.heap_setCell _ _ _ _ (hp p hp')
theorem has_at {s i : Nat} {h : List Bool} (hi : i < s * s * s) : hasB s h (grAt s i) = h.getD i false := by
  unfold hasB
  rw [grAt_ins hi, Bool.true_and, grAt_idx, Int.toNat_natCast]
theorem grains_dark {s : Nat} {h k : List Bool} (lh : h.length = s * s * s) : (grainsL s h).all (hasB s k) = darkB h k := by
  unfold darkB
  rw [Bool.eq_iff_iff, List.all_eq_true, decide_eq_true_eq]
  constructor
  · intro H i hi hd
    rw [lh] at hi
    have := H (grAt s i) (List.mem_filter.2 ⟨List.mem_map.2 ⟨i, List.mem_range.2 hi, rfl⟩, by rw [has_at hi]; exact hd⟩)
    rwa [has_at hi] at this
  · intro H x hx
    obtain ⟨hm, hh⟩ := List.mem_filter.1 hx
    obtain ⟨i, hi, rfl⟩ := List.mem_map.1 hm
    have hi := List.mem_range.1 hi
    rw [has_at hi] at hh ⊢
    exact H i (by omega) hh
end Go.Proofs.Ytcjlijiifhggfaa.Cv
