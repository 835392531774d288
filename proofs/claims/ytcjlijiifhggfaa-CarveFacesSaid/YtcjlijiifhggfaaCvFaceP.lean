/-
  PLAIN (layer 5, carve): faces of a layer, and the grains that can be spared.
-/
import Derived.Test.YtcjlijiifhggfaaCvFacesN
import Derived.Test.YtcjlijiifhggfaaCvViewN
namespace Go.Proofs.Ytcjlijiifhggfaa.Cv
open Go Go.RowKit Go.Sort

/-- A face in a layer, that looks to a side. -/
def lyB (z : Int) (p : Gr × Gr) : Bool := decide (p.1.z = z) && decide (p.2.z = z)
theorem lyB_no {z : Int} {g : Gr} (hg : ¬ g.z = z) (s : Nat) (h : List Bool) (l : List Gr) : (facesG s h g l).filter (lyB z) = [] := by
  rw [List.filter_eq_nil_iff]
  rintro ⟨a, b⟩ hp
  unfold facesG at hp
  obtain ⟨n, -, e⟩ := List.mem_map.1 hp
  obtain ⟨rfl, -⟩ := Prod.mk.inj e
  simp [lyB, hg]
/-- How many faces look to the sides, of the grains so far. -/
def girO (s : Nat) (h : List Bool) (z : Int) (l : List Gr) : Nat := ((facesO s h l).filter (lyB z)).length
def girG (s : Nat) (h : List Bool) (z : Int) (g : Gr) (l : List Gr) : Nat := ((facesG s h g l).filter (lyB z)).length
theorem girO_more {s : Nat} {h : List Bool} {z : Int} {l : List Gr} {g : Gr} : girO s h z (l ++ [g]) = girO s h z l + girG s h z g (aroundL g) := by
  unfold girO girG
  rw [facesO_snoc, List.filter_append, List.length_append]
theorem girO_skip {s : Nat} {h : List Bool} {z : Int} {l : List Gr} {g : Gr} (hg : ¬ g.z = z) : girO s h z (l ++ [g]) = girO s h z l := by
  rw [girO_more]
  unfold girG
  rw [lyB_no hg]
  rfl
theorem girG_succ {s : Nat} {h : List Bool} {z : Int} {g n : Gr} {k : Nat} (hn : (aroundL g)[k]? = some n) : girG s h z g ((aroundL g).take (k + 1)) = girG s h z g ((aroundL g).take k) + if (decide (g.z = z) && decide (n.z = z) && !hasB s h n) = true then 1 else 0 := by
  unfold girG
  rw [facesG_succ hn, List.filter_append, List.length_append]
  congr 1
  cases hh : hasB s h n <;> by_cases h1 : g.z = z <;> by_cases h2 : n.z = z <;> simp [lyB, h1, h2]
theorem faceO_more {s : Nat} {h : List Bool} {l : List Gr} {g : Gr} : (facesO s h (l ++ [g])).length = (facesO s h l).length + (facesG s h g (aroundL g)).length := by
  rw [facesO_snoc, List.length_append]
theorem faceG_succ {s : Nat} {h : List Bool} {g n : Gr} {k : Nat} (hn : (aroundL g)[k]? = some n) : (facesG s h g ((aroundL g).take (k + 1))).length = (facesG s h g ((aroundL g).take k)).length + if hasB s h n = true then 0 else 1 := by
  rw [facesG_succ hn, List.length_append]
  cases hh : hasB s h n <;> simp
theorem facesG_len (s : Nat) (h : List Bool) (g : Gr) (l : List Gr) : (facesG s h g l).length ≤ l.length := by
  unfold facesG
  rw [List.length_map]
  exact List.length_filter_le _ _
theorem girG_len (s : Nat) (h : List Bool) (z : Int) (g : Gr) (l : List Gr) : girG s h z g l ≤ l.length := Nat.le_trans (List.length_filter_le _ _) (facesG_len s h g l)
theorem girO_len (s : Nat) (h : List Bool) (z : Int) (l : List Gr) : girO s h z l ≤ 6 * l.length := Nat.le_trans (List.length_filter_le _ _) (facesO_len s h l)
/-- What Faces, Girth and Spare answer. -/
def fcE (n : Int) (m : Nat) : Int := if blockB n m = true then 0 else 1
def fcN (n : Int) (h : List Bool) : Nat := if blockB n h.length = true then (facesL n.toNat h).length else 0
def giE (n : Int) (m : Nat) (z : Int) : Int := if blockB n m = true then if ixB z n = true then 0 else 7 else 1
def giN (n : Int) (h : List Bool) (z : Int) : Nat := if blockB n h.length = true then if ixB z n = true then girO n.toNat h z (grainsL n.toNat h) else 0 else 0
/-- How many of these grains are in square i of the view along axis k. -/
def numK (s k : Nat) (l : List Gr) (i : Nat) : Nat := (l.filter fun g => sqIx s (axSq k) g == i).length
theorem numK_more (s k : Nat) (l : List Gr) (g : Gr) (i : Nat) : numK s k (l ++ [g]) i = numK s k l i + if sqIx s (axSq k) g = i then 1 else 0 := by
  unfold numK
  rw [List.filter_append, List.length_append]
  by_cases h : sqIx s (axSq k) g = i <;> simp [h]
theorem numK_len (s k : Nat) (l : List Gr) (i : Nat) : numK s k l i ≤ l.length := List.length_filter_le _ _
theorem snoc_ind {α : Type} {P : List α → Prop} (h0 : P []) (hs : ∀ l x, P l → P (l ++ [x])) (l : List α) : P l := by
  have h : ∀ n (l : List α), l.length = n → P l := by
    intro n
    induction n with
    | zero => intro l hl; rw [List.eq_nil_of_length_eq_zero hl]; exact h0
    | succ n ih =>
      intro l hl
      have hne : l ≠ [] := fun e => by rw [e] at hl; simp at hl
      obtain ⟨l', x, rfl⟩ : ∃ l' x, l = l' ++ [x] := ⟨l.dropLast, l.getLast hne, (List.dropLast_concat_getLast hne).symm⟩
      exact hs l' x (ih l' (by rw [List.length_append, List.length_singleton] at hl; omega))
  exact h _ l rfl
theorem cnts_num {s M k : Nat} {l : List Gr} (hl : ∀ g ∈ l, sqIx s (axSq k) g < M) {i : Nat} (hi : i < M) : (cnts s M (axSq k) l)[i]? = some ((numK s k l i : Nat) : Int) := by
  revert hl
  refine snoc_ind (P := fun l => (∀ g ∈ l, sqIx s (axSq k) g < M) → (cnts s M (axSq k) l)[i]? = some ((numK s k l i : Nat) : Int)) (fun _ => by simp [cnts, numK, hi]) (fun l g ih hl => ?_) l
  have h1 := ih fun x hx => hl x (List.mem_append_left _ hx)
  rw [cnts_snoc, numK_more, List.getElem?_set]
  by_cases e : sqIx s (axSq k) g = i
  · rw [if_pos e, if_pos (by rw [cnts_len]; have := hl g (by simp); omega), e, if_pos rfl, List.getD_eq_getElem?_getD, h1]
    simp
  · rw [if_neg e, if_neg e, h1, Nat.add_zero]
def spQ (s : Nat) (h : List Bool) (k i : Nat) : Bool := decide (1 < numK s k (grainsL s h) i)
/-- The grains that can be taken away alone. -/
def spareG (s : Nat) (h : List Bool) : List Gr := (grainsL s h).filter (onB s (spQ s h))
def spE (n : Int) (h : List Bool) : Int := if blockB n h.length = true then 0 else 1
def spL (n : Int) (h : List Bool) : List Gr := if blockB n h.length = true then spareG n.toNat h else []
end Go.Proofs.Ytcjlijiifhggfaa.Cv
