/-
  A drawn region whose last operations follow one on another, inside a fence: the head in the order of the text, where the world stays as it is; the tail as it stands.
-/
import Derived.Test.YtknggeofilfiaaaGreatDoorCvKit
import Derived.StillTailTactics
import Derived.OrdersIn
import Derived.RangeFuncCalls
namespace Go.Proofs.YtknggeofilfiaaaGreatDoor.Cv
open Go Go.RowKit

section
variable {P : Program} {ops : Array Oper} {md : Region.Mode} {m : Nat}

theorem opIn_of_still {r : Option Nat} {i : Nat} {o : Oper} {a : Act} {w : World} {K : Act → Prop} {K' : Act → World → Prop} {Q' : Exit → Act → World → Prop} (hi : ops[i]? = some o) (hd : ∀ c, o.op ≠ .defer c)
    (h : ∀ a, K a → K' a w) (hh : stOp P ops w i K a) : wpOpIn { Fence.wide with round := r } m P ops Q' i K' a w := by
  obtain ⟨v, hy, hK⟩ := yieldsAt_of_stOp hi hh
  unfold wpOpIn
  simp only [hi]
  rcases hy with ⟨hw, hv | ⟨hv, rfl⟩ | ⟨f, args, hv, hc⟩⟩ | ⟨hw, rfl⟩
  · simp only [hw, if_true]
    exact ⟨fun _ _ => trivial, by rw [Oper.semAt_eq _ _ _ hd, hv]; exact h _ hK⟩
  · simp only [hw, if_true]
    exact ⟨fun _ _ => trivial, by rw [Oper.semAt_eq _ _ _ hd, hv]; exact h _ hK⟩
  · simp only [hw, if_true]
    refine ⟨fun _ _ => trivial, ?_⟩
    rw [Oper.semAt_eq _ _ _ hd, hv]
    refine ⟨fun e => (by cases e), CallsIn.mono (F := Fence.wide) (callsIn_wide.2 hc) ?_⟩
    rintro e w'' ⟨rfl, rfl⟩
    exact h _ hK
  · simp only [hw]
    exact ⟨fun _ _ => trivial, h _ hK⟩
theorem anyIn_of_head {r : Option Nat} {w : World} {n g : Nat} {L : Array Bool → Act → Prop} {Q' : Exit → Act → World → Prop} (hdf : ∀ i o, ops[i]? = some o → i < n → ∀ c, o.op ≠ .defer c)
    (hL : ∀ listed a, L listed a → wpAnyIn { Fence.wide with round := r } m P md ops Q' g listed a w) :
    ∀ (f : Nat) (listed : Array Bool) (a : Act), wpAnyL P md ops w n L f listed a → wpAnyIn { Fence.wide with round := r } m P md ops Q' (f + g) listed a w
  | 0, listed, a, h => by rw [Nat.zero_add]; exact hL _ _ h
  | f + 1, listed, a, h => by
    rw [show f + 1 + g = (f + g) + 1 by omega]
    refine ⟨fun h0 => absurd h0 h.1, fun i hi => ?_⟩
    obtain ⟨_, o, ho, _⟩ := mem_ready.1 hi
    exact opIn_of_still ho (hdf i o ho (h.2 i hi).1) (fun a' h' => anyIn_of_head hdf hL f _ a' h') (h.2 i hi).2
theorem anyIn_of_seq {F : Fence} {Q' : Exit → Act → World → Prop} : ∀ (l : List Oper) (k : Nat) (listed : Array Bool) (a : Act) (w : World), (∀ j, l[j]? = ops[k + j]?) →
    Region.seqB md ops l.length k listed = true → wpListIn F m P ops Q' l a w → wpAnyIn F m P md ops Q' l.length listed a w
  | [], _, _, _, _, _, hB, h => ⟨by simpa [Region.seqB] using hB, h⟩
  | o :: l, k, listed, a, w, hl, hB, h => by
    have h0 : ops[k]? = some o := by simpa using (hl 0).symm
    simp only [List.length_cons, Region.seqB, Bool.and_eq_true, decide_eq_true_eq] at hB
    refine ⟨fun h1 => (by rw [hB.1] at h1; cases h1), fun i hi => ?_⟩
    rw [hB.1] at hi
    have hik : i = k := by simpa using hi
    subst hik
    have hw : wpOpIn F m P ops Q' i (wpListIn F m P ops Q' l) a w := by unfold wpOpIn; simp only [h0]; exact h
    exact wpOpIn_mono (fun a' w' h' => anyIn_of_seq l (i + 1) _ a' w' (fun j => by have := hl (j + 1); simpa [Nat.add_assoc, Nat.add_comm 1 j] using this) hB.2 h') hw
def noDefer (l : List Oper) : Bool := l.all fun o => match o.op with
  | .defer _ => false
  | _ => true
theorem regionIn_tail {r : Option Nat} {id : Nat} {Q : Exit → Act → World → Prop} {a : Act} {w : World} {l : List Oper} (n : Nat) (hm : P.follows .mixedOrders = true) (hB : Region.lexTailB .any l.toArray n = true) (hD : noDefer l = true)
    (h : wpStill P l.toArray w.drew (fun a' => wpListIn { Fence.wide with round := r } m P l.toArray Q (l.drop n) a' w.drew) (l.take n) a) : (Code.region id l.toArray true).wpIn { Fence.wide with round := r } m P Q a w := by
  simp only [Region.lexTailB, Bool.and_eq_true, decide_eq_true_eq] at hB
  obtain ⟨⟨⟨⟨hsel, hn⟩, hs⟩, hc⟩, hlex⟩ := hB
  have hn' : n < l.length := by simpa using hn
  have htl : (l.take n).length = n := by simp; omega
  have hdl : (l.drop n).length = l.toArray.size - n := by simp
  have inv0 : HeadInv .any l.toArray n (Array.replicate l.toArray.size false) :=
    ⟨by simp, fun j oj _ hl => (by rw [getD_replicate_false] at hl; cases hl), fun t _ ht => getD_in (by simpa using ht) (getD_replicate_false _ _)⟩
  have H := wpAnyL_lex (md := .any) (g := l.toArray.size - n) hsel hs hc hn (l.take n) 0 _ a (fun j hj => by
    have hj' : j < n := by rw [htl] at hj; exact hj
    simp [hj']) (by simpa using htl) inv0 (by rw [htl]; exact hlex) h
  have hdf : ∀ i o, l.toArray[i]? = some o → i < n → ∀ c, o.op ≠ .defer c := by
    intro i o ho _ c e
    have ho' : o ∈ l := List.mem_of_getElem? (by simpa using ho)
    have := List.all_eq_true.1 hD o ho'
    simp [e] at this
  refine wpIn_region_any hm ?_
  have := anyIn_of_head (r := r) (m := m) (Q' := Q) (g := l.toArray.size - n) hdf (fun listed a' hL => by
    have := anyIn_of_seq (F := { Fence.wide with round := r }) (m := m) (md := .any) (Q' := Q) (l.drop n) n listed a' w.drew (fun j => by simp [List.getElem?_drop]) (by rw [hdl]; exact hL.1) hL.2
    rwa [hdl] at this) _ _ _ H
  rw [htl, show n + (l.toArray.size - n) = l.toArray.size by simp; omega] at this
  exact this
end
theorem regionIn_tail_wide {P : Program} {m id : Nat} {Q : Exit → Act → World → Prop} {a : Act} {w : World} {l : List Oper} (n : Nat) (hm : P.follows .mixedOrders = true) (hB : Region.lexTailB .any l.toArray n = true) (hD : noDefer l = true)
    (h : ∀ wd, w.drew = wd → wpStill P l.toArray wd (fun a' => wpListIn Fence.wide m P l.toArray Q (l.drop n) a' wd) (l.take n) a) : (Code.region id l.toArray true).wpIn Fence.wide m P Q a w := regionIn_tail (r := none) n hm hB hD (h _ rfl)
theorem regionIn_tail_round {P : Program} {m id lp : Nat} {Q : Exit → Act → World → Prop} {a : Act} {w : World} {l : List Oper} (n : Nat) (hm : P.follows .mixedOrders = true) (hB : Region.lexTailB .any l.toArray n = true) (hD : noDefer l = true)
    (h : ∀ wd, w.drew = wd → wpStill P l.toArray wd (fun a' => wpListIn (Fence.wide.inRound lp) m P l.toArray Q (l.drop n) a' wd) (l.take n) a) : (Code.region id l.toArray true).wpIn (Fence.wide.inRound lp) m P Q a w := regionIn_tail (r := some lp) n hm hB hD (h _ rfl)
end Go.Proofs.YtknggeofilfiaaaGreatDoor.Cv
