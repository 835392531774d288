/-
  A drawn region of reads and of calls that answer the same in every world of the class, inside a round: one walk in the text's order.
-/
import Derived.Test.YthkamfjjfkpekaaPeKit
import Derived.OrdersIn
import Derived.RangeFuncCalls
namespace Go.Proofs.Ythkamfjjfkpekaa.Pe
open Go Go.RowKit Go.Sort

section
variable {P : Program} {ops : Array Oper} {md : Region.Mode} {m : Nat} {C : World → Prop}
theorem opIn_of_q {r : Option Nat} {i : Nat} {o : Oper} {a : Act} {w : World} {K : Act → Prop} {K' : Act → World → Prop} {Q' : Exit → Act → World → Prop} (hi : ops[i]? = some o) (hd : ∀ c, o.op ≠ .defer c) (hC : C w)
    (h : ∀ a w', C w' → K a → K' a w') (hh : qOp P ops C i K a) : wpOpIn { Fence.wide with round := r } m P ops Q' i K' a w := by
  obtain ⟨v, hy, hK⟩ := yieldsIn_of_qOp hi hh
  unfold wpOpIn
  simp only [hi]
  rcases hy with ⟨hw, hv⟩ | ⟨hw, rfl⟩
  · simp only [hw, if_true]
    refine ⟨fun _ _ => trivial, ?_⟩
    rw [Oper.semAt_eq _ _ _ hd]
    have h3 := hv w hC
    unfold Oper.quietAt at h3
    generalize (execOp a.eval o).run P w = res at *
    cases res with
    | ok n w' =>
      cases n <;> simp only [Oper.quietUpon] at h3 <;> simp only [Oper.uponIn]
      case value u =>
        obtain ⟨e1, e2⟩ := h3
        rw [e1, e2]
        exact h _ _ hC hK
      case skip =>
        obtain ⟨e1, e2⟩ := h3
        rw [e1, ← e2]
        exact h _ _ hC hK
      case enter f args =>
        obtain ⟨e1, hc⟩ := h3
        rw [e1]
        refine ⟨fun e => (by cases e), CallsIn.mono (F := Fence.wide) (callsIn_wide.2 hc) ?_⟩
        rintro e w'' ⟨rfl, hw''⟩
        exact h _ _ hw'' hK
    | halt x w' => simp only [Oper.quietUpon] at h3
  · simp only [hw]
    exact ⟨fun _ _ => trivial, h _ _ hC hK⟩
theorem anyIn_of_q {r : Option Nat} {Q : Act → Prop} {Q' : Exit → Act → World → Prop} (hdf : ∀ (i : Nat) (o : Oper), ops[i]? = some o → ∀ c, o.op ≠ .defer c) (hQ : ∀ a w, C w → Q a → Q' .normal a w) :
    ∀ (fuel : Nat) (listed : Array Bool) (a : Act) (w : World), C w → wpAnyQ P md ops C Q fuel listed a → wpAnyIn { Fence.wide with round := r } m P md ops Q' fuel listed a w
  | 0, _, _, _, hw, h => ⟨h.1, hQ _ _ hw h.2⟩
  | fuel + 1, _, _, _, hw, h => ⟨fun h0 => hQ _ _ hw (h.1 h0), fun i hi => by
    obtain ⟨_, o, ho, _⟩ := mem_ready.1 hi
    exact opIn_of_q ho (hdf i o ho) hw (fun a' w' hw' h' => anyIn_of_q hdf hQ fuel _ a' w' hw' h') (h.2 i hi)⟩
def noDefer (l : List Oper) : Bool := l.all fun o => match o.op with
  | .defer _ => false
  | _ => true
theorem regionIn_quiet {r : Option Nat} {id : Nat} {Q : Exit → Act → World → Prop} {a : Act} {w : World} {l : List Oper} (hm : P.follows .mixedOrders = true) (hB : Region.lexB .any l.toArray = true) (hD : noDefer l = true)
    (h : wpQuiet P l.toArray (fun w' => ∃ p : Regrown, w' = grow (redrawn w p.d) p.os) (fun a' => ∀ w', (∃ p : Regrown, w' = grow (redrawn w p.d) p.os) → Q .normal a' w') l a) : (Code.region id l.toArray true).wpIn { Fence.wide with round := r } m P Q a w := by
  simp only [Region.lexB, Bool.and_eq_true] at hB
  have hdf : ∀ (i : Nat) (o : Oper), l.toArray[i]? = some o → ∀ c, o.op ≠ .defer c := by
    intro i o ho c e
    have ho' : o ∈ l := List.mem_of_getElem? (by simpa using ho)
    have := List.all_eq_true.1 hD o ho'
    simp [e] at this
  refine wpIn_region_any hm (anyIn_of_q (C := fun w' => ∃ p : Regrown, w' = grow (redrawn w p.d) p.os) (Q := fun a' => ∀ w', (∃ p : Regrown, w' = grow (redrawn w p.d) p.os) → Q .normal a' w') hdf (fun _ w' hw' h => h w' hw') _ _ _ _ ⟨⟨w.drawn + 1, #[]⟩, by rw [grow_empty]; rfl⟩ ?_)
  have := wpAnyQ_lex (C := fun w' => ∃ p : Regrown, w' = grow (redrawn w p.d) p.os) (md := .any) hB.1 l.toArray.toList 0 (Array.replicate l.toArray.size false) a (by simp) (by simpa using hB.2) (by simpa using h)
  simpa using this
end
theorem regionIn_quiet_round {P : Program} {m id lp : Nat} {Q : Exit → Act → World → Prop} {a : Act} {w : World} {l : List Oper} (hm : P.follows .mixedOrders = true) (hB : Region.lexB .any l.toArray = true) (hD : noDefer l = true)
    (h : wpQuiet P l.toArray (fun w' => ∃ p : Regrown, w' = grow (redrawn w p.d) p.os) (fun a' => ∀ w', (∃ p : Regrown, w' = grow (redrawn w p.d) p.os) → Q .normal a' w') l a) : (Code.region id l.toArray true).wpIn (Fence.wide.inRound lp) m P Q a w := regionIn_quiet (r := some lp) hm hB hD h
end Go.Proofs.Ythkamfjjfkpekaa.Pe
