/-
  What an iterator asks of a round when it has cells of its own: some blocks lie as they lay, and so do the cells from some block on.
-/
import Derived.Test.YtbbbnfodjkpiaaaCdStretch
namespace Go.Proofs.Ytbbbnfodjkpiaaa.Cd
open Go Go.RowKit Go.Sort

structure Keep4 (S : Nat → Prop) (n : Nat) (A B : World) : Prop where
  size : A.heap.size ≤ B.heap.size
  same : ∀ k, S k → B.heap[k]? = A.heap[k]?
  own : ∀ k o, n ≤ k → A.heap[k]? = some o → o.isCells = true → B.heap[k]? = some o
theorem Keep4.refl (S : Nat → Prop) (n : Nat) (A : World) : Keep4 S n A A := ⟨Nat.le_refl _, fun _ _ => rfl, fun _ _ _ h _ => h⟩
theorem Keep4.trans {S : Nat → Prop} {n : Nat} {A B C : World} (h : Keep4 S n A B) (k : Keep4 S n B C) : Keep4 S n A C :=
  ⟨Nat.le_trans h.size k.size, fun j hj => (k.same j hj).trans (h.same j hj), fun j o hj ho hc => k.own j o hj (h.own j o hj ho hc) hc⟩
theorem Keep4.putObj {S : Nat → Prop} {n B : Nat} (hS : ∀ k, S k → k < B) (W : World) (l : Nat) (o o' : Obj) (hl : B ≤ l) (hW : W.heap[l]? = some o) (ho : o.isCells = false) : Keep4 S n W (W.putObj l o') :=
  ⟨by simp, fun k hk => World.putObj_heap_other (by have := hS k hk; omega), fun k p _ hp hc => by
    have hne : k ≠ l := fun e => by subst e; rw [hW] at hp; cases hp; rw [ho] at hc; cases hc
    rw [World.putObj_heap_other (by omega)]; exact hp⟩
theorem Keep4.of_grown {S : Nat → Prop} {n : Nat} {A B : World} {row : Option Nat} (h : A.grownBy B row) (hA : ∀ k, S k → k < A.heap.size) (hr : ∀ k, S k → some k ≠ row) (hn : ∀ k, n ≤ k → some k ≠ row) : Keep4 S n A B :=
  ⟨h.size, fun k hk => h.block k (hA k hk) (hr k hk), fun k _ hk ho _ => (h.block k (Array.getElem?_eq_some_iff.1 ho).1 (hn k hk)).trans ho⟩
end Go.Proofs.Ytbbbnfodjkpiaaa.Cd
