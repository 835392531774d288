/-
  WALKS (layer 5, carve): two blocks joined place by place, by the program: Both, Either.
-/
import Derived.Test.YtcjlijiifhggfaaCvLessC
namespace Go.Proofs.Ytcjlijiifhggfaa.Cv
open Go Go.RowKit Go.Sort

/-- A function of two truth values. -/
structure JnF (f : Nat) (op : Bool → Bool → Bool) : Prop where
  enter : ∀ args W, (callFunc f args).run Try.prog W = .ok (.enter f args) W
  call : ∀ x y W, Calls Try.prog f #[.bool x, .bool y] W fun e w' => e = .returned (.bool (op x y)) ∧ Below W.heap.size W w'
theorem jn_start {W W1 : World} {x y z : Value} {t : TypeId} (h : W.alloc (.cells #[x, y, z] t) = W1) : Below W.heap.size W W1 ∧ W1.cell? ⟨W.heap.size, 0, none⟩ = some x ∧ W1.cell? ⟨W.heap.size, 1, none⟩ = some y ∧ W1.cell? ⟨W.heap.size, 2, none⟩ = some z := by
  subst h
  exact ⟨by repeat (first | exact Below.refl _ _ | refine Below.alloc ?_ (by simp <;> omega) _ | refine bDrewN ?_ _ | refine Below.drew ?_), by go_simp, by go_simp, by go_simp⟩
/-- A row of the call's own, or none. -/
def JB (n : Nat) (W : World) (u : Value) (bs : List Bool) : Prop := NB n W u bs ∨ (u = .slice none 0 0 ∧ bs = [])
theorem JB.lb {n : Nat} {W : World} {u : Value} {bs : List Bool} (h : JB n W u bs) : LB W u bs := by
  rcases h with h | ⟨rfl, rfl⟩
  · exact h.lb
  · exact LB.nil W
theorem JB.more {n m : Nat} {W : World} {u : Value} {bs : List Bool} (h : JB n W u bs) (hm : m ≤ n) : JB m W u bs := by
  rcases h with h | h
  · exact .inl (h.more hm)
  · exact .inr h
theorem JB.set {n : Nat} {W : World} {u : Value} {bs : List Bool} (h : JB n W u bs) (B k : Nat) (v : Value) (hB : B < n) : JB n (W.setCell ⟨B, k, none⟩ v) u bs := by
  rcases h with h | h
  · exact .inl (h.set B k v hB)
  · exact .inr h
def jnE (s t : Int) (m n : Nat) : Int := if alikeB s t m n = true then 0 else 1
def jnS (s t : Int) (m n : Nat) : Int := if alikeB s t m n = true then s else 0
def jnR (op : Bool → Bool → Bool) (s t : Int) (h k : List Bool) : List Bool := if alikeB s t h.length k.length = true then jnL op s.toNat h k else []
theorem jn_sides {s t : Int} {m n : Nat} (ha : alikeB s t m n = true) : ∃ x : Nat, s = x ∧ t = x ∧ 1 ≤ x ∧ x ≤ 10 ∧ m = x * x * x ∧ n = x * x * x := by
  unfold alikeB blockB at ha
  simp only [Bool.and_eq_true, decide_eq_true_eq] at ha
  obtain ⟨⟨h1, h2⟩, ⟨h3, h4⟩, rfl⟩ := ha
  have hs := side_iff.1 h1
  obtain ⟨x, rfl⟩ : ∃ x : Nat, s = x := ⟨s.toNat, by omega⟩
  rw [← Int.natCast_mul, ← Int.natCast_mul] at h2 h4
  exact ⟨x, rfl, rfl, by omega, by omega, Int.ofNat.inj h2, Int.ofNat.inj h4⟩
/-- What joining answers. -/
def JnPost (op : Bool → Bool → Bool) (s t : Int) (h k : List Bool) (w : World) (en : Ending) (w' : World) : Prop :=
  ∃ u, en = .returned (.tuple #[.agg #[.int .i64 (jnS s t h.length k.length), u], .int .i64 (jnE s t h.length k.length)]) ∧ JB w.heap.size w' u (jnR op s t h k) ∧ Below w.heap.size w w'
theorem jn_bad {op : Bool → Bool → Bool} {s t : Int} {h k : List Bool} {w w' : World} {en : Ending} (ha : alikeB s t h.length k.length = false) (hp : OfNo w 1 en w') : JnPost op s t h k w en w' := by
  unfold JnPost jnE jnS jnR
  rw [ha, if_neg (by decide), if_neg (by decide), if_neg (by decide)]
  exact ⟨_, hp.1, .inr ⟨rfl, rfl⟩, hp.2⟩
theorem jn_good {op : Bool → Bool → Bool} {s t : Int} {x : Nat} {h k : List Bool} {w w' : World} {en : Ending} (ha : alikeB s t h.length k.length = true) (hx : s = x) (hp : ∃ u, en = .returned (.tuple #[.agg #[.int .i64 x, u], .int .i64 0]) ∧ JB w.heap.size w' u (jnL op x h k) ∧ Below w.heap.size w w') : JnPost op s t h k w en w' := by
  unfold JnPost jnE jnS jnR
  rw [ha, if_pos rfl, if_pos rfl, if_pos rfl]
  subst hx
  exact hp
end Go.Proofs.Ytcjlijiifhggfaa.Cv
