/-
  WALKS (layer 8, pest): what the walks share.
-/
import Derived.Test.YthkamfjjfkpekaaProg
import Derived.Test.YthkamfjjfkpekaaPeRange
import Derived.WalkKit
import Derived.WalkSpells
import Derived.WalkLawsBesides
import Derived.Lib.Hide
import Derived.Lib.QuietBelow
import Derived.Below
import Derived.Deep.QuietTactic
import Derived.BigQuiet
namespace Go.Proofs.Ythkamfjjfkpekaa.Pe
open Go Go.RowKit

/-- A fact kept from the walk, by a structure: no unfolding reaches it. -/
structure Kp (p : Prop) : Prop where
  out : p
theorem ret_bool {a b : Bool} (h : a = b) : Ending.returned (.bool a) = .returned (.bool b) := by rw [h]
theorem ret_int {k : IntKind} {a b : Int} (h : a = b) : Ending.returned (.int k a) = .returned (.int k b) := by rw [h]
theorem bDrewN {B : Nat} {a w : World} (h : Below B a w) (n : Nat) : Below B a (w.drewN n) := h.trans ⟨rfl, rfl, rfl, Nat.le_refl _, fun _ _ => rfl⟩
theorem bcell {W w1 : World} {n : Nat} (hb : Below n W w1) : (∀ b o, b < n → w1.cell? ⟨b, o, none⟩ = W.cell? ⟨b, o, none⟩) ∧ (∀ b o, b < n → w1.frozen? ⟨b, o, none⟩ = W.frozen? ⟨b, o, none⟩) :=
  ⟨fun b o h => hb.cell (p := ⟨b, o, none⟩) h, fun b o h => hb.frozen (p := ⟨b, o, none⟩) h⟩
theorem grown_below {A B : World} (h : Below A.heap.size A B) (row : Option Nat) : A.grownBy B row := ⟨h.os, h.tape, h.output, h.size, fun k hk _ => h.block k hk⟩
theorem setCell_grown (W : World) (U k : Nat) (v : Value) : W.grownBy (W.setCell ⟨U, k, none⟩ v) (some U) :=
  ⟨rfl, rfl, rfl, by simp [World.setCell], fun j _ hj => Below.heap_setCell W ⟨U, k, none⟩ v j (fun e => hj (by rw [e]))⟩
theorem grown_trans {A B C : World} {row : Option Nat} (h : A.grownBy B row) (k : B.grownBy C row) : A.grownBy C row :=
  ⟨k.os.trans h.os, k.tape.trans h.tape, k.output.trans h.output, Nat.le_trans h.size k.size, fun j hj hr => (k.block j (Nat.lt_of_lt_of_le hj h.size) hr).trans (h.block j hj hr)⟩
theorem alloc_keeps (B : Nat) (W : World) (o : Obj) : KeepsFrom B W (W.alloc o) := KeepsFrom.of_grownBy (World.grownBy_alloc W o none) (fun j e => by cases e)
theorem Keep.below {S : Nat → Prop} {m n : Nat} {A B : World} (h : Below A.heap.size A B) (hA : ∀ k, S k → k < A.heap.size) : Keep S m n A B := Keep.of_grown (grown_below h none) hA (fun r e => by cases e)
/-- Cells that hold what they are said to. -/
structure Hd (w : World) (ps : List (Nat × Nat × Value)) (W : World) : Prop where
  below : Below w.heap.size w W
  cells : ∀ p ∈ ps, W.cell? ⟨p.1, p.2.1, none⟩ = some p.2.2 ∧ W.frozen? ⟨p.1, p.2.1, none⟩ = false
theorem Hd.lt {w W : World} {ps : List (Nat × Nat × Value)} (h : Hd w ps W) {p : Nat × Nat × Value} (hp : p ∈ ps) : p.1 < W.heap.size := World.block_lt_of_cell? _ _ (h.cells p hp).1
theorem Hd.same {w W W' : World} {ps : List (Nat × Nat × Value)} (h : Hd w ps W) (hb : Below w.heap.size w W') (hs : ∀ p ∈ ps, W'.heap[p.1]? = W.heap[p.1]?) : Hd w ps W' :=
  ⟨hb, fun p hp => ⟨(World.cell?_of_block (a := ⟨p.1, p.2.1, none⟩) (hs p hp)).trans (h.cells p hp).1, (World.frozen?_of_block (a := ⟨p.1, p.2.1, none⟩) (hs p hp)).trans (h.cells p hp).2⟩⟩
theorem Hd.on {w W W' : World} {ps : List (Nat × Nat × Value)} (h : Hd w ps W) (hb : Below W.heap.size W W') : Hd w ps W' :=
  h.same (h.below.trans (hb.mono h.below.size)) fun _ hp => hb.block _ (h.lt hp)
theorem cells_of {X : World} {b k : Nat} {v : Value} (h : X.cell? ⟨b, k, none⟩ = some v) : ∀ o, X.heap[b]? = some o → o.isCells = true := by
  intro o ho
  simp only [World.cell?, ho] at h
  cases o <;> simp_all [Obj.isCells]
theorem Hd.turns {w : World} {ps : List (Nat × Nat × Value)} {k B : Nat} (hB : w.heap.size ≤ B) (hp : ∀ p ∈ ps, p.1 < B ∨ B + k ≤ p.1) : Turns k B (Hd w ps) := by
  intro X Y row h g hr
  refine h.same ⟨g.os.trans h.below.os, g.tape.trans h.below.tape, g.output.trans h.below.output, Nat.le_trans h.below.size g.size, fun j hj => ?_⟩ fun p hq => ?_
  · exact (g.block j (Nat.lt_of_lt_of_le hj h.below.size) (fun e => by have := (hr j e.symm).1; omega)).trans (h.below.block j hj)
  · refine g.block p.1 (h.lt hq) (fun e => ?_)
    obtain ⟨h1, h2⟩ := hr _ e.symm
    rcases hp p hq with h3 | h3
    · omega
    · rcases h2 with h2 | ⟨o, ho, hc⟩
      · omega
      · rw [cells_of (h.cells p hq).1 o ho] at hc; cases hc
theorem turns_cell {C b j : Nat} {v : Value} : Turns 0 C (fun V => V.cell? ⟨b, j, none⟩ = some v) := by
  intro X Y row hv g hr
  refine (World.cell?_of_block (a := ⟨b, j, none⟩) (g.block b (World.block_lt_of_cell? _ _ hv) (fun e => ?_))).trans hv
  obtain ⟨h1, h2 | ⟨p, hp, hc⟩⟩ := hr b e.symm
  · omega
  · rw [cells_of hv p hp] at hc; cases hc
theorem turns_size {k C n : Nat} : Turns k C (fun V => n ≤ V.heap.size) := fun _ _ _ h g _ => Nat.le_trans h g.size
theorem Hd.drew {w W : World} {ps : List (Nat × Nat × Value)} (h : Hd w ps W) : Hd w ps W.drew := h.same (Below.drew h.below) fun _ _ => rfl
theorem turns_const {k B : Nat} {q : Prop} : Turns k B (fun _ => q) := fun _ _ _ h _ _ => h
theorem turns_and {k B : Nat} {I J : World → Prop} (h : Turns k B I) (g : Turns k B J) : Turns k B (fun W => I W ∧ J W) := fun X Y row hX hg hr => ⟨h X Y row hX.1 hg hr, g X Y row hX.2 hg hr⟩
end Go.Proofs.Ythkamfjjfkpekaa.Pe
