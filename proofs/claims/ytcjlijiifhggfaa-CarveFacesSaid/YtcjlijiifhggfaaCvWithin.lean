/-
  WALKS (layer 5, carve): whether a block is within another.
-/
import Derived.Test.YtcjlijiifhggfaaCvCarved
namespace Go.Proofs.Ytcjlijiifhggfaa.Cv
open Go Go.RowKit Go.Sort
attribute [local go_sem] Oper.semAt_some

def alikeB (s t : Int) (m n : Nat) : Bool := blockB s m && (blockB t n && decide (s = t))
/-- The call's own cells. -/
def wiP (Z s M2 c2 : Nat) (g2 : Option Addr) : List (Nat × Nat × Value) := [(Z + 1, 0, .int .i64 s), (Z + 1, 1, .slice g2 M2 c2), (Z + 1 + 1, 0, .bool false)]
theorem wi_turns {w : World} {Z s M2 c2 B : Nat} {g2 : Option Addr} (hB : w.heap.size ≤ B) (h : Z + 2 < B) : Turns 0 B (Hd w (wiP Z s M2 c2 g2)) :=
  Hd.turns hB fun p hp => by
    simp only [wiP, List.mem_cons, List.not_mem_nil, or_false] at hp
    rcases hp with rfl | rfl | rfl <;> simp only <;> omega
theorem wi_stop {w W : World} {Z s M2 c2 : Nat} {g2 : Option Addr} (hi : Hd w (wiP Z s M2 c2 g2) W) (h : w.heap.size ≤ Z) : Hd w (wiP Z s M2 c2 g2) (W.setCell ⟨Z + 1 + 1, 0, none⟩ (.bool false)) := by
  obtain ⟨h1, z1⟩ := hi.cells (Z + 1, 0, .int .i64 s) (by simp [wiP])
  obtain ⟨h2, z2⟩ := hi.cells (Z + 1, 1, .slice g2 M2 c2) (by simp [wiP])
  obtain ⟨h3, z3⟩ := hi.cells (Z + 1 + 1, 0, .bool false) (by simp [wiP])
  simp only at h1 z1 h2 z2 h3 z3
  refine ⟨hi.below.setCell (by simp; omega) _, ?_⟩
  intro p hp
  simp only [wiP, List.mem_cons, List.not_mem_nil, or_false] at hp
  rcases hp with rfl | rfl | rfl <;> constructor <;> simp [go_sem, h1, z1, h2, z2, h3, z3]
def withinB (s t : Int) (h k : List Bool) : Bool := alikeB s t h.length k.length && (grainsL s.toNat h).all (hasB s.toNat k)
end Go.Proofs.Ytcjlijiifhggfaa.Cv
