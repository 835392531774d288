/-
  Steps that are laid in memory.
-/
import Derived.Test.YteidabpflfkdcaaDoorBtWalkA
namespace Go.Proofs.YteidabpflfkdcaaDoor.Bt
open Go Go.RowKit

structure St where
  k : Int
  n : Int
deriving DecidableEq
/-- Steps laid in a slice. -/
def RS (w : World) (v : Value) (l : List St) : Prop :=
  ∃ g c, v = .slice g l.length c ∧ ∀ i s, l[i]? = some s → ∃ b o, g = some ⟨b, o, none⟩ ∧ b < w.heap.size ∧ w.cell? ⟨b, o + i * 2, none⟩ = some (.int .i64 s.k) ∧ w.cell? ⟨b, o + i * 2 + 1, none⟩ = some (.int .i64 s.n)
theorem RS.shape {w : World} {v : Value} {l : List St} (h : RS w v l) : ∃ g c, v = .slice g l.length c := by
  obtain ⟨g, c, e, _⟩ := h; exact ⟨g, c, e⟩
theorem RS.below {w w' : World} {v : Value} {l : List St} (h : RS w v l) (hb : Below w.heap.size w w') : RS w' v l := by
  obtain ⟨g, c, e, hi⟩ := h
  refine ⟨g, c, e, fun i s hs => ?_⟩
  obtain ⟨b, o, hg, hlt, h1, h2⟩ := hi i s hs
  exact ⟨b, o, hg, Nat.lt_of_lt_of_le hlt hb.size, (hb.cell (p := ⟨b, _, none⟩) hlt).trans h1, (hb.cell (p := ⟨b, _, none⟩) hlt).trans h2⟩
end Go.Proofs.YteidabpflfkdcaaDoor.Bt
