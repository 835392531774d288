/-
  WALKS (layer 5, carve): hulls, by the program.
-/
import Derived.Test.YtcjlijiifhggfaaCvValid
namespace Go.Proofs.Ytcjlijiifhggfaa.Cv
open Go Go.RowKit Go.Sort

/-- Three rows, laid in the views of a box. -/
def H3 (W : World) (C : Nat) (hs : Nat → List Bool) : Prop := ∀ k, k < 3 → ∃ g c, W.cell? ⟨C, k * 2 + 1, none⟩ = some (.slice g (hs k).length c) ∧ LB W (.slice g (hs k).length c) (hs k)
theorem H3.on {W V : World} {C : Nat} {hs : Nat → List Bool} (h : H3 W C hs) (hb : Below W.heap.size W V) : H3 V C hs := fun k hk => by
  obtain ⟨g, c, h1, h2⟩ := h k hk
  exact ⟨g, c, (hb.cell (p := ⟨C, _, none⟩) (World.block_lt_of_cell? _ _ h1)).trans h1, h2.below hb⟩
def hs3 (a b c : List Bool) (k : Nat) : List Bool := if k = 0 then a else if k = 1 then b else c
def hullOk (sx sy sz : Int) (a b c : List Bool) : Bool := viewB sx a.length && (viewB sy b.length && (viewB sz c.length && (decide (sx = sy) && decide (sy = sz))))
def hullB (s : Nat) (a b c : List Bool) : List Bool := (placesL s).map (onB s fun k i => (hs3 a b c k).getD i false)
def hullE (sx sy sz : Int) (a b c : List Bool) : Int := if hullOk sx sy sz a b c = true then 0 else 1
def hullS (sx sy sz : Int) (a b c : List Bool) : Int := if hullOk sx sy sz a b c = true then sx else 0
def hullL (sx sy sz : Int) (a b c : List Bool) : List Bool := if hullOk sx sy sz a b c = true then hullB sx.toNat a b c else []
end Go.Proofs.Ytcjlijiifhggfaa.Cv
