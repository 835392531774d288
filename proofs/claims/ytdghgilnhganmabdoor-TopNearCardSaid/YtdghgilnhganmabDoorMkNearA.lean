/-
  THE WALK of mark.Near.
-/
import Derived.Test.YtdghgilnhganmabDoorMkWalkB
import Derived.Test.YtdghgilnhganmabDoorMkPlainC
import Derived.Test.YtdghgilnhganmabDoorShelf
import Derived.Maps.AppendAt
import Derived.OwnWalk
import Derived.Deep.Draws
namespace Go.Proofs.YtdghgilnhganmabDoor.Mk
open Go Go.RowKit

theorem info_int : (Tryd.prog.info? 3).map (fun i => (i.zero, i.size, i.bytes)) = some (some (.int .i64 0), 1, 8) := by kernel_rfl
/-- A row of the call's own is kept by whatever leaves what lay as it lay. -/
theorem own_below {w w' : World} {base : Nat} {v : Value} {n : Nat} {xs : List Value} {e : Nat} (h : w.ownsRow base e 1 v n xs) (hb : Below w.heap.size w w') : w'.ownsRow base e 1 v n xs :=
  h.kept (row := none) ⟨hb.os, hb.tape, hb.output, hb.size, fun k hk _ => hb.block k hk⟩ (by cases v.ownBlock <;> simp)

/-- A slice value reads as a list of numbers. -/
def RI (w : World) (v : Value) (L : List Int) : Prop :=
  ∃ g cap, v = .slice g L.length cap ∧ ∀ i x, L[i]? = some x → ∃ b, g = some ⟨b, 0, none⟩ ∧ w.cell? ⟨b, i, none⟩ = some (.int .i64 x)
theorem RI.nil (w : World) : RI w (.slice none 0 0) [] := ⟨none, 0, rfl, fun i x h => by simp at h⟩
theorem RI.below {w w' : World} {v : Value} {L : List Int} (h : RI w v L) (hb : Below w.heap.size w w') : RI w' v L := by
  obtain ⟨g, cap, hv, hc⟩ := h
  refine ⟨g, cap, hv, fun i x hx => ?_⟩
  obtain ⟨b, hg, hcell⟩ := hc i x hx
  exact ⟨b, hg, (hb.cell (p := ⟨b, i, none⟩) (World.block_lt_of_cell? w _ hcell)).trans hcell⟩
def NearPost (l : List UInt8) (w : World) (e : Ending) (w' : World) : Prop :=
  (∃ v, e = .returned (.tuple #[v, .int .i64 (if form l then 0 else 2)]) ∧ RI w' v (if form l then sorted (nearJ (numOf l) (signOf l) 6) else [])) ∧ Below w.heap.size w w'
end Go.Proofs.YtdghgilnhganmabDoor.Mk
