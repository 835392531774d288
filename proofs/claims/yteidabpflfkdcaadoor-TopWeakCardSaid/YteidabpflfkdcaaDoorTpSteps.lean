/-
  Steps of the call's own: one, or two, in a slice; Run of them.
-/
import Derived.Test.YteidabpflfkdcaaDoorTpBathsP
import Derived.Test.YteidabpflfkdcaaDoorTpWeakP
namespace Go.Proofs.YteidabpflfkdcaaDoor.Tp
open Go Go.RowKit Go.Proofs.YteidabpflfkdcaaDoor.Bt

theorem rs_one {W : World} {B : Nat} {k n : Int} (h0 : W.cell? ⟨B, 0, none⟩ = some (.int .i64 k)) (h1 : W.cell? ⟨B, 1, none⟩ = some (.int .i64 n)) : RS W (.slice (some ⟨B, 0, none⟩) 1 1) [⟨k, n⟩] := by
  refine ⟨_, _, rfl, fun i s hs => ?_⟩
  match i with
  | 0 =>
    simp at hs
    subst hs
    exact ⟨B, 0, rfl, World.block_lt_of_cell? _ _ h0, h0, h1⟩
  | i + 1 => simp at hs
theorem rs_two {W : World} {B : Nat} {k n k2 n2 : Int} (h0 : W.cell? ⟨B, 0, none⟩ = some (.int .i64 k)) (h1 : W.cell? ⟨B, 1, none⟩ = some (.int .i64 n)) (h2 : W.cell? ⟨B, 2, none⟩ = some (.int .i64 k2)) (h3 : W.cell? ⟨B, 3, none⟩ = some (.int .i64 n2)) : RS W (.slice (some ⟨B, 0, none⟩) 2 2) [⟨k, n⟩, ⟨k2, n2⟩] := by
  refine ⟨_, _, rfl, fun i s hs => ?_⟩
  match i with
  | 0 =>
    simp at hs
    subst hs
    exact ⟨B, 0, rfl, World.block_lt_of_cell? _ _ h0, h0, h1⟩
  | 1 =>
    simp at hs
    subst hs
    exact ⟨B, 0, rfl, World.block_lt_of_cell? _ _ h0, h2, h3⟩
  | i + 2 => simp at hs
end Go.Proofs.YteidabpflfkdcaaDoor.Tp
