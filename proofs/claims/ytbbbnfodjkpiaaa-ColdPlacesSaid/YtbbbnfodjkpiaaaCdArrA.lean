/-
  WALKS (layer 4, cold): rows of hours of the call's own.
-/
import Derived.Test.YtbbbnfodjkpiaaaCdROverB
import Derived.Test.YtbbbnfodjkpiaaaCdRange
import Derived.Test.YtbbbnfodjkpiaaaCdStretch
import Derived.Test.YtbbbnfodjkpiaaaCdGrow
import Derived.Deep.AppendLies
namespace Go.Proofs.Ytbbbnfodjkpiaaa.Cd
open Go Go.RowKit Go.Sort

/-- A row of hours of the call's own. -/
def OwnI (W : World) (B0 : Nat) (v : Value) (hs : List Int) : Prop := W.ownsRow B0 3 1 v hs.length (hs.map (.int .i64 ·))
theorem OwnI.nil (w : World) (B0 : Nat) : OwnI w B0 (.slice none 0 0) [] := ⟨rfl, .inl ⟨rfl, rfl⟩⟩
theorem OwnI.on {w W : World} {B0 : Nat} {v : Value} {l : List Int} (h : OwnI w B0 v l) (hb : Below w.heap.size w W) : OwnI W B0 v l := h.kept (grown_below hb none) (by cases hv : v.ownBlock <;> simp)
theorem OwnI.more {W : World} {B0 gb cap : Nat} {l : List Int} {r : Int} (h : W.ownsRow B0 3 1 (.slice (some ⟨gb, 0, none⟩) (l.length + 1) cap) (l.length + 1) (l.map (.int .i64 ·) ++ [.int .i64 r])) : OwnI W B0 (.slice (some ⟨gb, 0, none⟩) (l.length + 1) cap) (l ++ [r]) := by
  unfold OwnI
  rw [List.length_append, List.map_append]
  exact h
theorem info_int : (Try.prog.info? 3).map (fun i => (i.zero, i.size, i.bytes)) = some (some (.int .i64 0), 1, 8) := by kernel_rfl
theorem ints_one (l : List Int) : ∀ u ∈ l.map (Value.int .i64 ·), u.oneCell' = true := by
  intro u hu
  obtain ⟨x, -, rfl⟩ := List.mem_map.1 hu
  rfl
theorem newsI_one {W : World} {Y : Nat} {r : Int} (h0 : W.cell? ⟨Y, 0, none⟩ = some (.int .i64 r)) :
    ∀ j u, ([Value.int .i64 r] : List Value)[j]? = some u → W.cell? ((⟨Y, 0, none⟩ : Addr).add j) = some u := by
  intro j u hu
  match j with
  | 0 => simp at hu; subst hu; exact h0
  | j + 1 => simp at hu
end Go.Proofs.Ytbbbnfodjkpiaaa.Cd
