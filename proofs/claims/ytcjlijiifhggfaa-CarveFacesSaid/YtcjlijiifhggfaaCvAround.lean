/-
  WALKS (layer 5, carve): a grain's neighbours; the faces of a block, in their order.
-/
import Derived.Test.YtcjlijiifhggfaaCvGrains
import Derived.Deep.WholeRow
namespace Go.Proofs.Ytcjlijiifhggfaa.Cv
open Go Go.RowKit Go.Sort

def aroundL (g : Gr) : List Gr := [⟨g.x - 1, g.y, g.z⟩, ⟨g.x + 1, g.y, g.z⟩, ⟨g.x, g.y - 1, g.z⟩, ⟨g.x, g.y + 1, g.z⟩, ⟨g.x, g.y, g.z - 1⟩, ⟨g.x, g.y, g.z + 1⟩]
def aroundV (g : Gr) : Array Value := #[.int .i64 (g.x - 1), .int .i64 g.y, .int .i64 g.z, .int .i64 (g.x + 1), .int .i64 g.y, .int .i64 g.z, .int .i64 g.x, .int .i64 (g.y - 1), .int .i64 g.z, .int .i64 g.x, .int .i64 (g.y + 1), .int .i64 g.z, .int .i64 g.x, .int .i64 g.y, .int .i64 (g.z - 1), .int .i64 g.x, .int .i64 g.y, .int .i64 (g.z + 1)]
/-- Coordinates that are small. -/
def small (g : Gr) : Prop := (-1000 ≤ g.x ∧ g.x ≤ 1000) ∧ (-1000 ≤ g.y ∧ g.y ≤ 1000) ∧ -1000 ≤ g.z ∧ g.z ≤ 1000
theorem around_res (w : World) (c : Array Value) (hc : c.size = 18) (tmps : Array Value) (ht : tmps.getD 2 undef = .pointer (some ⟨w.heap.size, 0, none⟩)) : (results Try.f75 tmps).run Try.prog (w.alloc (.cells c 71)) = .ok (Value.agg c) (w.alloc (.cells c 71)) := by
  have hi : (Try.prog.info? 71).map (·.size) = some c.size := by rw [hc]; kernel_rfl
  have h := run_loadVar_new (P := Try.prog) w 71 c 6 48 Try.underlying71 hi
  have ht' : tmps[2]?.getD undef = .pointer (some ⟨w.heap.size, 0, none⟩) := by rw [← ht]; simp
  simp [results, Try.results75, asAddr, ht', h]
theorem around_any (g : Gr) (h : small g) (w : World) : Calls Try.prog 75 #[.agg #[.int .i64 g.x, .int .i64 g.y, .int .i64 g.z]] w fun e w' => e = .returned (.agg (aroundV g)) ∧ Below w.heap.size w w' := by
  obtain ⟨x, y, z⟩ := g
  obtain ⟨⟨x0, x1⟩, ⟨y0, y1⟩, z0, z1⟩ := h
  simp only at x0 x1 y0 y1 z0 z1
  have a1 : IntKind.i64.wrap (x - 1) = x - 1 := IntWalk.i64_in _ (by omega)
  have a2 : IntKind.i64.wrap (x + 1) = x + 1 := IntWalk.i64_in _ (by omega)
  have a3 : IntKind.i64.wrap (y - 1) = y - 1 := IntWalk.i64_in _ (by omega)
  have a4 : IntKind.i64.wrap (y + 1) = y + 1 := IntWalk.i64_in _ (by omega)
  have a5 : IntKind.i64.wrap (z - 1) = z - 1 := IntWalk.i64_in _ (by omega)
  have a6 : IntKind.i64.wrap (z + 1) = z + 1 := IntWalk.i64_in _ (by omega)
  clear x0 x1 y0 y1 z0 z1
  simp only [aroundV]
  go_enter Try.func75, Try.ntmps75
  go_wp2
  exact bodyPost_ret (around_res (w.alloc (.cells #[.int .i64 x, .int .i64 y, .int .i64 z] 48)) _ rfl _ (by simp)) rfl ⟨rfl, by repeat (first | exact Below.refl _ _ | refine Below.alloc ?_ (by simp <;> omega) _ | refine bDrewN ?_ _ | refine Below.drew ?_)⟩
/-- The faces of a grain: with which neighbours that are not there. -/
def facesG (s : Nat) (h : List Bool) (g : Gr) (l : List Gr) : List (Gr × Gr) := (l.filter fun n => !hasB s h n).map fun n => (g, n)
def facesO (s : Nat) (h : List Bool) (l : List Gr) : List (Gr × Gr) := l.flatMap fun g => facesG s h g (aroundL g)
def facesL (s : Nat) (h : List Bool) : List (Gr × Gr) := facesO s h (grainsL s h)
theorem facesO_snoc {s : Nat} {h : List Bool} {l : List Gr} {g : Gr} : facesO s h (l ++ [g]) = facesO s h l ++ facesG s h g (aroundL g) := by
  unfold facesO
  rw [List.flatMap_append]
  simp
theorem facesO_prefix {s : Nat} {h : List Bool} {l : List Gr} (hl : l <+: grainsL s h) : facesO s h l <+: facesL s h := by
  obtain ⟨r, hr⟩ := hl
  exact ⟨facesO s h r, by unfold facesL facesO; rw [← hr, List.flatMap_append]⟩
theorem facesG_succ {s : Nat} {h : List Bool} {g n : Gr} {k : Nat} (hn : (aroundL g)[k]? = some n) : facesG s h g ((aroundL g).take (k + 1)) = facesG s h g ((aroundL g).take k) ++ if hasB s h n = true then [] else [(g, n)] := by
  unfold facesG
  rw [List.take_add_one, hn, List.filter_append, List.map_append]
  congr 1
  cases hh : hasB s h n <;> simp [hh]
theorem faces_prefix {s : Nat} {h : List Bool} {l : List Gr} {g : Gr} {k : Nat} (hl : l ++ [g] <+: grainsL s h) : facesO s h l ++ facesG s h g ((aroundL g).take k) <+: facesL s h := by
  refine List.IsPrefix.trans ?_ (facesO_prefix hl)
  rw [facesO_snoc]
  refine (List.prefix_append_right_inj _).2 ?_
  unfold facesG
  exact ((List.take_prefix k (aroundL g)).filter _).map _
def encF (p : Gr × Gr) : Array Value := #[.agg #[.int .i64 p.1.x, .int .i64 p.1.y, .int .i64 p.1.z], .agg #[.int .i64 p.2.x, .int .i64 p.2.y, .int .i64 p.2.z]]
theorem around_len (g : Gr) : (aroundL g).length = 6 := rfl
theorem mem_small {s : Nat} (hs : s ≤ 10) {g : Gr} (h : insB s g = true) : small g := by
  obtain ⟨⟨a, b⟩, ⟨c, d⟩, e, f⟩ := ins_iff.1 h
  exact ⟨⟨by omega, by omega⟩, ⟨by omega, by omega⟩, by omega, by omega⟩
end Go.Proofs.Ytcjlijiifhggfaa.Cv
