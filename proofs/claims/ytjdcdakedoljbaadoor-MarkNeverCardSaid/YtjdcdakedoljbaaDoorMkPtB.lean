/-
  Parts that came in, opened.
-/
import Derived.Test.YtjdcdakedoljbaaDoorMkPtA
import Derived.Deep.Slices
import Derived.Deep.SlicePairs
namespace Go.Proofs.YtjdcdakedoljbaaDoor.Mk
open Go Go.RowKit Go.Maps Go.Sort Go.Deep Go.ChangeShapes Go.WideShapes

set_option maxRecDepth 100000 in
theorem label_trod {H : Type} {enc : TypeId × Value → H} {W : World} {fu : Nat} {lv : Value} {x : DataW H × List MemPlace}
    (h : DataW.trod enc Tryd.prog W 0 (fun _ => true) true fu 35 [lv] = some x) : ∃ L, RL W lv L ∧ Fits L ∧ L.length ≤ maxLen := by
  rcases open_slice_pairs Tryd.underlying35 Tryd.underlying70 (by kernel_rfl) rfl rfl (by kernel_rfl) (by kernel_rfl) h with ⟨hcs, _⟩ | ⟨a, len, cap, m, n, V0, V1, D0, D1, P0, P1, hcs, _, hl, hm, hmm, _, hi⟩
  · simp only [List.cons.injEq, and_true] at hcs
    subst hcs
    exact ⟨[], ⟨none, 0, rfl, fun i f hf => by simp at hf⟩, ⟨fun f hf => by cases hf⟩, Nat.zero_le _⟩
  · simp only [List.cons.injEq, and_true] at hcs
    subst hcs
    have each : ∀ i, i < len → ∃ q : FB, W.cell? (a.add (i * 2)) = some (.string q.1) ∧ W.cell? (a.add (i * 2 + 1)) = some (.string q.2) ∧ q.1.size ≤ maxLen ∧ q.2.size ≤ maxLen := by
      intro i hlt
      obtain ⟨c0, c1, h0, h1⟩ := hi i (by rw [hmm]; split <;> omega)
      obtain ⟨s0, e0, _, z0⟩ := DataW.trod_string Tryd.underlying9 h0
      obtain ⟨s1, e1, _, z1⟩ := DataW.trod_string Tryd.underlying9 h1
      simp only [List.cons.injEq, and_true] at e0 e1
      rw [e0] at c0
      rw [e1] at c1
      exact ⟨(s0, s1), c0, c1, z0, z1⟩
    haveI : Inhabited FB := ⟨(⟨#[]⟩, ⟨#[]⟩)⟩
    obtain ⟨q, hq⟩ := choose_lt each
    refine ⟨(List.range len).map q, ⟨some a, cap, by simp, fun i f hf => ?_⟩, ⟨fun f hf => ?_⟩, by simp; omega⟩
    · have hil : i < len := by
        have := (List.getElem?_eq_some_iff.1 hf).1
        simpa using this
      obtain ⟨c0, c1, _, _⟩ := hq i hil
      have hfe : q i = f := by
        rw [List.getElem?_map, List.getElem?_range hil] at hf
        simpa using hf
      rw [hfe] at c0 c1
      obtain ⟨b, off, spot⟩ := a
      have hspot : spot = none := by
        obtain ⟨e0, _⟩ := hq 0 (by omega)
        simpa [Addr.add] using World.cell?_spot e0
      subst hspot
      rw [add_plain] at c0 c1
      have hb := World.block_lt_of_cell? _ _ c0
      exact ⟨b, off, rfl, hb, c0, by rw [Nat.add_assoc]; exact c1⟩
    · obtain ⟨i, hi1, rfl⟩ := List.mem_map.1 hf
      obtain ⟨_, _, z0, z1⟩ := hq i (by simpa using hi1)
      exact ⟨z0, z1⟩
theorem cell3 : Tryd.prog.cellsOf 52 = 3 := by kernel_rfl
theorem cell1s : Tryd.prog.cellsOf 9 = 1 := by kernel_rfl
theorem cell1i : Tryd.prog.cellsOf 3 = 1 := by kernel_rfl
theorem cell1l : Tryd.prog.cellsOf 35 = 1 := by kernel_rfl
/-- One part, as it came in. -/
structure PartAt (W : World) (a : Addr) (i : Nat) (q : PB × Value) : Prop where
  c0 : W.cell? (a.add (i * 3)) = some (.string q.1.sign)
  c1 : W.cell? (a.add (i * 3 + 1)) = some (.int .i64 q.1.from_)
  c2 : W.cell? (a.add (i * 3 + 2)) = some q.2
  lab : RL W q.2 q.1.label
  fit : FitP q.1
  wf : (Lit.int .i64 q.1.from_).wf = true
set_option maxRecDepth 100000 in
theorem open_parts {H : Type} {enc : TypeId × Value → H} {W : World} {r : Reach} {b0 : Nat} {v : Value} {d : DataW H} {p : List MemPlace} (hv : Value.okWide Tryd.prog W r b0 44 v)
    (h : DataW.Trod enc Tryd.prog W 0 (fun _ => true) true 44 v d p) : ∃ ps, RP W v ps ∧ FitsP ps ∧ ps.length ≤ maxLen ∧ ∀ x ∈ ps, (Lit.int .i64 x.from_).wf = true := by
  obtain ⟨a0, len, cap, rfl⟩ := WideShapes.okWide_slice Tryd.underlying44 hv
  obtain ⟨fu, hf⟩ := h
  rcases Deep.open_slice Tryd.underlying44 hf with ⟨hcs, _⟩ | ⟨a, len', cap', m, n, D, Pl, hcs, _, hl, hm, hmm, _, hi⟩
  · simp [Value.cells] at hcs
    obtain ⟨rfl, rfl, rfl⟩ := hcs
    exact ⟨[], ⟨none, 0, rfl, Nat.le_refl _, fun i f hf => by simp at hf⟩, ⟨fun f hf => by cases hf⟩, Nat.zero_le _, fun x hx => by cases hx⟩
  · simp [Value.cells] at hcs
    obtain ⟨rfl, rfl, rfl⟩ := hcs
    have each : ∀ i, i < len → ∃ q : PB × Value, PartAt W a i q := by
      intro i hlt
      obtain ⟨cs', h1, h2⟩ := hi i (by rw [hmm]; split <;> omega)
      rw [cell3] at h1
      obtain ⟨_, hlen, hcell⟩ := World.cells?_some h1
      obtain ⟨xs, k, _, _, _, hxl, hg⟩ := DataW.trod_struct Tryd.underlying52 h2
      match cs', hlen, xs, hxl with
      | [v0, v1, v2], _, [y0, y1, y2], _ =>
        have g0 := hg 0 _ rfl
        have g1 := hg 1 _ rfl
        have g2 := hg 2 _ rfl
        simp [cell1s, cell1i, cell1l] at g0 g1 g2
        obtain ⟨s0, e0, _, z0⟩ := DataW.trod_string Tryd.underlying9 g0
        obtain ⟨n1, e1, _, z1⟩ := DataW.trod_int Tryd.underlying3 g1
        obtain ⟨L, hL, hF, hLn⟩ := label_trod g2
        simp only [List.cons.injEq, and_true] at e0 e1
        have k0 := hcell 0 (by omega)
        have k1 := hcell 1 (by omega)
        have k2 := hcell 2 (by omega)
        rw [Go.Deep.add_add] at k0 k1 k2
        exact ⟨(⟨s0, n1, L⟩, v2), by rw [← e0]; simpa using k0, by rw [← e1]; simpa using k1, by simpa using k2, hL, ⟨z0, hF, hLn⟩, z1⟩
    haveI : Inhabited (PB × Value) := ⟨(⟨⟨#[]⟩, 0, []⟩, undef)⟩
    obtain ⟨q, hq⟩ := choose_lt each
    refine ⟨(List.range len).map fun i => (q i).1, ⟨some a, cap, by simp, by simp; omega, fun i x hx => ?_⟩, ⟨fun x hx => ?_⟩, by simp; omega, fun x hx => ?_⟩
    · have hil : i < len := by
        have := (List.getElem?_eq_some_iff.1 hx).1
        simpa using this
      have hp := hq i hil
      have hfe : (q i).1 = x := by
        rw [List.getElem?_map, List.getElem?_range hil] at hx
        simpa using hx
      obtain ⟨c0, c1, c2, hl, _, _⟩ := hp
      rw [hfe] at c0 c1 hl
      obtain ⟨b, off, spot⟩ := a
      have hspot : spot = none := by
        have e0 := (hq 0 (by omega)).c0
        simpa [Addr.add] using World.cell?_spot e0
      subst hspot
      rw [add_plain] at c0 c1 c2
      have hb := World.block_lt_of_cell? _ _ c0
      exact ⟨b, off, (q i).2, rfl, hb, c0, by rw [Nat.add_assoc]; exact c1, by rw [Nat.add_assoc]; exact c2, hl⟩
    · obtain ⟨i, hi1, rfl⟩ := List.mem_map.1 hx
      exact (hq i (by simpa using hi1)).fit
    · obtain ⟨i, hi1, rfl⟩ := List.mem_map.1 hx
      exact (hq i (by simpa using hi1)).wf
end Go.Proofs.YtjdcdakedoljbaaDoor.Mk
