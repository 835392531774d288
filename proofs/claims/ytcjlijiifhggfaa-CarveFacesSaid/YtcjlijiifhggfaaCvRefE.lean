/-
  WALKS (layer 5, carve): a row of truth values appended to an empty one: a row of the call's own.
-/
import Derived.Test.YtcjlijiifhggfaaCvRefD
import Derived.Deep.AppendSrc
namespace Go.Proofs.Ytcjlijiifhggfaa.Cv
open Go Go.RowKit Go.Sort

theorem run_app0 (W : World) (Z b o c : Nat) (h : List Bool) (h0 : 0 < h.length) (hm : h.length ≤ 1000) (hc : ∀ j x, h[j]? = some x → W.cell? ⟨b, o + j, none⟩ = some (.bool x)) :
    ∃ cap W', (Builtin.append_ #[22, 22] 22 #[.slice (some ⟨Z, 0, none⟩) 0 0, .slice (some ⟨b, o, none⟩) h.length c]).run Try.prog W = .ok (.slice (some ⟨W.heap.size, 0, none⟩) h.length cap) W' ∧
      MR W.heap.size h.length cap h W' ∧ Below W.heap.size W W' ∧ W'.heap.size = W.heap.size + 1 := by
  obtain ⟨i0, hi0, hz0, hz1, hz2⟩ := info_parts info_bool
  have hsrc : Src Try.prog i0.size 22 (.slice (some ⟨b, o, none⟩) h.length c) h.length (h.map .bool) W := by
    rw [hz1]
    refine Src.ofSlice W Try.underlying22 _ _ _ _ (by simp) (fun j u hu => ?_) (fun u hu => ?_)
    · rw [List.getElem?_map] at hu
      obtain ⟨x, hx, rfl⟩ := Option.map_eq_some_iff.1 hu
      rw [Addr.add_lit]
      exact hc j x hx
    · obtain ⟨x, -, rfl⟩ := List.mem_map.1 hu
      rfl
  have hrun := run_append_grow_src (P := Try.prog) W 22 22 22 4 i0 (.bool false) Try.underlying22 hi0 hz0 (some ⟨Z, 0, none⟩) 0 0 [] (run_firstCells_some W.drew i0.size 0 ⟨Z, 0, none⟩ 0 0 [] (by simp) (by intro j u hu; simp at hu)) _ _ _ hsrc (by omega) (by omega) (by rw [hz2]; simp only [Builtin.nextslicecap]; rw [if_pos (by omega)]; omega)
  rw [Nat.zero_add] at hrun
  have hcap := grownCap_ge W h.length 0 4
  generalize grownCap W h.length 0 4 = cap at *
  refine ⟨cap, _, hrun, ?_, (Below.drew (Below.refl _ _)).alloc (by simp) _, by simp⟩
  have hh := World.alloc_heap_new W.drew (.cells (([] ++ h.map Value.bool).toArray ++ Builtin.zeroCells (Value.bool false).cells (cap - h.length)) 4)
  have hM := (Array.getElem?_eq_some_iff.1 hh).1
  refine ⟨⟨some ⟨W.heap.size, 0, none⟩, cap, rfl, hcap, fun i x hx => ⟨W.heap.size, 0, rfl, hM, ?_⟩⟩, rfl, fun j => frozen_of_row _ W.heap.size j _ _ hh⟩
  rw [Nat.zero_add, cell_of_row _ W.heap.size i _ _ (0, 0) hh]
  have hi := (List.getElem?_eq_some_iff.1 hx).1
  rw [Array.getElem?_append_left (by simpa using hi)]
  simp only [List.nil_append, List.getElem?_toArray, List.getElem?_map, hx]
  rfl
end Go.Proofs.Ytcjlijiifhggfaa.Cv
