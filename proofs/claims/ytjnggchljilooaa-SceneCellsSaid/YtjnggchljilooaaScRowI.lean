/-
  ROWS OF NUMBERS IN A BLOCK OF THEIR OWN (layer 7, scene): told, and written in place.
-/
import Derived.Test.YtjnggchljilooaaScBase
import Derived.Laws.OwnMore
namespace Go.Proofs.Ytjnggchljilooaa.Sc
open Go Go.RowKit Go.Sort

/-- Numbers in a block of their own, from its head on. -/
def RI (w : World) (G : Nat) (v : Value) (L : List Int) : Prop := ∃ c, v = .slice (some ⟨G, 0, none⟩) L.length c ∧ L.length ≤ c ∧ (∀ j, w.frozen? ⟨G, j, none⟩ = false) ∧ ∀ i x, L[i]? = some x → w.cell? ⟨G, i, none⟩ = some (.int .i64 x)
theorem RI.is {w : World} {G : Nat} {v : Value} {L : List Int} (h : RI w G v L) : IS w v L := by
  obtain ⟨c, rfl, hc, -, hi⟩ := h
  exact ⟨_, c, rfl, hc, fun i x hx => ⟨G, 0, rfl, by rw [Nat.zero_add]; exact hi i x hx⟩⟩
theorem RI.same {w W : World} {G : Nat} {v : Value} {L : List Int} (h : RI w G v L) (hb : W.heap[G]? = w.heap[G]?) : RI W G v L := by
  obtain ⟨c, rfl, hc, hf, hl⟩ := h
  exact ⟨c, rfl, hc, fun j => (World.frozen?_of_block (a := ⟨G, j, none⟩) hb).trans (hf j), fun i x hx => (World.cell?_of_block (a := ⟨G, i, none⟩) hb).trans (hl i x hx)⟩
theorem RI.on {w W : World} {G : Nat} {v : Value} {L : List Int} (h : RI w G v L) (hG : G < w.heap.size) (hb : Below w.heap.size w W) : RI W G v L := h.same (hb.block _ hG)
theorem RI.put {w : World} {G i : Nat} {v : Value} {L : List Int} {x : Int} (h : RI w G v L) (hi : i < L.length) : RI (w.setCell ⟨G, i, none⟩ (.int .i64 x)) G v (L.set i x) := by
  obtain ⟨c, rfl, hc, hf, hl⟩ := h
  refine ⟨c, by rw [List.length_set], by rw [List.length_set]; exact hc, fun j => by simp [go_sem, hf], fun j y hy => ?_⟩
  have hz := hl i _ (List.getElem?_eq_getElem hi)
  by_cases e : j = i
  · subst e
    rw [List.getElem?_set_self hi] at hy
    cases hy
    simp [go_sem, hz]
  · rw [List.getElem?_set_ne (fun k => e k.symm)] at hy
    exact (World.cell?_setCell_other _ _ _ _ (fun k => e (by simp only [Addr.mk.injEq, and_true, true_and] at k; omega))).trans (hl j y hy)
theorem RI.of_own {w : World} {base : Nat} {t : TypeId} {v : Value} {L : List Int} (h : w.ownsRow base t 1 v L.length (L.map (.int .i64 ·))) (h0 : 0 < L.length) : ∃ G, base ≤ G ∧ G < w.heap.size ∧ RI w G v L := by
  rcases h.2 with ⟨-, hn⟩ | ⟨g, cap, cur, rfl, hb, hg, hn, -⟩
  · omega
  · refine ⟨g, hb, ?_, cap, rfl, hn, fun j => h.frozenAt j, fun i x hx => ?_⟩
    · exact (List.getElem?_eq_some_iff.1 (by simpa using hg)).1
    · have hi := (List.getElem?_eq_some_iff.1 hx).1
      rw [h.cellAt i (by omega), List.getElem?_map, hx]
      rfl
/-- A row of which so many numbers are raised already. -/
def upL (k : Nat) (n : Int) (L : List Int) : List Int := (L.take k).map (· + n) ++ L.drop k
theorem upL_len (k : Nat) (n : Int) (L : List Int) : (upL k n L).length = L.length := by
  unfold upL
  rw [List.length_append, List.length_map, ← List.length_append, List.take_append_drop]
theorem upL_zero (n : Int) (L : List Int) : upL 0 n L = L := by simp [upL]
theorem upL_all (n : Int) (L : List Int) : upL L.length n L = L.map (· + n) := by simp [upL]
theorem upL_left {k : Nat} {n : Int} {L : List Int} (h : k ≤ L.length) : ((L.take k).map (· + n)).length = k := by
  rw [List.length_map, List.length_take, Nat.min_eq_left h]
theorem upL_at {k : Nat} {n x : Int} {L : List Int} (h : L[k]? = some x) : (upL k n L)[k]? = some x := by
  have hk := Nat.le_of_lt (List.getElem?_eq_some_iff.1 h).1
  unfold upL
  rw [List.getElem?_append_right (by rw [upL_left hk]; exact Nat.le_refl _), upL_left hk, Nat.sub_self, List.getElem?_drop]
  exact h
theorem upL_step {k : Nat} {n x : Int} {L : List Int} (h : L[k]? = some x) : (upL k n L).set k (x + n) = upL (k + 1) n L := by
  have hk := (List.getElem?_eq_some_iff.1 h).1
  have hx := (List.getElem?_eq_some_iff.1 h).2
  unfold upL
  rw [List.set_append_right _ _ (by rw [upL_left (Nat.le_of_lt hk)]; exact Nat.le_refl _), upL_left (Nat.le_of_lt hk), Nat.sub_self, List.take_succ_eq_append_getElem hk, List.map_append, List.append_assoc, List.drop_eq_getElem_cons hk, List.set_cons_zero, hx]
  rfl
end Go.Proofs.Ytjnggchljilooaa.Sc
