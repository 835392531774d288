/-
  WALKS (layer 9, loan): loans copied into a row of their own; a loan put in their place.
-/
import Derived.Test.YtaofjomocefdkaaLnBackP
import Derived.Deep.AppendSrc
import Derived.Lib.SliceRun
namespace Go.Proofs.Ytaofjomocefdkaa.Ln
open Go Go.RowKit Go.Sort
attribute [-go_sem] Builtin.append_

theorem flatL_len (l : List Loan) : (flatL l).length = l.length * 5 := by
  induction l with
  | nil => rfl
  | cons x r ih => simp only [flatL, List.length_cons, ih]; omega
theorem flatL_ls {w : World} {b o c : Nat} {l : List Loan} (h : LS w (.slice (some ⟨b, o, none⟩) l.length c) l) : ∀ j u, (flatL l)[j]? = some u → w.cell? ⟨b, o + j, none⟩ = some u := by
  obtain ⟨g, c', e, -, hi⟩ := h
  simp only [Value.slice.injEq] at e
  obtain ⟨rfl, -, rfl⟩ := e
  intro j u hu
  have hj := (List.getElem?_eq_some_iff.1 hu).1
  rw [flatL_len] at hj
  obtain ⟨x, hx⟩ : ∃ x, l[j / 5]? = some x := ⟨_, List.getElem?_eq_getElem (by omega)⟩
  obtain ⟨b', o', hg, hat, -⟩ := hi _ x hx
  simp only [Option.some.injEq, Addr.mk.injEq, and_true] at hg
  obtain ⟨rfl, rfl⟩ := hg
  obtain ⟨h0, h1, h2, h3, h4⟩ := flatL_at hx
  obtain ⟨d0, d1, d2, d3, d4⟩ := hat
  have hr : j % 5 = 0 ∨ j % 5 = 1 ∨ j % 5 = 2 ∨ j % 5 = 3 ∨ j % 5 = 4 := by omega
  rcases hr with hr | hr | hr | hr | hr
  · have e : j = j / 5 * 5 := by omega
    rw [e, h0] at hu
    cases hu
    rw [e]
    exact d0
  · have e : j = j / 5 * 5 + 1 := by omega
    rw [e, h1] at hu
    cases hu
    rw [e, ← Nat.add_assoc]
    exact d1
  · have e : j = j / 5 * 5 + 2 := by omega
    rw [e, h2] at hu
    cases hu
    rw [e, ← Nat.add_assoc]
    exact d2
  · have e : j = j / 5 * 5 + 3 := by omega
    rw [e, h3] at hu
    cases hu
    rw [e, ← Nat.add_assoc]
    exact d3
  · have e : j = j / 5 * 5 + 4 := by omega
    rw [e, h4] at hu
    cases hu
    rw [e, ← Nat.add_assoc]
    exact d4
/-- A row in a block of its own, from its head on. -/
def Row (w : World) (G n : Nat) (v : Value) (l : List Loan) : Prop := ∃ c, v = .slice (some ⟨G, 0, none⟩) n c ∧ l.length = n ∧ n ≤ c ∧ (∀ j, w.frozen? ⟨G, j, none⟩ = false) ∧ ∀ i x, l[i]? = some x → LAt w G (i * 5) x ∧ x.wf
theorem Row.ls {w : World} {G n : Nat} {v : Value} {l : List Loan} (h : Row w G n v l) : LS w v l := by
  obtain ⟨c, rfl, rfl, hc, -, hi⟩ := h
  exact ⟨_, c, rfl, hc, fun i x hx => ⟨G, 0, rfl, by rw [Nat.zero_add]; exact (hi i x hx).1, (hi i x hx).2⟩⟩
theorem run_appL (W : World) (Z b o c : Nat) (l : List Loan) (h0 : 0 < l.length) (hm : l.length ≤ 1000) (h : LS W (.slice (some ⟨b, o, none⟩) l.length c) l) :
    ∃ cap W', (Builtin.append_ #[22, 22] 22 #[.slice (some ⟨Z, 0, none⟩) 0 0, .slice (some ⟨b, o, none⟩) l.length c]).run Try.prog W = .ok (.slice (some ⟨W.heap.size, 0, none⟩) l.length cap) W' ∧
      Row W' W.heap.size l.length (.slice (some ⟨W.heap.size, 0, none⟩) l.length cap) l ∧ Below W.heap.size W W' ∧ W'.heap.size = W.heap.size + 1 := by
  obtain ⟨i0, hi0, hz0, hz1, hz2⟩ := info_parts info_ln
  have hwf := h.wfs
  have hfl := flatL_ls h
  have hsrc : Src Try.prog i0.size 22 (.slice (some ⟨b, o, none⟩) l.length c) l.length (flatL l) W := by
    rw [hz1]
    refine Src.ofSlice W Try.underlying22 _ _ _ _ (by rw [flatL_len]) (fun j u hu => ?_) (fun u hu => flatL_one l u hu)
    rw [Addr.add_lit]
    exact hfl j u hu
  have hrun := run_append_grow_src (P := Try.prog) W 22 22 22 26 i0 (.agg #[.string ⟨#[]⟩, .string ⟨#[]⟩, .int .i64 0, .int .i64 0, .int .i64 0]) Try.underlying22 hi0 hz0 (some ⟨Z, 0, none⟩) 0 0 [] (run_firstCells_some W.drew i0.size 0 ⟨Z, 0, none⟩ 0 0 [] (by simp) (by intro j u hu; simp at hu)) _ _ _ hsrc (by omega) (by omega) (by rw [hz2]; simp only [Builtin.nextslicecap]; rw [if_pos (by omega)]; omega)
  rw [Nat.zero_add] at hrun
  have hcap := grownCap_ge W l.length 0 26
  generalize grownCap W l.length 0 26 = cap at *
  refine ⟨cap, _, hrun, ?_, (Below.drew (Below.refl _ _)).alloc (by simp) _, by simp⟩
  have hh := World.alloc_heap_new W.drew (.cells (([] ++ flatL l).toArray ++ Builtin.zeroCells (Value.agg #[.string ⟨#[]⟩, .string ⟨#[]⟩, .int .i64 0, .int .i64 0, .int .i64 0]).cells (cap - l.length)) 26)
  have hcell : ∀ j u, (flatL l)[j]? = some u → (W.drew.alloc (.cells (([] ++ flatL l).toArray ++ Builtin.zeroCells (Value.agg #[.string ⟨#[]⟩, .string ⟨#[]⟩, .int .i64 0, .int .i64 0, .int .i64 0]).cells (cap - l.length)) 26)).cell? ⟨W.heap.size, j, none⟩ = some u := by
    intro j u hu
    have hj := (List.getElem?_eq_some_iff.1 hu).1
    have hh2 : (W.drew.alloc (.cells (([] ++ flatL l).toArray ++ Builtin.zeroCells (Value.agg #[.string ⟨#[]⟩, .string ⟨#[]⟩, .int .i64 0, .int .i64 0, .int .i64 0]).cells (cap - l.length)) 26)).heap[W.heap.size]? = some (.cells (([] ++ flatL l).toArray ++ Builtin.zeroCells (Value.agg #[.string ⟨#[]⟩, .string ⟨#[]⟩, .int .i64 0, .int .i64 0, .int .i64 0]).cells (cap - l.length)) 26) := hh
    simp only [World.cell?, hh2]
    rw [Array.getElem?_append_left (by simpa using hj)]
    simpa using hu
  refine ⟨cap, rfl, rfl, hcap, fun j => ?_, fun i x hx => ⟨?_, hwf x (List.mem_of_getElem? hx)⟩⟩
  · have hh2 : (W.drew.alloc (.cells (([] ++ flatL l).toArray ++ Builtin.zeroCells (Value.agg #[.string ⟨#[]⟩, .string ⟨#[]⟩, .int .i64 0, .int .i64 0, .int .i64 0]).cells (cap - l.length)) 26)).heap[W.heap.size]? = some (.cells (([] ++ flatL l).toArray ++ Builtin.zeroCells (Value.agg #[.string ⟨#[]⟩, .string ⟨#[]⟩, .int .i64 0, .int .i64 0, .int .i64 0]).cells (cap - l.length)) 26) := hh
    simp only [World.frozen?, hh2]
    rfl
  · obtain ⟨h1, h2, h3, h4, h5⟩ := flatL_at hx
    exact ⟨hcell _ _ h1, hcell _ _ h2, hcell _ _ h3, hcell _ _ h4, hcell _ _ h5⟩
set_option maxRecDepth 100000 in
/-- slices.Clone of loans. -/
theorem clone_any (b o c : Nat) (l : List Loan) (w : World) (h0 : 0 < l.length) (hm : l.length ≤ 1000) (h : LS w (.slice (some ⟨b, o, none⟩) l.length c) l) :
    Calls Try.prog 100 #[.slice (some ⟨b, o, none⟩) l.length c] w fun e w' => ∃ u, e = .returned u ∧ (∃ G, w.heap.size ≤ G ∧ Row w' G l.length u l) ∧ Below w.heap.size w w' := by
  have q22 : ∀ (w : World) (a : Option Addr) (n c n' c' : Nat), (binOp .eql 22 (.slice a n c) (.slice none n' c')).run Try.prog w = .ok (.bool a.isNone) w := fun w a n c n' c' => Lib.run_eql_slice_nil w _ _ a n c n' c' Try.underlying22
  obtain ⟨W1, hW1⟩ : ∃ W1, w.alloc (.cells #[] 26) = W1 := ⟨_, rfl⟩
  have hb1 : Below w.heap.size w W1 := by rw [← hW1]; exact by repeat (first | exact Below.refl _ _ | refine Below.alloc ?_ (by simp <;> omega) _ | refine bDrewN ?_ _ | refine Below.drew ?_)
  obtain ⟨cap, W2, hrun, hrow, hb2, hz2⟩ := run_appL W1 w.heap.size b o c l h0 hm (h.below hb1)
  have HR := Kp.mk hrow
  have HB : Kp (Below w.heap.size w W2) := ⟨hb1.trans (hb2.mono hb1.size)⟩
  have HZ : Kp (w.heap.size ≤ W1.heap.size) := ⟨hb1.size⟩
  rw [← hW1] at hrun
  obtain ⟨N, hN⟩ : ∃ N, l.length = N := ⟨_, rfl⟩
  rw [hN] at hrun HR ⊢
  rw [hW1] at hrun
  clear h0 hm h hb1 hrow hb2 hz2 hN
  rw [← hW1] at hrun
  simp only [World.size_alloc] at hrun
  have e1 : W1.heap.size = w.heap.size + 1 := by rw [← hW1]; simp
  rw [e1] at HR HZ
  clear e1 hW1
  go_enter Try.func100, Try.ntmps100
  go_wp2
  go_ret
  exact ⟨_, rfl, ⟨_, HZ.out, HR.out⟩, HB.out⟩
/-- One loan put in its place. -/
theorem Row.put {w : World} {G n i : Nat} {v : Value} {l : List Loan} {x : Loan} (h : Row w G n v l) (hi : i < n) (hx : x.wf) :
    Row (((((w.setCell ⟨G, i * 5, none⟩ (.string x.p)).setCell ⟨G, i * 5 + 1, none⟩ (.string x.t)).setCell ⟨G, i * 5 + 2, none⟩ (.int .i64 x.out)).setCell ⟨G, i * 5 + 3, none⟩ (.int .i64 x.due)).setCell ⟨G, i * 5 + 4, none⟩ (.int .i64 x.back)) G n v (l.set i x) := by
  obtain ⟨c, rfl, hn, hc, hf, hl⟩ := h
  refine ⟨c, rfl, by rw [List.length_set]; exact hn, hc, fun j => by simp [go_sem, hf], fun j y hy => ?_⟩
  obtain ⟨z, hz⟩ : ∃ z, l[i]? = some z := ⟨_, List.getElem?_eq_getElem (by omega)⟩
  obtain ⟨⟨c0, c1, c2, c3, c4⟩, -⟩ := hl i z hz
  rcases set_cases hy with ⟨rfl, rfl⟩ | ⟨hne, hy⟩
  · refine ⟨?_, hx⟩
    exact ⟨by simp [go_sem, c0], by simp [go_sem, c1], by simp [go_sem, c2], by simp [go_sem, c3], by simp [go_sem, c4]⟩
  · obtain ⟨hat, hw⟩ := hl j y hy
    refine ⟨?_, hw⟩
    have key : ∀ f, f < 5 → ∀ u, w.cell? ⟨G, j * 5 + f, none⟩ = some u → (((((w.setCell ⟨G, i * 5, none⟩ (.string x.p)).setCell ⟨G, i * 5 + 1, none⟩ (.string x.t)).setCell ⟨G, i * 5 + 2, none⟩ (.int .i64 x.out)).setCell ⟨G, i * 5 + 3, none⟩ (.int .i64 x.due)).setCell ⟨G, i * 5 + 4, none⟩ (.int .i64 x.back)).cell? ⟨G, j * 5 + f, none⟩ = some u := by
      intro f hf5 u hu
      have ne : ∀ k, k < 5 → (⟨G, i * 5 + k, none⟩ : Addr) ≠ ⟨G, j * 5 + f, none⟩ := fun k hk e => by
        simp only [Addr.mk.injEq, and_true, true_and] at e
        omega
      exact (World.cell?_setCell_other _ _ _ _ (ne 4 (by omega))).trans ((World.cell?_setCell_other _ _ _ _ (ne 3 (by omega))).trans ((World.cell?_setCell_other _ _ _ _ (ne 2 (by omega))).trans ((World.cell?_setCell_other _ _ _ _ (ne 1 (by omega))).trans ((World.cell?_setCell_other _ _ _ _ (ne 0 (by omega))).trans hu))))
    exact ⟨key 0 (by omega) _ hat.c0, key 1 (by omega) _ hat.c1, key 2 (by omega) _ hat.c2, key 3 (by omega) _ hat.c3, key 4 (by omega) _ hat.c4⟩
theorem Row.on {w W : World} {G n : Nat} {v : Value} {l : List Loan} (h : Row w G n v l) (hG : G < w.heap.size) (hb : Below w.heap.size w W) : Row W G n v l := by
  obtain ⟨c, rfl, hn, hc, hf, hl⟩ := h
  exact ⟨c, rfl, hn, hc, fun j => (World.frozen?_of_block (a := ⟨G, j, none⟩) (hb.block _ hG)).trans (hf j), fun i x hx => ⟨(hl i x hx).1.on hb, (hl i x hx).2⟩⟩
theorem Row.same {w W : World} {G n : Nat} {v : Value} {l : List Loan} (h : Row w G n v l) (hb : W.heap[G]? = w.heap[G]?) : Row W G n v l := by
  obtain ⟨c, rfl, hn, hc, hf, hl⟩ := h
  exact ⟨c, rfl, hn, hc, fun j => (World.frozen?_of_block (a := ⟨G, j, none⟩) hb).trans (hf j), fun i x hx => ⟨(hl i x hx).1.same hb, (hl i x hx).2⟩⟩
end Go.Proofs.Ytaofjomocefdkaa.Ln
