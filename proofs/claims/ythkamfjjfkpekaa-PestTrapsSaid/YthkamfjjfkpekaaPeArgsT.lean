/-
  Traps that came in: opened (layer 8, pest).
-/
import Derived.Test.YthkamfjjfkpekaaPeArgs
import Derived.Test.YthkamfjjfkpekaaPeTrap
namespace Go.Proofs.Ythkamfjjfkpekaa.Pe
open Go Go.RowKit Go.Joins Go.Deep Go.ChangeShapes Go.WideShapes Go.ChangeAt

theorem cTrap : Try.prog.cellsOf 53 = 3 := by kernel_rfl
theorem cBool : Try.prog.cellsOf 4 = 1 := by kernel_rfl
section
variable {H : Type} {enc : TypeId × Value → H} {W : World}
theorem trap_cells {fu : Nat} {c0 c1 c2 : Value} {x : DataW H × List MemPlace} (h : DataW.trod enc Try.prog W 0 (fun _ => true) true fu 53 [c0, c1, c2] = some x) : ∃ d : Tp, c0 = .int .i64 d.room ∧ c1 = .int .i64 d.day ∧ c2 = .bool d.found := by
  obtain ⟨y0, y1, y2, n, -, -, h0, h1, h2⟩ := trod_struct3 Try.underlying53 h
  simp only [cInt, cBool, List.drop_zero, List.drop_succ_cons, List.take_succ_cons, List.take_zero] at h0 h1 h2
  obtain ⟨a, rfl, -⟩ := one_int h0
  obtain ⟨b, rfl, -⟩ := one_int h1
  obtain ⟨c, e, -⟩ := DataW.trod_bool Try.underlying4 h2
  simp only [List.cons.injEq, and_true] at e
  exact ⟨⟨a, b, c⟩, rfl, rfl, e⟩
set_option maxRecDepth 100000 in
theorem traps_open {fu : Nat} {c : Value} {x : DataW H × List MemPlace} (hf : DataW.trod enc Try.prog W 0 (fun _ => true) true fu 49 [c] = some x) : ∃ L, TS W c L ∧ L.length ≤ maxLen := by
  rcases open_slice Try.underlying49 hf with ⟨hcs, _⟩ | ⟨a, len, cap, m, n, D, Pl, hcs, _, hl, hm, hmm, _, hi⟩
  · simp only [List.cons.injEq, and_true] at hcs
    subst hcs
    exact ⟨[], ⟨none, 0, rfl, fun i f hf => by simp at hf⟩, Nat.zero_le _⟩
  · simp only [List.cons.injEq, and_true] at hcs
    subst hcs
    obtain ⟨L, hL, hq⟩ := chosen (n := len) (Q := fun i (q : Tp) => W.cell? (a.add (i * 3)) = some (.int .i64 q.room) ∧ W.cell? (a.add (i * 3 + 1)) = some (.int .i64 q.day) ∧ W.cell? (a.add (i * 3 + 2)) = some (.bool q.found)) (fun i hlt => by
      obtain ⟨cs', hc, ht'⟩ := hi i (by rw [hmm]; split <;> omega)
      rw [cTrap] at hc
      obtain ⟨_, hcl, hat⟩ := World.cells?_some hc
      match cs', hcl with
      | [c0, c1, c2], _ =>
        obtain ⟨q, rfl, rfl, rfl⟩ := trap_cells ht'
        have e0 := hat 0 (by omega)
        have e1 := hat 1 (by omega)
        have e2 := hat 2 (by omega)
        simp only [Go.Deep.add_add, Nat.add_zero, List.getElem?_cons_zero, List.getElem?_cons_succ] at e0 e1 e2
        exact ⟨q, e0, e1, e2⟩)
    subst hL
    refine ⟨L, ⟨some a, cap, rfl, fun i f hfx => ?_⟩, by omega⟩
    obtain ⟨c0, c1, c2⟩ := hq i f hfx
    obtain ⟨b, off, spot⟩ := a
    have hspot : spot = none := by
      have hz := (hq 0 _ (List.getElem?_eq_getElem (by have := (List.getElem?_eq_some_iff.1 hfx).1; omega))).1
      simpa [Addr.add] using World.cell?_spot hz
    subst hspot
    rw [add_plain] at c0 c1 c2
    exact ⟨b, off, rfl, c0, by rw [Nat.add_assoc]; exact c1, by rw [Nat.add_assoc]; exact c2⟩
set_option maxRecDepth 100000 in
theorem open_traps {r : Reach} {b0 : Nat} {v : Value} {d : DataW H} {p : List MemPlace} (hv : Value.okWide Try.prog W r b0 49 v)
    (h : DataW.Trod enc Try.prog W 0 (fun _ => true) true 49 v d p) : ∃ L, TS W v L ∧ L.length ≤ maxLen := by
  obtain ⟨a0, len, cap, rfl⟩ := WideShapes.okWide_slice Try.underlying49 hv
  obtain ⟨fu, hf⟩ := h
  exact traps_open hf
end
end Go.Proofs.Ythkamfjjfkpekaa.Pe
