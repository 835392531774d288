/-
  Eyes that came in, a slice of them: opened.
-/
import Derived.Test.YtjnggchljilooaaScOpenN
import Derived.Test.YtjnggchljilooaaScAsked
namespace Go.Proofs.Ytjnggchljilooaa.Sc
open Go Go.RowKit Go.Joins Go.Deep Go.ChangeShapes Go.WideShapes Go.ChangeAt
section
variable {H : Type} {enc : TypeId × Value → H} {W : World}
set_option maxRecDepth 100000 in
theorem eye_cells {fu : Nat} {c0 c1 c2 : Value} {x : DataW H × List MemPlace} (hf : DataW.trod enc Try.prog W 0 (fun _ => true) true fu 26 [c0, c1, c2] = some x) : ∃ e : Ey, c0 = .int .i64 e.x ∧ c1 = .int .i64 e.b ∧ c2 = .int .i64 e.h := by
  obtain ⟨y0, y1, y2, n, -, -, h0, h1, h2⟩ := trod_struct3 Try.underlying26 hf
  simp only [cInt, List.drop_zero, List.drop_succ_cons, List.take_succ_cons, List.take_zero] at h0 h1 h2
  obtain ⟨a, rfl, -⟩ := one_int h0
  obtain ⟨b, rfl, -⟩ := one_int h1
  obtain ⟨c, rfl, -⟩ := one_int h2
  exact ⟨⟨a, b, c⟩, rfl, rfl, rfl⟩
set_option maxRecDepth 100000 in
theorem open_eyes {r : Reach} {b0 : Nat} {v : Value} {d : DataW H} {p : List MemPlace} (hv : Value.okWide Try.prog W r b0 49 v)
    (h : DataW.Trod enc Try.prog W 0 (fun _ => true) true 49 v d p) : ∃ L, ES W v L ∧ L.length ≤ maxLen := by
  obtain ⟨a0, len, cap, rfl⟩ := WideShapes.okWide_slice Try.underlying49 hv
  obtain ⟨fu, hf⟩ := h
  rcases open_slice Try.underlying49 hf with ⟨hcs, _⟩ | ⟨a, len', cap', m, n, D, Pl, hcs, _, hl, hm, hmm, _, hi⟩
  · simp [Value.cells] at hcs
    obtain ⟨rfl, rfl, rfl⟩ := hcs
    exact ⟨[], ⟨none, 0, rfl, Nat.le_refl _, fun i f hf => by simp at hf⟩, Nat.zero_le _⟩
  · simp [Value.cells] at hcs
    obtain ⟨rfl, rfl, rfl⟩ := hcs
    haveI : Inhabited Ey := ⟨⟨0, 0, 0⟩⟩
    obtain ⟨L, hL, hq⟩ := chosen (n := len) (Q := fun i (q : Ey) => W.cell? (a.add (i * 3)) = some (.int .i64 q.x) ∧ W.cell? (a.add (i * 3 + 1)) = some (.int .i64 q.b) ∧ W.cell? (a.add (i * 3 + 2)) = some (.int .i64 q.h)) (fun i hlt => by
      obtain ⟨cs', hc, ht'⟩ := hi i (by rw [hmm]; split <;> omega)
      rw [cEye] at hc
      obtain ⟨_, hcl, hat⟩ := World.cells?_some hc
      match cs', hcl with
      | [c0, c1, c2], _ =>
        obtain ⟨q, rfl, rfl, rfl⟩ := eye_cells ht'
        have e0 := hat 0 (by omega)
        have e1 := hat 1 (by omega)
        have e2 := hat 2 (by omega)
        simp only [Go.Deep.add_add, Nat.add_zero, List.getElem?_cons_zero, List.getElem?_cons_succ] at e0 e1 e2
        exact ⟨q, e0, e1, e2⟩)
    subst hL
    refine ⟨L, ⟨some a, cap, rfl, hl, fun i f hfx => ?_⟩, by omega⟩
    obtain ⟨c0, c1, c2⟩ := hq i f hfx
    obtain ⟨b, off, spot⟩ := a
    have hspot : spot = none := by
      have hz := (hq 0 _ (List.getElem?_eq_getElem (by have := (List.getElem?_eq_some_iff.1 hfx).1; omega))).1
      simpa [Addr.add] using World.cell?_spot hz
    subst hspot
    rw [add_plain] at c0 c1 c2
    exact ⟨b, off, rfl, c0, by rw [Nat.add_assoc]; exact c1, by rw [Nat.add_assoc]; exact c2⟩
end
end Go.Proofs.Ytjnggchljilooaa.Sc
