/-
  Loans that came in beside a loan: opened, and how many they can be.
-/
import Derived.Test.YtaofjomocefdkaaLnOpen
import Derived.SizedLaws
namespace Go.Proofs.Ytaofjomocefdkaa.Ln
open Go Go.RowKit Go.Joins Go.Deep Go.ChangeShapes Go.WideShapes Go.ChangeAt

section
variable {H : Type} {enc : TypeId × Value → H} {W : World}
theorem loan_bytes : Try.prog.bytesOf 26 = 56 := by kernel_rfl
set_option maxRecDepth 100000 in
theorem open_loans_d {r : Reach} {b0 : Nat} {v : Value} {d : DataW H} {p : List MemPlace} (hv : Value.okWide Try.prog W r b0 22 v)
    (h : DataW.Trod enc Try.prog W 0 (fun _ => true) true 22 v d p) : ∃ L, LS W v L ∧ (L = [] ∨ ∃ es sp, d = .slice es sp ∧ es.length = L.length) := by
  obtain ⟨a0, len, cap, rfl⟩ := WideShapes.okWide_slice Try.underlying22 hv
  obtain ⟨fu, hf⟩ := h
  rcases open_slice Try.underlying22 hf with ⟨hcs, _⟩ | ⟨a, len', cap', m, n, D, Pl, hcs, _, hl, hm, hmm, hx, hi⟩
  · simp [Value.cells] at hcs
    obtain ⟨rfl, rfl, rfl⟩ := hcs
    exact ⟨[], ⟨none, 0, rfl, Nat.le_refl _, fun i f hf => by simp at hf⟩, .inl rfl⟩
  · simp [Value.cells] at hcs
    obtain ⟨rfl, rfl, rfl⟩ := hcs
    haveI : Inhabited Loan := ⟨⟨⟨#[]⟩, ⟨#[]⟩, 0, 0, 0⟩⟩
    obtain ⟨L, hL, hq⟩ := chosen (n := len) (Q := fun i (q : Loan) => (W.cell? (a.add (i * 5)) = some (.string q.p) ∧ W.cell? (a.add (i * 5 + 1)) = some (.string q.t) ∧ W.cell? (a.add (i * 5 + 2)) = some (.int .i64 q.out) ∧ W.cell? (a.add (i * 5 + 3)) = some (.int .i64 q.due) ∧ W.cell? (a.add (i * 5 + 4)) = some (.int .i64 q.back)) ∧ q.wf) (fun i hlt => by
      obtain ⟨cs', hc, ht'⟩ := hi i (by rw [hmm]; split <;> omega)
      rw [cLoan] at hc
      obtain ⟨_, hcl, hat⟩ := World.cells?_some hc
      match cs', hcl with
      | [c0, c1, c2, c3, c4], _ =>
        obtain ⟨q, rfl, rfl, rfl, rfl, rfl, hw⟩ := loan_cells ht'
        have e0 := hat 0 (by omega)
        have e1 := hat 1 (by omega)
        have e2 := hat 2 (by omega)
        have e3 := hat 3 (by omega)
        have e4 := hat 4 (by omega)
        simp only [Go.Deep.add_add, Nat.add_zero, List.getElem?_cons_zero, List.getElem?_cons_succ] at e0 e1 e2 e3 e4
        exact ⟨q, ⟨e0, e1, e2, e3, e4⟩, hw⟩)
    subst hL
    refine ⟨L, ⟨some a, cap, rfl, hl, fun i f hfx => ?_⟩, .inr ⟨_, _, (Prod.mk.inj hx).1, by simp⟩⟩
    obtain ⟨⟨c0, c1, c2, c3, c4⟩, hw⟩ := hq i f hfx
    obtain ⟨b, off, spot⟩ := a
    have hspot : spot = none := by
      have hz := (hq 0 _ (List.getElem?_eq_getElem (by have := (List.getElem?_eq_some_iff.1 hfx).1; omega))).1.1
      simpa [Addr.add] using World.cell?_spot hz
    subst hspot
    rw [add_plain] at c0 c1 c2 c3 c4
    exact ⟨b, off, rfl, ⟨c0, by rw [Nat.add_assoc]; exact c1, by rw [Nat.add_assoc]; exact c2, by rw [Nat.add_assoc]; exact c3, by rw [Nat.add_assoc]; exact c4⟩, hw⟩
set_option maxRecDepth 100000 in
/-- Loans that came in take no more memory than there is. -/
theorem loans_fit {r : Reach} {b0 : Nat} {v : Value} {d : DataW H} {p : List MemPlace} {ts : List TypeId} {ds : List (DataW H)} (hv : Value.okWide Try.prog W r b0 22 v)
    (h : DataW.Trod enc Try.prog W 0 (fun _ => true) true 22 v d p) (hz : (DataW.weightsEach Try.prog ts ds).all (· ≤ reachBytes) = true) (ht : ts[0]? = some 22) (hd : ds[0]? = some d) :
    ∃ L, LS W v L ∧ L.length * 56 ≤ 140737488351232 := by
  obtain ⟨L, hL, hs⟩ := open_loans_d hv h
  refine ⟨L, hL, ?_⟩
  rcases hs with rfl | ⟨es, sp, rfl, he⟩
  · simp
  · have := sized_slice hz ht hd Try.underlying22
    rw [loan_bytes] at this
    have hr : reachBytes = 140737488351232 := by decide +kernel
    rw [hr] at this
    have h1 : es.length * 56 ≤ (es.length + sp.length) * 56 := Nat.mul_le_mul_right _ (by omega)
    omega
set_option maxRecDepth 100000 in
theorem open_loan {r : Reach} {b0 base : Nat} {spare : Nat → Bool} {held : Bool} {v : Value} {d : DataW H} {p : List MemPlace} (hv : Value.okWide Try.prog W r b0 26 v) (h : DataW.Trod enc Try.prog W base spare held 26 v d p) :
    ∃ x : Loan, v = .agg #[.string x.p, .string x.t, .int .i64 x.out, .int .i64 x.due, .int .i64 x.back] ∧ x.wf := by
  obtain ⟨cs, rfl, hsz⟩ := okWide_struct Try.underlying26 hv
  obtain ⟨l⟩ := cs
  match l, hsz.trans cLoan with
  | [c0, c1, c2, c3, c4], _ =>
    obtain ⟨fu, hf⟩ := h
    obtain ⟨q, rfl, rfl, rfl, rfl, rfl, hw⟩ := loan_cells hf
    exact ⟨q, rfl, hw⟩
end
end Go.Proofs.Ytaofjomocefdkaa.Ln
