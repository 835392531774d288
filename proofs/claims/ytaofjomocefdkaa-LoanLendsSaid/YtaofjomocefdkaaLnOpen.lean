/-
  Loans that came in: opened.
-/
import Derived.Test.YtaofjomocefdkaaRows
import Derived.Test.YtaofjomocefdkaaLnValid
import Derived.Deep.SlicePairs
import Derived.Carry
import Derived.OpenShut
import Derived.ProofKit
import Derived.LaidMore
import Derived.Lib.SmallJoins
namespace Go.Proofs.Ytaofjomocefdkaa.Ln
open Go Go.RowKit Go.Joins Go.Deep Go.ChangeShapes Go.WideShapes Go.ChangeAt

theorem own : ownKnob Try.prog.godebug = none := by kernel_rfl
theorem laidOutL : laidOutB Try.prog = true := by kernel_rfl
theorem cInt : Try.prog.cellsOf 3 = 1 := by kernel_rfl
theorem cStr : Try.prog.cellsOf 9 = 1 := by kernel_rfl
theorem cLoan : Try.prog.cellsOf 26 = 5 := by kernel_rfl
section
variable {H : Type} {enc : TypeId × Value → H} {w : World} {base : Nat} {spare : Nat → Bool} {held : Bool} {fuel : Nat} {x : DataW H × List MemPlace}
theorem one_int {c : Value} (h : DataW.trod enc Try.prog w base spare held fuel 3 [c] = some x) : ∃ n : Int, c = .int .i64 n ∧ (Lit.int .i64 n).wf = true := by
  obtain ⟨n, e, _, wf⟩ := DataW.trod_int Try.underlying3 h
  simp only [List.cons.injEq, and_true] at e
  exact ⟨n, e, wf⟩
theorem one_str {c : Value} (h : DataW.trod enc Try.prog w base spare held fuel 9 [c] = some x) : ∃ s : ByteArray, c = .string s ∧ s.size ≤ maxLen := by
  obtain ⟨s, e, _, z⟩ := DataW.trod_string Try.underlying9 h
  simp only [List.cons.injEq, and_true] at e
  exact ⟨s, e, z⟩
set_option maxRecDepth 100000 in
theorem loan_cells {c0 c1 c2 c3 c4 : Value} (h : DataW.trod enc Try.prog w base spare held fuel 26 [c0, c1, c2, c3, c4] = some x) : ∃ q : Loan, c0 = .string q.p ∧ c1 = .string q.t ∧ c2 = .int .i64 q.out ∧ c3 = .int .i64 q.due ∧ c4 = .int .i64 q.back ∧ q.wf := by
  obtain ⟨ys, n, -, -, -, hlen, hg⟩ := DataW.trod_struct Try.underlying26 h
  match ys, hlen with
  | [y0, y1, y2, y3, y4], _ =>
    have h0 := hg 0 _ rfl
    have h1 := hg 1 _ rfl
    have h2 := hg 2 _ rfl
    have h3 := hg 3 _ rfl
    have h4 := hg 4 _ rfl
    simp [cStr, cInt] at h0 h1 h2 h3 h4
    obtain ⟨a, rfl, za⟩ := one_str h0
    obtain ⟨b, rfl, zb⟩ := one_str h1
    obtain ⟨c, rfl, -⟩ := one_int h2
    obtain ⟨d, rfl, -⟩ := one_int h3
    obtain ⟨g, rfl, -⟩ := one_int h4
    exact ⟨⟨a, b, c, d, g⟩, rfl, rfl, rfl, rfl, rfl, za, zb⟩
end
/-- Of rows: each element's cells, chosen at once, are a list's. -/
theorem chosen {α : Type} [Inhabited α] {n : Nat} {Q : Nat → α → Prop} (h : ∀ i, i < n → ∃ q, Q i q) : ∃ L : List α, L.length = n ∧ ∀ i x, L[i]? = some x → Q i x := by
  obtain ⟨q, hq⟩ := choose_lt h
  refine ⟨(List.range n).map q, by simp, fun i x hx => ?_⟩
  have hil : i < n := by
    have := (List.getElem?_eq_some_iff.1 hx).1
    simpa using this
  rw [List.getElem?_map, List.getElem?_range hil] at hx
  simp only [Option.map_some, Option.some.injEq] at hx
  rw [← hx]
  exact hq i hil
section
variable {H : Type} {enc : TypeId × Value → H} {W : World}
set_option maxRecDepth 100000 in
theorem open_loans {r : Reach} {b0 : Nat} {v : Value} {d : DataW H} {p : List MemPlace} (hv : Value.okWide Try.prog W r b0 22 v)
    (h : DataW.Trod enc Try.prog W 0 (fun _ => true) true 22 v d p) : ∃ L, LS W v L ∧ L.length ≤ maxLen := by
  obtain ⟨a0, len, cap, rfl⟩ := WideShapes.okWide_slice Try.underlying22 hv
  obtain ⟨fu, hf⟩ := h
  rcases open_slice Try.underlying22 hf with ⟨hcs, _⟩ | ⟨a, len', cap', m, n, D, Pl, hcs, _, hl, hm, hmm, _, hi⟩
  · simp [Value.cells] at hcs
    obtain ⟨rfl, rfl, rfl⟩ := hcs
    exact ⟨[], ⟨none, 0, rfl, Nat.le_refl _, fun i f hf => by simp at hf⟩, Nat.zero_le _⟩
  · simp [Value.cells] at hcs
    obtain ⟨rfl, rfl, rfl⟩ := hcs
    haveI : Inhabited Loan := ⟨⟨⟨#[]⟩, ⟨#[]⟩, 0, 0, 0⟩⟩
    obtain ⟨L, hL, hq⟩ := chosen (n := len) (Q := fun i (q : Loan) => (W.cell? (a.add (i * 5)) = some (.string q.p) ∧ W.cell? (a.add (i * 5 + 1)) = some (.string q.t) ∧ W.cell? (a.add (i * 5 + 2)) = some (.int .i64 q.out) ∧ W.cell? (a.add (i * 5 + 3)) = some (.int .i64 q.due) ∧ W.cell? (a.add (i * 5 + 4)) = some (.int .i64 q.back)) ∧ q.wf) (fun i hlt => by
      obtain ⟨cs', hc, ht'⟩ := hi i (by rw [hmm]; split <;> omega)
      rw [cLoan] at hc
      obtain ⟨_, hcl, hat⟩ := World.cells?_some hc
      match cs', hcl with
      | [c0, c1, c2, c3, c4], _ =>
        obtain ⟨q, rfl, rfl, rfl, rfl, rfl, hw⟩ := loan_cells ht'
        have e0 := hat 0 (by omega)
        have e1 := hat 1 (by omega)
        have e2 := hat 2 (by omega)
        have e3 := hat 3 (by omega)
        have e4 := hat 4 (by omega)
        simp only [Go.Deep.add_add, Nat.add_zero, List.getElem?_cons_zero, List.getElem?_cons_succ] at e0 e1 e2 e3 e4
        exact ⟨q, ⟨e0, e1, e2, e3, e4⟩, hw⟩)
    subst hL
    refine ⟨L, ⟨some a, cap, rfl, hl, fun i f hfx => ?_⟩, by omega⟩
    obtain ⟨⟨c0, c1, c2, c3, c4⟩, hw⟩ := hq i f hfx
    obtain ⟨b, off, spot⟩ := a
    have hspot : spot = none := by
      have hz := (hq 0 _ (List.getElem?_eq_getElem (by have := (List.getElem?_eq_some_iff.1 hfx).1; omega))).1.1
      simpa [Addr.add] using World.cell?_spot hz
    subst hspot
    rw [add_plain] at c0 c1 c2 c3 c4
    exact ⟨b, off, rfl, ⟨c0, by rw [Nat.add_assoc]; exact c1, by rw [Nat.add_assoc]; exact c2, by rw [Nat.add_assoc]; exact c3, by rw [Nat.add_assoc]; exact c4⟩, hw⟩
end
end Go.Proofs.Ytaofjomocefdkaa.Ln
