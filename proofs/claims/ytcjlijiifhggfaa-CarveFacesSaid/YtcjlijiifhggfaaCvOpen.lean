/-
  Blocks, views, three views, grains, numbers that came in: opened.
-/
import Derived.Test.YtcjlijiifhggfaaRows
import Derived.Test.YtcjlijiifhggfaaCvOf
import Derived.Deep.SlicePairs
import Derived.Carry
import Derived.OpenShut
import Derived.ProofKit
import Derived.LaidMore
import Derived.Lib.SmallJoins
namespace Go.Proofs.Ytcjlijiifhggfaa.Cv
open Go Go.RowKit Go.Joins Go.Deep Go.ChangeShapes Go.WideShapes Go.ChangeAt

theorem own : ownKnob Try.prog.godebug = none := by kernel_rfl
theorem laidOutL : laidOutB Try.prog = true := by kernel_rfl
theorem cInt : Try.prog.cellsOf 3 = 1 := by kernel_rfl
theorem cBool : Try.prog.cellsOf 4 = 1 := by kernel_rfl
theorem cBools : Try.prog.cellsOf 22 = 1 := by kernel_rfl
theorem cGrain : Try.prog.cellsOf 48 = 3 := by kernel_rfl
theorem cBlock : Try.prog.cellsOf 24 = 2 := by kernel_rfl
theorem cView : Try.prog.cellsOf 49 = 2 := by kernel_rfl
theorem cViews : Try.prog.cellsOf 51 = 6 := by kernel_rfl
section
variable {H : Type} {enc : TypeId × Value → H} {w : World} {base : Nat} {spare : Nat → Bool} {held : Bool} {fuel : Nat} {x : DataW H × List MemPlace}
theorem one_int {c : Value} (h : DataW.trod enc Try.prog w base spare held fuel 3 [c] = some x) : ∃ n : Int, c = .int .i64 n ∧ (Lit.int .i64 n).wf = true := by
  obtain ⟨n, e, _, wf⟩ := DataW.trod_int Try.underlying3 h
  simp only [List.cons.injEq, and_true] at e
  exact ⟨n, e, wf⟩
theorem one_bool {c : Value} (h : DataW.trod enc Try.prog w base spare held fuel 4 [c] = some x) : ∃ b : Bool, c = .bool b := by
  obtain ⟨n, e, _⟩ := DataW.trod_bool Try.underlying4 h
  simp only [List.cons.injEq, and_true] at e
  exact ⟨n, e⟩
set_option maxRecDepth 100000 in
theorem grain_cells {c0 c1 c2 : Value} (h : DataW.trod enc Try.prog w base spare held fuel 48 [c0, c1, c2] = some x) : ∃ a b c : Int, c0 = .int .i64 a ∧ c1 = .int .i64 b ∧ c2 = .int .i64 c := by
  obtain ⟨y0, y1, y2, n, -, -, h0, h1, h2⟩ := trod_struct3 Try.underlying48 h
  simp only [cInt, List.drop_zero, List.drop_succ_cons, List.take_succ_cons, List.take_zero] at h0 h1 h2
  obtain ⟨a, rfl, -⟩ := one_int h0
  obtain ⟨b, rfl, -⟩ := one_int h1
  obtain ⟨c, rfl, -⟩ := one_int h2
  exact ⟨a, b, c, rfl, rfl, rfl⟩
end
/-- Of rows: each element's cells, chosen at once, are a list's. -/
theorem chosen {α : Type} [Inhabited α] {n : Nat} {Q : Nat → α → Prop} (h : ∀ i, i < n → ∃ q, Q i q) : ∃ L : List α, L.length = n ∧ ∀ i x, L[i]? = some x → Q i x := by
  obtain ⟨q, hq⟩ := choose_lt h
  refine ⟨(List.range n).map q, by simp, fun i x hx => ?_⟩
  have hil : i < n := by
    have := (List.getElem?_eq_some_iff.1 hx).1
    simpa using this
  rw [List.getElem?_map, List.getElem?_range hil] at hx
  simp only [Option.map_some, Option.some.injEq] at hx
  rw [← hx]
  exact hq i hil
section
variable {H : Type} {enc : TypeId × Value → H} {W : World}
set_option maxRecDepth 100000 in
theorem bools_open {fu : Nat} {c : Value} {x : DataW H × List MemPlace} (hf : DataW.trod enc Try.prog W 0 (fun _ => true) true fu 22 [c] = some x) : ∃ L, LB W c L ∧ L.length ≤ maxLen := by
  rcases open_slice Try.underlying22 hf with ⟨hcs, _⟩ | ⟨a, len, cap, m, n, D, Pl, hcs, _, hl, hm, hmm, _, hi⟩
  · simp only [List.cons.injEq, and_true] at hcs
    subst hcs
    exact ⟨[], ⟨none, 0, rfl, Nat.le_refl _, fun i f hf => by simp at hf⟩, Nat.zero_le _⟩
  · simp only [List.cons.injEq, and_true] at hcs
    subst hcs
    haveI : Inhabited Bool := ⟨false⟩
    obtain ⟨L, hL, hq⟩ := chosen (n := len) (Q := fun i (q : Bool) => W.cell? (a.add i) = some (.bool q)) (fun i hlt => by
      obtain ⟨cs', hc, ht'⟩ := hi i (by rw [hmm]; split <;> omega)
      rw [cBool, Nat.mul_one] at hc
      obtain ⟨_, hcl, hat⟩ := World.cells?_some hc
      match cs', hcl with
      | [c0], _ =>
        obtain ⟨x0, rfl⟩ := one_bool ht'
        have e0 := hat 0 (by omega)
        simp only [Go.Deep.add_add, Nat.add_zero, List.getElem?_cons_zero] at e0
        exact ⟨x0, e0⟩)
    subst hL
    refine ⟨L, ⟨some a, cap, rfl, hl, fun i f hfx => ?_⟩, by omega⟩
    have c0 := hq i f hfx
    obtain ⟨b, off, spot⟩ := a
    have hspot : spot = none := by
      have hz := hq 0 _ (List.getElem?_eq_getElem (by have := (List.getElem?_eq_some_iff.1 hfx).1; omega))
      simpa [Addr.add] using World.cell?_spot hz
    subst hspot
    rw [add_plain] at c0
    exact ⟨b, off, rfl, World.block_lt_of_cell? _ _ c0, c0⟩
/-- What a block or a view holds. -/
theorem side_has {n m : Nat} {c0 c1 : Value} {x y : DataW H × List MemPlace} (h0 : DataW.trod enc Try.prog W 0 (fun _ => true) true n 3 [c0] = some x) (h1 : DataW.trod enc Try.prog W 0 (fun _ => true) true m 22 [c1] = some y) :
    ∃ (s : Int) (L : List Bool), c0 = .int .i64 s ∧ LB W c1 L ∧ L.length ≤ maxLen ∧ (Lit.int .i64 s).wf = true := by
  obtain ⟨s, rfl, wf⟩ := one_int h0
  obtain ⟨L, h2, h3⟩ := bools_open h1
  exact ⟨s, L, rfl, h2, h3, wf⟩
set_option maxRecDepth 100000 in
theorem view_has {fu : Nat} {c0 c1 : Value} {x : DataW H × List MemPlace} (hf : DataW.trod enc Try.prog W 0 (fun _ => true) true fu 49 [c0, c1] = some x) :
    ∃ (s : Int) (L : List Bool), c0 = .int .i64 s ∧ LB W c1 L ∧ L.length ≤ maxLen ∧ (Lit.int .i64 s).wf = true := by
  obtain ⟨y0, y1, n, -, -, h0, h1⟩ := trod_struct2 Try.underlying49 hf
  simp only [cInt, cBools, List.drop_zero, List.drop_succ_cons, List.take_succ_cons, List.take_zero] at h0 h1
  exact side_has h0 h1
set_option maxRecDepth 100000 in
theorem block_has {fu : Nat} {c0 c1 : Value} {x : DataW H × List MemPlace} (hf : DataW.trod enc Try.prog W 0 (fun _ => true) true fu 24 [c0, c1] = some x) :
    ∃ (s : Int) (L : List Bool), c0 = .int .i64 s ∧ LB W c1 L ∧ L.length ≤ maxLen ∧ (Lit.int .i64 s).wf = true := by
  obtain ⟨y0, y1, n, -, -, h0, h1⟩ := trod_struct2 Try.underlying24 hf
  simp only [cInt, cBools, List.drop_zero, List.drop_succ_cons, List.take_succ_cons, List.take_zero] at h0 h1
  exact side_has h0 h1
set_option maxRecDepth 100000 in
theorem open_block {r : Reach} {b0 : Nat} {v : Value} {d : DataW H} {p : List MemPlace} (hv : Value.okWide Try.prog W r b0 24 v)
    (h : DataW.Trod enc Try.prog W 0 (fun _ => true) true 24 v d p) : ∃ (s : Int) (u : Value) (L : List Bool), v = .agg #[.int .i64 s, u] ∧ LB W u L ∧ L.length ≤ maxLen ∧ (Lit.int .i64 s).wf = true := by
  obtain ⟨cs, rfl, hsz⟩ := okWide_struct Try.underlying24 hv
  obtain ⟨c0, c1, rfl⟩ := array2 (hsz.trans cBlock)
  obtain ⟨fu, hf⟩ := h
  obtain ⟨s, L, rfl, h2, h3, wf⟩ := block_has hf
  exact ⟨s, c1, L, rfl, h2, h3, wf⟩
set_option maxRecDepth 100000 in
theorem open_view {r : Reach} {b0 : Nat} {v : Value} {d : DataW H} {p : List MemPlace} (hv : Value.okWide Try.prog W r b0 49 v)
    (h : DataW.Trod enc Try.prog W 0 (fun _ => true) true 49 v d p) : ∃ (s : Int) (u : Value) (L : List Bool), v = .agg #[.int .i64 s, u] ∧ LB W u L ∧ L.length ≤ maxLen ∧ (Lit.int .i64 s).wf = true := by
  obtain ⟨cs, rfl, hsz⟩ := okWide_struct Try.underlying49 hv
  obtain ⟨c0, c1, rfl⟩ := array2 (hsz.trans cView)
  obtain ⟨fu, hf⟩ := h
  obtain ⟨s, L, rfl, h2, h3, wf⟩ := view_has hf
  exact ⟨s, c1, L, rfl, h2, h3, wf⟩
set_option maxRecDepth 100000 in
theorem open_views {r : Reach} {b0 : Nat} {v : Value} {d : DataW H} {p : List MemPlace} (hv : Value.okWide Try.prog W r b0 51 v)
    (h : DataW.Trod enc Try.prog W 0 (fun _ => true) true 51 v d p) : ∃ (sx sy sz : Int) (u v' t : Value) (a b c : List Bool), v = .agg #[.int .i64 sx, u, .int .i64 sy, v', .int .i64 sz, t] ∧ LB W u a ∧ LB W v' b ∧ LB W t c ∧ a.length ≤ maxLen ∧ b.length ≤ maxLen ∧ c.length ≤ maxLen := by
  obtain ⟨cs, rfl, hsz⟩ := okWide_struct Try.underlying51 hv
  obtain ⟨l⟩ := cs
  match l, hsz.trans cViews with
  | [c0, c1, c2, c3, c4, c5], _ =>
    obtain ⟨fu, hf⟩ := h
    obtain ⟨y0, y1, y2, n, -, -, h0, h1, h2⟩ := trod_struct3 Try.underlying51 hf
    simp only [cView, Value.cells, List.drop_zero, List.drop_succ_cons, List.take_succ_cons, List.take_zero] at h0 h1 h2
    obtain ⟨sx, a, rfl, a1, a2, -⟩ := view_has h0
    obtain ⟨sy, b, rfl, b1, b2, -⟩ := view_has h1
    obtain ⟨sz, c, rfl, g1, g2, -⟩ := view_has h2
    exact ⟨sx, sy, sz, c1, c3, c5, a, b, c, rfl, a1, b1, g1, a2, b2, g2⟩
set_option maxRecDepth 100000 in
theorem open_grains {r : Reach} {b0 : Nat} {v : Value} {d : DataW H} {p : List MemPlace} (hv : Value.okWide Try.prog W r b0 39 v)
    (h : DataW.Trod enc Try.prog W 0 (fun _ => true) true 39 v d p) : ∃ L, GS W v L ∧ L.length ≤ maxLen := by
  obtain ⟨a0, len, cap, rfl⟩ := WideShapes.okWide_slice Try.underlying39 hv
  obtain ⟨fu, hf⟩ := h
  rcases open_slice Try.underlying39 hf with ⟨hcs, _⟩ | ⟨a, len', cap', m, n, D, Pl, hcs, _, hl, hm, hmm, _, hi⟩
  · simp [Value.cells] at hcs
    obtain ⟨rfl, rfl, rfl⟩ := hcs
    exact ⟨[], ⟨none, 0, rfl, Nat.le_refl _, fun i f hf => by simp at hf⟩, Nat.zero_le _⟩
  · simp [Value.cells] at hcs
    obtain ⟨rfl, rfl, rfl⟩ := hcs
    haveI : Inhabited Gr := ⟨⟨0, 0, 0⟩⟩
    obtain ⟨L, hL, hq⟩ := chosen (n := len) (Q := fun i q => W.cell? (a.add (i * 3)) = some (.int .i64 (Gr.x q)) ∧ W.cell? (a.add (i * 3 + 1)) = some (.int .i64 (Gr.y q)) ∧ W.cell? (a.add (i * 3 + 2)) = some (.int .i64 (Gr.z q))) (fun i hlt => by
      obtain ⟨cs', hc, ht'⟩ := hi i (by rw [hmm]; split <;> omega)
      rw [cGrain] at hc
      obtain ⟨_, hcl, hat⟩ := World.cells?_some hc
      match cs', hcl with
      | [c0, c1, c2], _ =>
        obtain ⟨x0, x1, x2, rfl, rfl, rfl⟩ := grain_cells ht'
        have e0 := hat 0 (by omega)
        have e1 := hat 1 (by omega)
        have e2 := hat 2 (by omega)
        simp only [Go.Deep.add_add, Nat.add_zero, List.getElem?_cons_zero, List.getElem?_cons_succ] at e0 e1 e2
        exact ⟨⟨x0, x1, x2⟩, e0, e1, e2⟩)
    subst hL
    refine ⟨L, ⟨some a, cap, rfl, hl, fun i f hfx => ?_⟩, by omega⟩
    obtain ⟨c0, c1, c2⟩ := hq i f hfx
    obtain ⟨b, off, spot⟩ := a
    have hspot : spot = none := by
      have hz := (hq 0 _ (List.getElem?_eq_getElem (by have := (List.getElem?_eq_some_iff.1 hfx).1; omega))).1
      simpa [Addr.add] using World.cell?_spot hz
    subst hspot
    rw [add_plain] at c0 c1 c2
    exact ⟨b, off, rfl, World.block_lt_of_cell? _ _ c0, c0, by rw [Nat.add_assoc]; exact c1, by rw [Nat.add_assoc]; exact c2⟩
end
end Go.Proofs.Ytcjlijiifhggfaa.Cv
