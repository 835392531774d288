/-
  A rule, readings with their end, boxes, numbers that came in: opened.
-/
import Derived.Test.YteidabpflfkdcaaDoorRows
import Derived.Test.YteidabpflfkdcaaDoorCdKillP
import Derived.Deep.SlicePairs
import Derived.Carry
import Derived.OpenShut
import Derived.ProofKit
import Derived.LaidMore
import Derived.Lib.SmallJoins
namespace Go.Proofs.YteidabpflfkdcaaDoor.Cd
open Go Go.RowKit Go.Joins Go.Deep Go.ChangeShapes Go.WideShapes Go.ChangeAt

theorem own : ownKnob Tryd.prog.godebug = none := by kernel_rfl
theorem laidOutL : laidOutB Tryd.prog = true := by kernel_rfl
theorem cInt : Tryd.prog.cellsOf 3 = 1 := by kernel_rfl
theorem cRow : Tryd.prog.cellsOf 47 = 1 := by kernel_rfl
theorem cFreeze : Tryd.prog.cellsOf 46 = 5 := by kernel_rfl
theorem cLog : Tryd.prog.cellsOf 49 = 2 := by kernel_rfl
section
variable {H : Type} {enc : TypeId × Value → H} {w : World} {base : Nat} {spare : Nat → Bool} {held : Bool} {fuel : Nat} {x : DataW H × List MemPlace}
theorem one_int {c : Value} (h : DataW.trod enc Tryd.prog w base spare held fuel 3 [c] = some x) : ∃ n : Int, c = .int .i64 n ∧ (Lit.int .i64 n).wf = true := by
  obtain ⟨n, e, _, wf⟩ := DataW.trod_int Tryd.underlying3 h
  simp only [List.cons.injEq, and_true] at e
  exact ⟨n, e, wf⟩
set_option maxRecDepth 100000 in
theorem open_freeze {r : Reach} {b0 : Nat} {v : Value} {d : DataW H} {p : List MemPlace} (hv : Value.okWide Tryd.prog w r b0 46 v) (h : DataW.Trod enc Tryd.prog w base spare held 46 v d p) :
    ∃ a b c d g : Int, v = .agg #[.int .i64 a, .int .i64 b, .int .i64 c, .int .i64 d, .int .i64 g] := by
  obtain ⟨cs, rfl, hsz⟩ := okWide_struct Tryd.underlying46 hv
  obtain ⟨l⟩ := cs
  match l, hsz.trans cFreeze with
  | [c0, c1, c2, c3, c4], _ =>
    obtain ⟨fu, hf⟩ := h
    obtain ⟨ys, n, -, -, -, hlen, hg⟩ := DataW.trod_struct Tryd.underlying46 hf
    match ys, hlen with
    | [y0, y1, y2, y3, y4], _ =>
      have h0 := hg 0 _ rfl
      have h1 := hg 1 _ rfl
      have h2 := hg 2 _ rfl
      have h3 := hg 3 _ rfl
      have h4 := hg 4 _ rfl
      simp only [Value.cells, List.getElem?_cons_zero, List.getElem?_cons_succ] at h0 h1 h2 h3 h4
      obtain ⟨a, rfl, -⟩ := one_int h0
      obtain ⟨b, rfl, -⟩ := one_int h1
      obtain ⟨c, rfl, -⟩ := one_int h2
      obtain ⟨d, rfl, -⟩ := one_int h3
      obtain ⟨g, rfl, -⟩ := one_int h4
      exact ⟨a, b, c, d, g, rfl⟩
theorem okWide_arr {t e : TypeId} {n : Nat} {r : Reach} {b0 : Nat} {v : Value} {P : Program} (ht : P.underlying t = some (.array n e)) (h : Value.okWide P w r b0 t v) : ∃ cs, v = .agg cs ∧ cs.size = P.cellsOf t := by
  simp only [Value.okWide, ht] at h
  obtain ⟨cs, h1, h2, _⟩ := h
  exact ⟨cs, h1, h2⟩
end
/-- Of rows of structs: each element's cells, chosen at once, are a list's. -/
theorem chosen {α : Type} [Inhabited α] {n : Nat} {Q : Nat → α → Prop} (h : ∀ i, i < n → ∃ q, Q i q) : ∃ L : List α, L.length = n ∧ ∀ i x, L[i]? = some x → Q i x := by
  obtain ⟨q, hq⟩ := choose_lt h
  refine ⟨(List.range n).map q, by simp, fun i x hx => ?_⟩
  have hil : i < n := by
    have := (List.getElem?_eq_some_iff.1 hx).1
    simpa using this
  rw [List.getElem?_map, List.getElem?_range hil] at hx
  simp only [Option.map_some, Option.some.injEq] at hx
  rw [← hx]
  exact hq i hil
set_option maxRecDepth 100000 in
theorem rows_open {H : Type} {enc : TypeId × Value → H} {W : World} {fu : Nat} {c : Value} {x : DataW H × List MemPlace} (hf : DataW.trod enc Tryd.prog W 0 (fun _ => true) true fu 47 [c] = some x) : ∃ L, RS W c L ∧ L.length ≤ maxLen := by
  rcases open_slice_pairs Tryd.underlying47 Tryd.underlying95 (by kernel_rfl) rfl rfl (by kernel_rfl) (by kernel_rfl) hf with ⟨hcs, _⟩ | ⟨a, len, cap, m, n, V0, V1, D0, D1, P0, P1, hcs, _, hl, hm, hmm, _, hi⟩
  · simp only [List.cons.injEq, and_true] at hcs
    subst hcs
    exact ⟨[], ⟨none, 0, rfl, Nat.le_refl _, fun i f hf => by simp at hf⟩, Nat.zero_le _⟩
  · simp only [List.cons.injEq, and_true] at hcs
    subst hcs
    haveI : Inhabited Rd := ⟨⟨0, 0⟩⟩
    obtain ⟨L, hL, hq⟩ := chosen (n := len) (Q := fun i q => W.cell? (a.add (i * 2)) = some (.int .i64 (Rd.h q)) ∧ W.cell? (a.add (i * 2 + 1)) = some (.int .i64 (Rd.t q))) (fun i hlt => by
      obtain ⟨c0, c1, h0, h1⟩ := hi i (by rw [hmm]; split <;> omega)
      obtain ⟨s0, e0, _⟩ := one_int h0
      obtain ⟨s1, e1, _⟩ := one_int h1
      rw [e0] at c0
      rw [e1] at c1
      exact ⟨⟨s0, s1⟩, c0, c1⟩)
    subst hL
    refine ⟨L, ⟨some a, cap, rfl, hl, fun i f hfx => ?_⟩, by omega⟩
    obtain ⟨c0, c1⟩ := hq i f hfx
    obtain ⟨b, off, spot⟩ := a
    have hspot : spot = none := by
      have hz := (hq 0 _ (List.getElem?_eq_getElem (by have := (List.getElem?_eq_some_iff.1 hfx).1; omega))).1
      simpa [Addr.add] using World.cell?_spot hz
    subst hspot
    rw [add_plain] at c0 c1
    exact ⟨b, off, rfl, World.block_lt_of_cell? _ _ c0, c0, by rw [Nat.add_assoc]; exact c1⟩
set_option maxRecDepth 100000 in
theorem open_log {H : Type} {enc : TypeId × Value → H} {W : World} {r : Reach} {b0 : Nat} {v : Value} {d : DataW H} {p : List MemPlace} (hv : Value.okWide Tryd.prog W r b0 49 v)
    (h : DataW.Trod enc Tryd.prog W 0 (fun _ => true) true 49 v d p) : ∃ (u : Value) (e : Int) (L : List Rd), v = .agg #[u, .int .i64 e] ∧ RS W u L ∧ L.length ≤ maxLen := by
  obtain ⟨cs, rfl, hsz⟩ := okWide_struct Tryd.underlying49 hv
  obtain ⟨c0, c1, rfl⟩ := array2 (hsz.trans cLog)
  obtain ⟨fu, hf⟩ := h
  obtain ⟨y0, y1, n, -, -, h0, h1⟩ := trod_struct2 Tryd.underlying49 hf
  simp only [cInt, cRow, Value.cells, List.drop_zero, List.drop_succ_cons, List.take_succ_cons, List.take_zero] at h0 h1
  obtain ⟨e, rfl, -⟩ := one_int h1
  obtain ⟨L, h2, h3⟩ := rows_open h0
  exact ⟨c0, e, L, rfl, h2, h3⟩
end Go.Proofs.YteidabpflfkdcaaDoor.Cd
