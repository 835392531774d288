/-
  A vat, a bath, a pair of numbers, steps that came in: opened.
-/
import Derived.Test.YteidabpflfkdcaaDoorRows
import Derived.Test.YteidabpflfkdcaaDoorBtStepsA
import Derived.Deep.SlicePairs
import Derived.Carry
import Derived.OpenShut
import Derived.ProofKit
import Derived.LaidMore
import Derived.Lib.SmallJoins
namespace Go.Proofs.YteidabpflfkdcaaDoor.Bt
open Go Go.RowKit Go.Joins Go.Deep Go.ChangeShapes Go.WideShapes Go.ChangeAt

theorem own : ownKnob Tryd.prog.godebug = none := by kernel_rfl
theorem laidOutL : laidOutB Tryd.prog = true := by kernel_rfl
theorem cInt : Tryd.prog.cellsOf 3 = 1 := by kernel_rfl
theorem cBath : Tryd.prog.cellsOf 23 = 3 := by kernel_rfl
theorem cSkin : Tryd.prog.cellsOf 25 = 4 := by kernel_rfl
theorem cVat : Tryd.prog.cellsOf 27 = 10 := by kernel_rfl
section
variable {H : Type} {enc : TypeId × Value → H} {w : World} {base : Nat} {spare : Nat → Bool} {held : Bool} {fuel : Nat} {x : DataW H × List MemPlace}
theorem one_int {c : Value} (h : DataW.trod enc Tryd.prog w base spare held fuel 3 [c] = some x) : ∃ n : Int, c = .int .i64 n ∧ (Lit.int .i64 n).wf = true := by
  obtain ⟨n, e, _, wf⟩ := DataW.trod_int Tryd.underlying3 h
  simp only [List.cons.injEq, and_true] at e
  exact ⟨n, e, wf⟩
theorem bath_cells {c0 c1 c2 : Value} (h : DataW.trod enc Tryd.prog w base spare held fuel 23 [c0, c1, c2] = some x) : ∃ a b c : Int, c0 = .int .i64 a ∧ c1 = .int .i64 b ∧ c2 = .int .i64 c := by
  obtain ⟨y0, y1, y2, n, -, -, h0, h1, h2⟩ := trod_struct3 Tryd.underlying23 h
  simp only [cInt, List.drop_zero, List.drop_succ_cons, List.take_succ_cons, List.take_zero] at h0 h1 h2
  obtain ⟨a, rfl, -⟩ := one_int h0
  obtain ⟨b, rfl, -⟩ := one_int h1
  obtain ⟨c, rfl, -⟩ := one_int h2
  exact ⟨a, b, c, rfl, rfl, rfl⟩
theorem skin_cells {c0 c1 c2 c3 : Value} (h : DataW.trod enc Tryd.prog w base spare held fuel 25 [c0, c1, c2, c3] = some x) : ∃ a b c d : Int, c0 = .int .i64 a ∧ c1 = .int .i64 b ∧ c2 = .int .i64 c ∧ c3 = .int .i64 d := by
  obtain ⟨y0, y1, y2, y3, n, -, -, h0, h1, h2, h3⟩ := trod_struct4 Tryd.underlying25 h
  simp only [cInt, List.drop_zero, List.drop_succ_cons, List.take_succ_cons, List.take_zero] at h0 h1 h2 h3
  obtain ⟨a, rfl, -⟩ := one_int h0
  obtain ⟨b, rfl, -⟩ := one_int h1
  obtain ⟨c, rfl, -⟩ := one_int h2
  obtain ⟨d, rfl, -⟩ := one_int h3
  exact ⟨a, b, c, d, rfl, rfl, rfl, rfl⟩
theorem list10 {α : Type} {l : List α} (h : l.length = 10) : ∃ c0 c1 c2 c3 c4 c5 c6 c7 c8 c9, l = [c0, c1, c2, c3, c4, c5, c6, c7, c8, c9] := by
  match l, h with
  | [c0, c1, c2, c3, c4, c5, c6, c7, c8, c9], _ => exact ⟨c0, c1, c2, c3, c4, c5, c6, c7, c8, c9, rfl⟩
set_option maxRecDepth 100000 in
theorem open_vat {r : Reach} {b0 : Nat} {v : Value} {d : DataW H} {p : List MemPlace} (hv : Value.okWide Tryd.prog w r b0 27 v) (h : DataW.Trod enc Tryd.prog w base spare held 27 v d p) :
    ∃ bw bs ba sw ss sa so gw gs ga : Int, v = .agg #[.int .i64 bw, .int .i64 bs, .int .i64 ba, .int .i64 sw, .int .i64 ss, .int .i64 sa, .int .i64 so, .int .i64 gw, .int .i64 gs, .int .i64 ga] := by
  obtain ⟨cs, rfl, hsz⟩ := okWide_struct Tryd.underlying27 hv
  obtain ⟨l⟩ := cs
  obtain ⟨c0, c1, c2, c3, c4, c5, c6, c7, c8, c9, rfl⟩ := list10 (hsz.trans cVat)
  obtain ⟨fu, hf⟩ := h
  obtain ⟨y0, y1, y2, n, -, -, h0, h1, h2⟩ := trod_struct3 Tryd.underlying27 hf
  simp only [cBath, cSkin, Value.cells, List.drop_zero, List.drop_succ_cons, List.take_succ_cons, List.take_zero] at h0 h1 h2
  obtain ⟨bw, bs, ba, rfl, rfl, rfl⟩ := bath_cells h0
  obtain ⟨sw, ss, sa, so, rfl, rfl, rfl, rfl⟩ := skin_cells h1
  obtain ⟨gw, gs, ga, rfl, rfl, rfl⟩ := bath_cells h2
  exact ⟨bw, bs, ba, sw, ss, sa, so, gw, gs, ga, rfl⟩
set_option maxRecDepth 100000 in
theorem open_bath {r : Reach} {b0 : Nat} {v : Value} {d : DataW H} {p : List MemPlace} (hv : Value.okWide Tryd.prog w r b0 23 v) (h : DataW.Trod enc Tryd.prog w base spare held 23 v d p) :
    ∃ x y z : Int, v = .agg #[.int .i64 x, .int .i64 y, .int .i64 z] := by
  obtain ⟨cs, rfl, hsz⟩ := okWide_struct Tryd.underlying23 hv
  obtain ⟨c0, c1, c2, rfl⟩ := array3 (hsz.trans cBath)
  obtain ⟨fu, hf⟩ := h
  obtain ⟨x, y, z, rfl, rfl, rfl⟩ := bath_cells hf
  exact ⟨x, y, z, rfl⟩
theorem okWide_arr {t e : TypeId} {n : Nat} {r : Reach} {b0 : Nat} {v : Value} {P : Program} (ht : P.underlying t = some (.array n e)) (h : Value.okWide P w r b0 t v) : ∃ cs, v = .agg cs ∧ cs.size = P.cellsOf t := by
  simp only [Value.okWide, ht] at h
  obtain ⟨cs, h1, h2, _⟩ := h
  exact ⟨cs, h1, h2⟩
end
set_option maxRecDepth 100000 in
theorem open_steps {H : Type} {enc : TypeId × Value → H} {W : World} {r : Reach} {b0 : Nat} {v : Value} {d : DataW H} {p : List MemPlace} (hv : Value.okWide Tryd.prog W r b0 36 v)
    (h : DataW.Trod enc Tryd.prog W 0 (fun _ => true) true 36 v d p) : ∃ L, RS W v L ∧ L.length ≤ maxLen := by
  obtain ⟨a0, len, cap, rfl⟩ := WideShapes.okWide_slice Tryd.underlying36 hv
  obtain ⟨fu, hf⟩ := h
  rcases open_slice_pairs Tryd.underlying36 Tryd.underlying33 (by kernel_rfl) rfl rfl (by kernel_rfl) (by kernel_rfl) hf with ⟨hcs, _⟩ | ⟨a, len', cap', m, n, V0, V1, D0, D1, P0, P1, hcs, _, hl, hm, hmm, _, hi⟩
  · simp [Value.cells] at hcs
    obtain ⟨rfl, rfl, rfl⟩ := hcs
    exact ⟨[], ⟨none, 0, rfl, fun i f hf => by simp at hf⟩, Nat.zero_le _⟩
  · simp [Value.cells] at hcs
    obtain ⟨rfl, rfl, rfl⟩ := hcs
    have each : ∀ i, i < len → ∃ q : St, W.cell? (a.add (i * 2)) = some (.int .i64 q.k) ∧ W.cell? (a.add (i * 2 + 1)) = some (.int .i64 q.n) := by
      intro i hlt
      obtain ⟨c0, c1, h0, h1⟩ := hi i (by rw [hmm]; split <;> omega)
      obtain ⟨s0, e0, _⟩ := one_int h0
      obtain ⟨s1, e1, _⟩ := one_int h1
      rw [e0] at c0
      rw [e1] at c1
      exact ⟨⟨s0, s1⟩, c0, c1⟩
    haveI : Inhabited St := ⟨⟨0, 0⟩⟩
    obtain ⟨q, hq⟩ := choose_lt each
    refine ⟨(List.range len).map q, ⟨some a, cap, by simp, fun i f hf => ?_⟩, by simp; omega⟩
    have hil : i < len := by
      have := (List.getElem?_eq_some_iff.1 hf).1
      simpa using this
    obtain ⟨c0, c1⟩ := hq i hil
    have hfe : q i = f := by
      rw [List.getElem?_map, List.getElem?_range hil] at hf
      simpa using hf
    rw [hfe] at c0 c1
    obtain ⟨b, off, spot⟩ := a
    have hspot : spot = none := by
      obtain ⟨e0, _⟩ := hq 0 (by omega)
      simpa [Addr.add] using World.cell?_spot e0
    subst hspot
    rw [add_plain] at c0 c1
    have hb := World.block_lt_of_cell? _ _ c0
    exact ⟨b, off, rfl, hb, c0, by rw [Nat.add_assoc]; exact c1⟩
end Go.Proofs.YteidabpflfkdcaaDoor.Bt
