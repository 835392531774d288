/-
  The second function that Data ranges over: the parts below a part.
-/
import Derived.Test.YtjdcdakedoljbaaDoorMkAbove
namespace Go.Proofs.YtjdcdakedoljbaaDoor.Mk
open Go Go.RowKit Go.Maps Go.Sort

/-- The iterator's own row of bools. -/
structure Und (U : Nat) (W : World) (bs : List Bool) : Prop where
  heap : W.heap[U]? = some (.cells (bs.map Value.bool).toArray 4 (0, 0))
theorem Und.cell {U : Nat} {W : World} {bs : List Bool} (h : Und U W bs) {k : Nat} {x : Bool} (hk : bs[k]? = some x) : W.cell? ⟨U, k, none⟩ = some (.bool x) := by
  rw [cell_of_row W U k _ _ (0, 0) h.heap]
  simp [hk]
theorem Und.froz {U : Nat} {W : World} {bs : List Bool} (h : Und U W bs) (k : Nat) : W.frozen? ⟨U, k, none⟩ = false := frozen_of_row W U k _ _ h.heap
theorem Und.set_ {U : Nat} {W : World} {bs : List Bool} (h : Und U W bs) (k : Nat) (x : Bool) : Und U (W.setCell ⟨U, k, none⟩ (.bool x)) (bs.set k x) := by
  refine ⟨(heap_setCell_same W U k _ _ (.bool x) h.heap).trans ?_⟩
  simp
theorem Und.keep {U Bx : Nat} {W W' : World} {bs : List Bool} (h : Und U W bs) (hk : Keep Bx W W') (hn : NotOwn Bx W U) : Und U W' bs :=
  ⟨(hk.same U (Array.getElem?_eq_some_iff.1 h.heap).1 ⟨_, h.heap, rfl⟩ hn).trans h.heap⟩
theorem setCell_grown (W : World) (U k : Nat) (v : Value) : W.grownBy (W.setCell ⟨U, k, none⟩ v) (some U) :=
  ⟨rfl, rfl, rfl, by simp [World.setCell], fun j _ hj => Below.heap_setCell W ⟨U, k, none⟩ v j (fun e => hj (by rw [e]))⟩
theorem NotOwn.set_ {Bx U k j : Nat} {W : World} {v : Value} (h : NotOwn Bx W k) (hU : U ≠ Bx) : NotOwn Bx (W.setCell ⟨U, j, none⟩ v) k :=
  ⟨h.1, fun u hu => h.2 u (by rw [← hu]; exact (World.cell?_of_block (w := W) (Below.heap_setCell W ⟨U, j, none⟩ v Bx (Ne.symm hU))).symm)⟩
theorem Reads.set_ {Bx A1 b o cap U j : Nat} {p : List PB} {W : World} {v : Value} (h : Reads Bx A1 b o cap p W) (hU : U ≠ Bx) (hb : U ≠ b) (hA : U ≠ A1) : Reads Bx A1 b o cap p (W.setCell ⟨U, j, none⟩ v) :=
  ⟨(World.cell?_of_block (w := W) (Below.heap_setCell W ⟨U, j, none⟩ v A1 (Ne.symm hA))).trans h.box,
   fun k x hx => (World.cell?_of_block (w := W) (Below.heap_setCell W ⟨U, j, none⟩ v b (Ne.symm hb))).trans (h.fr k x hx), h.nb.set_ hU, h.n1.set_ hU⟩
theorem Reads.lt {Bx A1 b o cap : Nat} {p : List PB} {W : World} (h : Reads Bx A1 b o cap p W) (hp : 1 ≤ p.length) : b < W.heap.size ∧ A1 < W.heap.size :=
  ⟨World.block_lt_of_cell? _ _ (h.fr 0 p[0] (List.getElem?_eq_getElem hp)), World.block_lt_of_cell? _ _ h.box⟩
/-! ### Plain lists -/
def bsAt (p : List PB) (i j : Nat) : List Bool := (List.range p.length).map fun k => decide (k < j) && underB p i k
theorem bsAt_len (p : List PB) (i j : Nat) : (bsAt p i j).length = p.length := by unfold bsAt; simp
theorem bsAt_at {p : List PB} (i j : Nat) {k : Nat} (hk : k < p.length) : (bsAt p i j)[k]? = some (decide (k < j) && underB p i k) := by
  unfold bsAt
  rw [List.getElem?_map, List.getElem?_range hk]
  rfl
theorem bsAt_start (p : List PB) {i : Nat} (hi : i < p.length) : (List.replicate p.length false).set i true = bsAt p i (i + 1) := by
  apply List.ext_getElem?
  intro k
  by_cases hk : k < p.length
  · rw [bsAt_at i (i + 1) hk, List.getElem?_set]
    by_cases e : i = k
    · subst e
      rw [if_pos rfl, if_pos (by simpa using hi), underB_low (Nat.lt_irrefl _)]
      simp
    · rw [if_neg e, List.getElem?_replicate, if_pos hk]
      by_cases h : k < i + 1
      · rw [underB_low (by omega), decide_eq_false (show ¬ k = i by omega)]
        simp
      · simp [h]
  · rw [List.getElem?_eq_none (by simpa using hk), List.getElem?_eq_none (by rw [bsAt_len]; omega)]
theorem bsAt_step {p : List PB} (hv : validP p = true) {i j : Nat} (hj : j < p.length) (hij : i < j) : (bsAt p i j).set j (underB p i (par p j)) = bsAt p i (j + 1) := by
  apply List.ext_getElem?
  intro k
  by_cases hk : k < p.length
  · rw [bsAt_at i (j + 1) hk, List.getElem?_set]
    by_cases e : j = k
    · subst e
      rw [if_pos rfl, if_pos (by rw [bsAt_len]; exact hj), ← underB_step hv hj hij]
      simp
    · rw [if_neg e, bsAt_at i j hk]
      have : decide (k < j) = decide (k < j + 1) := by rw [decide_eq_decide]; omega
      rw [this]
  · rw [List.getElem?_eq_none (by rw [List.length_set, bsAt_len]; omega), List.getElem?_eq_none (by rw [bsAt_len]; omega)]
/-- The parts below a part, of the first j. -/
def bels (p : List PB) (i j : Nat) : List Nat := (List.range j).filter fun k => decide (i < k) && underB p i k
theorem bels_start (p : List PB) (i : Nat) : bels p i (i + 1) = [] := by
  unfold bels
  rw [List.filter_eq_nil_iff]
  intro k hk
  have := List.mem_range.1 hk
  rw [decide_eq_false (show ¬ i < k by omega)]
  simp
theorem bels_step {p : List PB} {i j : Nat} (hij : i < j) : bels p i (j + 1) = bels p i j ++ if underB p i j then [j] else [] := by
  unfold bels
  rw [List.range_succ, List.filter_append, List.filter_cons, List.filter_nil, decide_eq_true hij, Bool.true_and]
theorem bels_prefix (p : List PB) (i : Nat) {j m : Nat} (h : j ≤ m) : bels p i j <+: bels p i m := by
  obtain ⟨d, rfl⟩ : ∃ d, m = j + d := ⟨m - j, by omega⟩
  unfold bels
  rw [List.range_add, List.filter_append]
  exact List.prefix_append _ _
theorem info_bool : (Tryd.prog.info? 4).map (fun i => (i.zero, i.size, i.bytes)) = some (some (.bool false), 1, 1) := by kernel_rfl
theorem made_bools (n : Nat) : (madeCells (Value.bool false).cells n).toList = ((List.replicate n false).map Value.bool).toArray.toList := by
  rw [List.map_replicate]
  exact toList_madeCells_one (.bool false) n
set_option maxRecDepth 100000 in
set_option maxHeartbeats 4000000 in
theorem below_yields (F : Fence) (n : Nat) (hF : F.fn 95) (hro : F.round = none) (hn : 1 ≤ n) (Bx A1 A2 b o cap : Nat) (p : List PB) (i : Nat) (w : World) (hv : validP p = true) (hi : i < p.length) (hR : Reads Bx A1 b o cap p w) (hA2 : w.cell? ⟨A2, 0, none⟩ = some (.int .i64 (i : Int))) (_hn2 : NotOwn Bx w A2) (hBx : Bx < w.heap.size)
    (hOB : ∀ v j, w.cell? ⟨Bx, 0, none⟩ = some v → v.ownBlock = some j → j < w.heap.size) :
    Yields true F n Tryd.prog 95 #[.pointer (some ⟨A1, 0, none⟩), .pointer (some ⟨A2, 0, none⟩)] (Keep Bx) (bels p i p.length) w := by
  intro l J W hW hsz hJ hY h0
  have hl1 : 1 ≤ p.length := by omega
  have hl100 := (validP_size hv).2
  have hRW := hR.below hl1 hBx hW
  have hA2lt := World.block_lt_of_cell? _ _ hA2
  have a2 : W.cell? ⟨A2, 0, none⟩ = some (.int .i64 (i : Int)) := (hW.cell (p := ⟨A2, 0, none⟩) hA2lt).trans hA2
  have hlt := hRW.lt hl1
  obtain ⟨i0, hi0, hz0, hz1, hz2⟩ := info_parts info_bool
  obtain ⟨wm, hmk, hrow, hgm⟩ := run_make_full (P := Tryd.prog) W W.heap.size 118 4 i0 (.bool false) 1 Tryd.underlying118 hi0 hz0 hz1 .i64 .i64 p.length (by rw [hz2]; omega) (by unfold maxLen; omega) (Nat.le_refl _)
  have HU : Kq (Und W.heap.size wm (List.replicate p.length false)) := ⟨by
    rcases hrow.2 with ⟨h, _⟩ | ⟨g, cp, cur, hv2, _, hh, _, _, hcs, htake⟩
    · simp at h
    · simp only [Value.slice.injEq, Option.some.injEq, Addr.mk.injEq, and_true, true_and] at hv2
      obtain ⟨rfl, rfl⟩ := hv2
      have e : cur = ((List.replicate p.length false).map Value.bool).toArray := by
        apply Array.ext'
        rw [List.take_of_length_le (by rw [Array.length_toList, hcs]; exact Nat.le_refl _)] at htake
        rw [htake]
        rw [Nat.mul_one]
        exact made_bools p.length
      exact ⟨by rw [← e]; exact hh⟩⟩
  have hno : ∀ k, NotOwn Bx W k → NotOwn Bx wm k := fun k hk => ⟨hk.1, fun v hv2 => hk.2 v (by rw [← hv2]; exact (World.cell?_of_block (w := W) (hgm.block Bx (by omega) (by simp))).symm)⟩
  have hcellm : ∀ k j v, W.cell? ⟨k, j, none⟩ = some v → wm.cell? ⟨k, j, none⟩ = some v := fun k j v h => (World.cell?_of_block (w := W) (hgm.block k (World.block_lt_of_cell? _ _ h) (by simp))).trans h
  have HRM : Kq (Reads Bx A1 b o cap p wm) := ⟨⟨hcellm _ _ _ hRW.box, fun k x hx => hcellm _ _ _ (hRW.fr k x hx), hno _ hRW.nb, hno _ hRW.n1⟩⟩
  have HNU : Kq (NotOwn Bx wm W.heap.size) := ⟨⟨by omega, fun v hv2 e => by
    have h1 : w.cell? ⟨Bx, 0, none⟩ = some v := (hW.cell (p := ⟨Bx, 0, none⟩) hBx).symm.trans ((World.cell?_of_block (w := W) (a := ⟨Bx, 0, none⟩) (hgm.block Bx (by omega) (by simp))).symm.trans hv2)
    have := hOB v _ h1 e
    omega⟩⟩
  have HSZ : Kq (W.heap.size < wm.heap.size) := ⟨(Array.getElem?_eq_some_iff.1 HU.out.heap).1⟩
  have HJM : Kq (J [] wm) := ⟨hJ _ _ _ none h0 hgm (fun r e => by cases e)⟩
  have a1 := hRW.box
  have a1m := HRM.out.box
  have a2m := hcellm _ _ _ a2
  have hUi := HU.out.froz i
  have hUc := HU.out.cell (k := i) (x := false) (by simp [hi])
  have o1 : (i : Int) < (p.length : Int) := by omega
  have HJ : Kq _ := ⟨hJ⟩
  have HY : Kq _ := ⟨hY⟩
  have HV : Kq (validP p = true) := ⟨hv⟩
  obtain ⟨U, hUe⟩ : ∃ U, W.heap.size = U := ⟨_, rfl⟩
  rw [hUe] at hmk HU HNU HSZ HJ HY hUi hUc hlt
  have hUB : U ≠ Bx := by omega
  have hUb : U ≠ b := by omega
  have hUA : U ≠ A1 := by omega
  have hUA2 : U ≠ A2 := by have : A2 < w.heap.size := hA2lt; omega
  clear hJ hY hRW hR hA2 hv hW hsz hno hcellm hgm hrow hz0 hz1 hz2 hi0 _hn2 hOB hlt hA2lt h0
  refine callsIn_of_wp Tryd.func95 rfl hF ?_ hro
  simp only [Tryd.ntmps95, List.size_toArray, List.length_cons, List.length_nil, Nat.reduceAdd, Nat.reduceSub, Array.replicate_succ, Array.replicate_zero, List.push_toArray, List.append_toArray, List.nil_append, List.cons_append]
  gi_wp2
  have HU1 : Kq (Und U (wm.setCell ⟨U, i, none⟩ (.bool true)) (bsAt p i (i + 1))) := ⟨by rw [← bsAt_start p hi]; exact HU.out.set_ i true⟩
  have HJ1 : Kq (J (bels p i (i + 1)) (wm.setCell ⟨U, i, none⟩ (.bool true))) := ⟨by
    rw [bels_start]
    exact HJ.out _ _ _ (some U) HJM.out (setCell_grown _ _ _ _) (fun r e => by cases e; exact ⟨by trivial, rfl⟩)⟩
  have HR1 : Kq (Reads Bx A1 b o cap p (wm.setCell ⟨U, i, none⟩ (.bool true))) := ⟨HRM.out.set_ hUB hUb hUA⟩
  have HN1 : Kq (NotOwn Bx (wm.setCell ⟨U, i, none⟩ (.bool true)) U) := ⟨HNU.out.set_ hUB⟩
  clear hmk a1 a1m a2 a2m hUi hUc HU HRM HNU HJM
  gi_loopw [5] (fun a wr => ∃ j : Nat, i < j ∧ j ≤ p.length ∧ a = .int .i64 (j : Int) ∧ Und U wr (bsAt p i j) ∧ J (bels p i j) wr ∧ Reads Bx A1 b o cap p wr ∧ NotOwn Bx wr U) (fun a _ => p.length - (intOf a).toNat)
  case atStart => exact ⟨i + 1, by omega, by omega, by go_num, HU1.out, HJ1.out, HR1.out, HN1.out⟩
  case round =>
    clear HU1 HJ1 HR1 HN1
    obtain ⟨j, hij, hj, rfl, hU, hJj, hR, hN⟩ := hrel
    have HUJ : Kq (Und U wr (bsAt p i j)) := ⟨hU⟩
    have HJJ : Kq (J (bels p i j) wr) := ⟨hJj⟩
    have HR : Kq (Reads Bx A1 b o cap p wr) := ⟨hR⟩
    have HN : Kq (NotOwn Bx wr U) := ⟨hN⟩
    have a1 := hR.box
    clear hU hJj hR hN
    by_cases hlt : j < p.length
    · obtain ⟨hq1, x, hx, hfr⟩ := par_lt HV.out hlt (by omega)
      have hst := bsAt_step HV.out hlt hij
      have hun := underB_step HV.out hlt hij
      obtain ⟨q, hq⟩ : ∃ q, par p j = q := ⟨_, rfl⟩
      rw [hq] at hq1 hfr hst hun
      obtain ⟨V, hV⟩ : ∃ V, underB p i q = V := ⟨_, rfl⟩
      have c1 := HR.out.fr j x hx
      rw [hfr] at c1
      have hbq := bsAt_at (p := p) i j (k := q) (by omega)
      rw [decide_eq_true hq1, Bool.true_and, hV] at hbq
      have c2 := HUJ.out.cell hbq
      have hbj := bsAt_at (p := p) i j hlt
      rw [decide_eq_false (Nat.lt_irrefl j), Bool.false_and] at hbj
      have c3 := HUJ.out.cell hbj
      have f3 := HUJ.out.froz j
      rw [hV] at hst hun
      have hbs := bels_step (p := p) hij
      rw [hun] at hbs
      have HBS : Kq (bels p i (j + 1) = bels p i j ++ if V then [j] else []) := ⟨hbs⟩
      have HU2 : Kq (Und U (wr.setCell ⟨U, j, none⟩ (.bool V)) (bsAt p i (j + 1))) := ⟨by rw [← hst]; exact HUJ.out.set_ j V⟩
      have HJ2 : Kq (J (bels p i j) (wr.setCell ⟨U, j, none⟩ (.bool V))) := ⟨HJ.out _ _ _ (some U) HJJ.out (setCell_grown _ _ _ _) (fun r e => by cases e; exact ⟨by trivial, rfl⟩)⟩
      have HR2 : Kq (Reads Bx A1 b o cap p (wr.setCell ⟨U, j, none⟩ (.bool V))) := ⟨HR.out.set_ hUB hUb hUA⟩
      have HN2 : Kq (NotOwn Bx (wr.setCell ⟨U, j, none⟩ (.bool V)) U) := ⟨HN.out.set_ hUB⟩
      have o2 : (j : Int) < (p.length : Int) := by omega
      have o3 : (q : Int) < (p.length : Int) := by omega
      clear hx hfr hst hun hq hV hbq hbj hbs HUJ HJJ HR HN
      cases V with
      | false =>
        have HB2 : Kq (bels p i (j + 1) = bels p i j) := ⟨by rw [HBS.out]; simp⟩
        gi_wp2
        refine ⟨fun _ h => (by cases h), ?_⟩
        gi_wp2
        go_roundw
        case rel => exact ⟨j + 1, by omega, by omega, by go_num, HU2.out, by rw [HB2.out]; exact HJ2.out, HR2.out, HN2.out⟩
        case measure => simp [intOf]; omega
      | true =>
        have HB2 : Kq (bels p i (j + 1) = bels p i j ++ [j]) := ⟨HBS.out⟩
        obtain ⟨fn, tmps, assign, body, hy, hRd⟩ := HY.out (bels p i j) j (wr.setCell ⟨U, j, none⟩ (.bool true)) HJ2.out (by rw [← HB2.out]; exact bels_prefix p i (by omega)) (fun _ => (Array.getElem?_eq_some_iff.1 HU2.out.heap).1)
        gi_wp2
        refine hRd.mono ?_
        rintro e W3 ⟨rfl, hJ3, hk3⟩
        have HU3 : Kq (Und U W3 (bsAt p i (j + 1))) := ⟨HU2.out.keep hk3 HN2.out⟩
        have HR3 : Kq (Reads Bx A1 b o cap p W3) := ⟨HR2.out.keep hl1 hk3⟩
        have HN3 : Kq (NotOwn Bx W3 U) := ⟨hk3.own U (Array.getElem?_eq_some_iff.1 HU2.out.heap).1 HN2.out⟩
        clear hk3 hy hRd
        gi_wp2
        go_roundw
        case rel => exact ⟨j + 1, by omega, by omega, by go_num, HU3.out, by rw [HB2.out]; exact hJ3, HR3.out, HN3.out⟩
        case measure => simp [intOf]; omega
    · have hjl : j = p.length := by omega
      have HJF : Kq (J (bels p i p.length) wr) := ⟨by rw [← hjl]; exact HJJ.out⟩
      clear hjl
      gi_wp2
      go_end0
      exact ⟨⟨_, rfl⟩, HJF.out⟩
end Go.Proofs.YtjdcdakedoljbaaDoor.Mk
