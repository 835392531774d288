/-
  The iterator hourly$1: the vats hour by hour, in their order.
-/
import Derived.Test.YteidabpflfkdcaaDoorBtRange
import Derived.Test.YteidabpflfkdcaaDoorBtHourB
namespace Go.Proofs.YteidabpflfkdcaaDoor.Bt
open Go Go.RowKit

/-! ### A vat that lies in a block -/
theorem cell_none_of {W : World} {k : Nat} {o : Obj} (h : W.heap[k]? = some o) (hc : o.isCells = false) (j : Nat) : W.cell? ⟨k, j, none⟩ = none := by
  cases o <;> simp_all [World.cell?, Obj.isCells]
structure VatAt (W : World) (U : Nat) (u : Va) : Prop where
  c0 : W.cell? ⟨U, 0, none⟩ = some (.int .i64 u.b.w)
  c1 : W.cell? ⟨U, 1, none⟩ = some (.int .i64 u.b.s)
  c2 : W.cell? ⟨U, 2, none⟩ = some (.int .i64 u.b.a)
  c3 : W.cell? ⟨U, 3, none⟩ = some (.int .i64 u.s.w)
  c4 : W.cell? ⟨U, 4, none⟩ = some (.int .i64 u.s.s)
  c5 : W.cell? ⟨U, 5, none⟩ = some (.int .i64 u.s.a)
  c6 : W.cell? ⟨U, 6, none⟩ = some (.int .i64 u.s.o)
  c7 : W.cell? ⟨U, 7, none⟩ = some (.int .i64 u.g.w)
  c8 : W.cell? ⟨U, 8, none⟩ = some (.int .i64 u.g.s)
  c9 : W.cell? ⟨U, 9, none⟩ = some (.int .i64 u.g.a)
  z : ∀ j, W.frozen? ⟨U, j, none⟩ = false
theorem VatAt.lt {W : World} {U : Nat} {u : Va} (h : VatAt W U u) : U < W.heap.size := World.block_lt_of_cell? _ _ h.c0
theorem VatAt.cells {W : World} {U : Nat} {u : Va} (h : VatAt W U u) : ∃ o : Obj, W.heap[U]? = some o ∧ o.isCells = true := by
  refine ⟨W.heap[U]'h.lt, Array.getElem?_eq_getElem h.lt, ?_⟩
  cases hc : (W.heap[U]'h.lt).isCells with
  | true => rfl
  | false =>
    have := cell_none_of (Array.getElem?_eq_getElem h.lt) hc 0
    rw [h.c0] at this
    cases this
theorem VatAt.same {W W' : World} {U : Nat} {u : Va} (h : VatAt W U u) (hb : W'.heap[U]? = W.heap[U]?) : VatAt W' U u :=
  ⟨(World.cell?_of_block (a := ⟨U, 0, none⟩) hb).trans h.c0, (World.cell?_of_block (a := ⟨U, 1, none⟩) hb).trans h.c1, (World.cell?_of_block (a := ⟨U, 2, none⟩) hb).trans h.c2, (World.cell?_of_block (a := ⟨U, 3, none⟩) hb).trans h.c3, (World.cell?_of_block (a := ⟨U, 4, none⟩) hb).trans h.c4, (World.cell?_of_block (a := ⟨U, 5, none⟩) hb).trans h.c5, (World.cell?_of_block (a := ⟨U, 6, none⟩) hb).trans h.c6, (World.cell?_of_block (a := ⟨U, 7, none⟩) hb).trans h.c7, (World.cell?_of_block (a := ⟨U, 8, none⟩) hb).trans h.c8, (World.cell?_of_block (a := ⟨U, 9, none⟩) hb).trans h.c9, fun j => (World.frozen?_of_block (a := ⟨U, j, none⟩) hb).trans (h.z j)⟩
/-- What the iterator asks of a round. -/
structure Keep1 (U : Nat) (A B : World) : Prop where
  size : A.heap.size ≤ B.heap.size
  same : ∀ o : Obj, A.heap[U]? = some o → o.isCells = true → B.heap[U]? = some o
theorem Keep1.refl (U : Nat) (A : World) : Keep1 U A A := ⟨Nat.le_refl _, fun _ h _ => h⟩
theorem Keep1.trans {U : Nat} {A B C : World} (h : Keep1 U A B) (k : Keep1 U B C) : Keep1 U A C := ⟨Nat.le_trans h.size k.size, fun o ho hc => k.same o (h.same o ho hc) hc⟩
theorem Keep1.putObj (U : Nat) (W : World) (l : Nat) (o o' : Obj) (hl : W.heap[l]? = some o) (ho : o.isCells = false) : Keep1 U W (W.putObj l o') := by
  refine ⟨by simp, fun x hx hc => ?_⟩
  by_cases e : U = l
  · subst e
    rw [hl] at hx
    cases hx
    rw [ho] at hc
    cases hc
  · exact (World.putObj_heap_other e).trans hx
theorem Keep1.of_grown {U : Nat} {A B : World} {row : Option Nat} (h : A.grownBy B row) (hr : row ≠ some U) : Keep1 U A B :=
  ⟨h.size, fun _ ho _ => (h.block U (Array.getElem?_eq_some_iff.1 ho).1 (fun e => hr e.symm)).trans ho⟩
theorem VatAt.keep {W W' : World} {U : Nat} {u : Va} (h : VatAt W U u) (k : Keep1 U W W') : VatAt W' U u := by
  obtain ⟨o, ho, hc⟩ := h.cells
  exact h.same ((k.same o ho hc).trans ho.symm)
theorem grown_below {A B : World} (h : Below A.heap.size A B) (row : Option Nat) : A.grownBy B row := ⟨h.os, h.tape, h.output, h.size, fun k hk _ => h.block k hk⟩
theorem setCell_grown (W : World) (U k : Nat) (v : Value) : W.grownBy (W.setCell ⟨U, k, none⟩ v) (some U) :=
  ⟨rfl, rfl, rfl, by simp [World.setCell], fun j _ hj => Below.heap_setCell W ⟨U, k, none⟩ v j (fun e => hj (by rw [e]))⟩
theorem grown_trans {A B C : World} {row : Option Nat} (h : A.grownBy B row) (k : B.grownBy C row) : A.grownBy C row :=
  ⟨k.os.trans h.os, k.tape.trans h.tape, k.output.trans h.output, Nat.le_trans h.size k.size, fun j hj hr => (k.block j (Nat.lt_of_lt_of_le hj h.size) hr).trans (h.block j hj hr)⟩
/-- A vat is stored, number by number. -/
def setVat (W : World) (U : Nat) (u : Va) : World :=
  (((((((((W.setCell ⟨U, 0, none⟩ (.int .i64 u.b.w)).setCell ⟨U, 1, none⟩ (.int .i64 u.b.s)).setCell ⟨U, 2, none⟩ (.int .i64 u.b.a)).setCell ⟨U, 3, none⟩ (.int .i64 u.s.w)).setCell ⟨U, 4, none⟩ (.int .i64 u.s.s)).setCell ⟨U, 5, none⟩ (.int .i64 u.s.a)).setCell ⟨U, 6, none⟩ (.int .i64 u.s.o)).setCell ⟨U, 7, none⟩ (.int .i64 u.g.w)).setCell ⟨U, 8, none⟩ (.int .i64 u.g.s)).setCell ⟨U, 9, none⟩ (.int .i64 u.g.a)
theorem setVat_grown (W : World) (U : Nat) (u : Va) : W.grownBy (setVat W U u) (some U) := by
  unfold setVat
  exact grown_trans (grown_trans (grown_trans (grown_trans (grown_trans (grown_trans (grown_trans (grown_trans (grown_trans (setCell_grown _ _ _ _) (setCell_grown _ _ _ _)) (setCell_grown _ _ _ _)) (setCell_grown _ _ _ _)) (setCell_grown _ _ _ _)) (setCell_grown _ _ _ _)) (setCell_grown _ _ _ _)) (setCell_grown _ _ _ _)) (setCell_grown _ _ _ _)) (setCell_grown _ _ _ _)
theorem setVat_at {W : World} {U : Nat} {u u' : Va} (h : VatAt W U u) : VatAt (setVat W U u') U u' := by
  obtain ⟨h0, h1, h2, h3, h4, h5, h6, h7, h8, h9, hz⟩ := h
  unfold setVat
  constructor <;> simp (maxDischargeDepth := 12) [go_sem, h0, h1, h2, h3, h4, h5, h6, h7, h8, h9, hz]

/-! ### The iterator -/
def encH (x : Nat × Va) : Array Value := #[.int .i64 (x.1 : Int), .agg #[.int .i64 x.2.b.w, .int .i64 x.2.b.s, .int .i64 x.2.b.a, .int .i64 x.2.s.w, .int .i64 x.2.s.s, .int .i64 x.2.s.a, .int .i64 x.2.s.o, .int .i64 x.2.g.w, .int .i64 x.2.g.s, .int .i64 x.2.g.a]]
def hrs (v : Va) (k : Nat) : List (Nat × Va) := (List.range k).map fun h => (h, hoursN h v)
theorem hrs_succ (v : Va) (k : Nat) : hrs v (k + 1) = hrs v k ++ [(k, hoursN k v)] := by
  unfold hrs
  rw [List.range_succ, List.map_append]
  rfl
theorem hrs_prefix (v : Va) {k m : Nat} (h : k ≤ m) : hrs v k <+: hrs v m := by
  obtain ⟨d, rfl⟩ : ∃ d, m = k + d := ⟨m - k, by omega⟩
  unfold hrs
  rw [List.range_add, List.map_append]
  exact List.prefix_append _ _
set_option maxRecDepth 100000 in
set_option maxHeartbeats 4000000 in
theorem hourly_yields (n : Nat) (_hn : 1 ≤ n) (Av Am : Nat) (v : Va) (m : Nat) (w : World) (hv : vatB v = true) (hm : m ≤ 10000) (hA : VatAt w Av v) (hM : w.cell? ⟨Am, 0, none⟩ = some (.int .i64 m)) :
    YieldsS encH Fence.wide n Tryd.prog 116 #[.pointer (some ⟨Av, 0, none⟩), .pointer (some ⟨Am, 0, none⟩)] Keep1 (hrs v (m + 1)) w := by
  intro l J Jx W hW hsz hJ hJx hY h0
  have hAW : VatAt W Av v := hA.same (hW.block Av hA.lt)
  have hMl := World.block_lt_of_cell? _ _ hM
  have cm : W.cell? ⟨Am, 0, none⟩ = some (.int .i64 m) := (hW.cell (p := ⟨Am, 0, none⟩) hMl).trans hM
  have hAl := hAW.lt
  obtain ⟨a0, a1, a2, a3, a4, a5, a6, a7, a8, a9, az⟩ := hAW
  have HV : Kp (vatB v = true) := ⟨hv⟩
  obtain ⟨U, hU⟩ : ∃ U, W.heap.size = U := ⟨_, rfl⟩
  have HN0 : Kp (VatAt (W.alloc (.cells #[.int .i64 v.b.w, .int .i64 v.b.s, .int .i64 v.b.a, .int .i64 v.s.w, .int .i64 v.s.s, .int .i64 v.s.a, .int .i64 v.s.o, .int .i64 v.g.w, .int .i64 v.g.s, .int .i64 v.g.a] 27)) U (hoursN 0 v)) := ⟨by
    rw [← hU]
    constructor <;> (try intro j) <;> simp [hoursN, go_sem]⟩
  have HJ0 : Kp (J (hrs v 0) (W.alloc (.cells #[.int .i64 v.b.w, .int .i64 v.b.s, .int .i64 v.b.a, .int .i64 v.s.w, .int .i64 v.s.s, .int .i64 v.s.a, .int .i64 v.s.o, .int .i64 v.g.w, .int .i64 v.g.s, .int .i64 v.g.a] 27))) := ⟨hJ _ _ _ none h0 (World.grownBy_alloc _ _ none) (fun r e => by cases e)⟩
  have HJ : Kp _ := ⟨hJ⟩
  have HJx : Kp _ := ⟨hJx⟩
  have HY : Kp _ := ⟨hY⟩
  rw [hU] at HJ HJx HY
  have HU : Kp (W.heap.size = U) := ⟨hU⟩
  have hMW : Am < W.heap.size := Nat.lt_of_lt_of_le hMl hW.size
  clear hJ hJx hY hA hM hv hW hsz h0 hMl az hU
  refine callsIn_of_wp Tryd.func116 rfl trivial ?_ rfl
  simp only [Tryd.ntmps116, List.size_toArray, List.length_cons, List.length_nil, Nat.reduceAdd, Nat.reduceSub, Array.replicate_succ, Array.replicate_zero, List.push_toArray, List.append_toArray, List.nil_append, List.cons_append]
  gi_wp2
  rw [HU.out]
  clear a0 a1 a2 a3 a4 a5 a6 a7 a8 a9 cm
  gi_loopw [9] (fun a wr => ∃ k : Nat, k ≤ m + 1 ∧ a = .int .i64 (k : Int) ∧ VatAt wr U (hoursN k v) ∧ J (hrs v k) wr) (fun a _ => m + 1 - (intOf a).toNat)
  case atStart => exact ⟨0, by omega, rfl, HN0.out, HJ0.out⟩
  case round =>
    clear HN0 HJ0
    obtain ⟨k, hk, rfl, hN, hJk⟩ := hrel
    have HN : Kp (VatAt wr U (hoursN k v)) := ⟨hN⟩
    have HJK : Kp (J (hrs v k) wr) := ⟨hJk⟩
    clear hN hJk
    by_cases hlt : k < m + 1
    · have o1 : (k : Int) < (m : Int) + 1 := by omega
      obtain ⟨fn, tmps, assign, body, hy, hRd⟩ := HY.out (hrs v k) (k, hoursN k v) wr HJK.out (by rw [← hrs_succ]; exact hrs_prefix v (by omega)) HN.out.lt
      rw [← hrs_succ] at hRd
      have HH : Kp (hoursN (k + 1) v = hour (hoursN k v)) := ⟨hoursN_succ k v⟩
      have HW : Kp (vatB (hoursN k v) = true) := ⟨hoursN_valid k HV.out⟩
      obtain ⟨u, hu⟩ : ∃ u, hoursN k v = u := ⟨_, rfl⟩
      rw [hu] at HN HH HW hy
      obtain ⟨⟨bw, bs, ba⟩, ⟨sw, ss, sa, so⟩, ⟨gw, gs, ga⟩⟩ := u
      obtain ⟨a0, a1, a2, a3, a4, a5, a6, a7, a8, a9, az⟩ := HN.out
      simp only [encH] at hy a0 a1 a2 a3 a4 a5 a6 a7 a8 a9
      clear hu
      gi_wp2
      refine hRd.mono ?_
      rintro e W3 (⟨rfl, hJ3, hk3⟩ | ⟨rfl, hx3⟩)
      · have HN3 : Kp (VatAt W3 U ⟨⟨bw, bs, ba⟩, ⟨sw, ss, sa, so⟩, ⟨gw, gs, ga⟩⟩) := ⟨HN.out.keep hk3⟩
        have HJ3 : Kp (J (hrs v (k + 1)) W3) := ⟨hJ3⟩
        clear hk3 hy hRd hJ3 a0 a1 a2 a3 a4 a5 a6 a7 a8 a9 az
        obtain ⟨a0, a1, a2, a3, a4, a5, a6, a7, a8, a9, az⟩ := HN3.out
        simp only at a0 a1 a2 a3 a4 a5 a6 a7 a8 a9
        gi_wp2
        refine ⟨trivial, (callsIn_wide.2 (afterHour_any bw bs ba sw ss sa so gw gs ga W3 HW.out)).mono ?_⟩
        rintro e W4 ⟨rfl, hb4⟩
        have HN4 : Kp (VatAt W4 U ⟨⟨bw, bs, ba⟩, ⟨sw, ss, sa, so⟩, ⟨gw, gs, ga⟩⟩) := ⟨HN3.out.same (hb4.block U HN3.out.lt)⟩
        have HJ4 : Kp (J (hrs v (k + 1)) W4) := ⟨HJ.out _ _ _ none HJ3.out (grown_below hb4 none) (fun r e => by cases e)⟩
        have HN5 : Kp (VatAt (setVat W4 U (hoursN (k + 1) v)) U (hoursN (k + 1) v)) := ⟨setVat_at HN4.out⟩
        have HJ5 : Kp (J (hrs v (k + 1)) (setVat W4 U (hoursN (k + 1) v))) := ⟨HJ.out _ _ _ (some U) HJ4.out (setVat_grown _ _ _) (fun r e => by cases e; rfl)⟩
        rw [HH.out] at HN5 HJ5
        unfold hour setVat at HN5 HJ5
        simp only at HN5 HJ5
        clear hb4 a0 a1 a2 a3 a4 a5 a6 a7 a8 a9 az HN3 HJ3
        obtain ⟨a0, a1, a2, a3, a4, a5, a6, a7, a8, a9, az⟩ := HN4.out
        simp only at a0 a1 a2 a3 a4 a5 a6 a7 a8 a9
        obtain ⟨D, hD⟩ : ∃ D, ovr so (bal bw sw bs ss - ss) = D := ⟨_, rfl⟩
        obtain ⟨E, hE⟩ : ∃ E, ovr so (bal bw sw ba sa - sa) = E := ⟨_, rfl⟩
        have HDE : Kp (ovr so (bal bw sw bs ss - ss) = D ∧ ovr so (bal bw sw ba sa - sa) = E) := ⟨⟨hD, hE⟩⟩
        rw [hD, hE] at HN5 HJ5 ⊢
        clear hD hE
        gi_wp2
        go_roundw
        case rel => exact ⟨k + 1, by omega, by go_num, by rw [HH.out]; unfold hour; simp only; rw [HDE.out.1, HDE.out.2]; exact HN5.out, HJ5.out⟩
        case measure => simp [intOf]; omega
      · have HX : Kp (Jx (hrs v (k + 1)) W3) := ⟨hx3⟩
        have HP : Kp (hrs v (k + 1) <+: hrs v (m + 1)) := ⟨hrs_prefix v (by omega)⟩
        clear hx3 hy hRd a0 a1 a2 a3 a4 a5 a6 a7 a8 a9 az
        gi_wp2
        exact bodyPost_ret (results_none rfl _ _ _) rfl ⟨⟨_, rfl⟩, .inr ⟨_, HP.out, HX.out⟩⟩
    · have hkm : k = m + 1 := by omega
      have HJF : Kp (J (hrs v (m + 1)) wr) := ⟨by rw [← hkm]; exact HJK.out⟩
      clear hkm
      gi_wp2
      go_end0
      exact ⟨⟨_, rfl⟩, .inl HJF.out⟩
end Go.Proofs.YteidabpflfkdcaaDoor.Bt
