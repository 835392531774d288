/-
  WALKS (layer 3, baths): waiting.
-/
import Derived.Test.YteidabpflfkdcaaDoorBtHourly
namespace Go.Proofs.YteidabpflfkdcaaDoor.Bt
open Go Go.RowKit
attribute [local go_sem] Oper.semAt_some

theorem hourly_any (bw bs ba sw ss sa so gw gs ga n : Int) (w : World) :
    Calls Tryd.prog 107 #[.agg #[.int .i64 bw, .int .i64 bs, .int .i64 ba, .int .i64 sw, .int .i64 ss, .int .i64 sa, .int .i64 so, .int .i64 gw, .int .i64 gs, .int .i64 ga], .int .i64 n] w fun e w' => e = .returned (.func (.func 116) #[] #[.pointer (some ⟨w.heap.size, 0, none⟩), .pointer (some ⟨w.heap.size + 1, 0, none⟩)]) ∧ (w.alloc (.cells #[.int .i64 bw, .int .i64 bs, .int .i64 ba, .int .i64 sw, .int .i64 ss, .int .i64 sa, .int .i64 so, .int .i64 gw, .int .i64 gs, .int .i64 ga] 27)).alloc (.cells #[.int .i64 n] 3) = w' := by
  go_enter Tryd.func107, Tryd.ntmps107
  go_wp2
  go_ret
  exact ⟨rfl, rfl⟩
theorem grown_abide {w X Y : World} {P B : Nat} {row : Option Nat} (h : w.grownBy X (some P)) (g : X.grownBy Y row) (hB : w.heap.size ≤ B) (hr : ∀ r, row = some r → B ≤ r) : w.grownBy Y (some P) :=
  ⟨g.os.trans h.os, g.tape.trans h.tape, g.output.trans h.output, Nat.le_trans h.size g.size, fun k hk hp => (g.block k (Nat.lt_of_lt_of_le hk h.size) (fun e => by have := hr k e.symm; omega)).trans (h.block k hk hp)⟩
theorem vatAt_abide {X Y : World} {U B : Nat} {u : Va} {row : Option Nat} (h : VatAt X U u) (g : X.grownBy Y row) (hr : ∀ r, row = some r → r = B + 2 ∨ (B ≤ r ∧ ∃ o : Obj, X.heap[r]? = some o ∧ o.isCells = false)) (hU : U ≠ B + 2) : VatAt Y U u :=
  h.same (g.block U h.lt (fun e => by
    rcases hr U e.symm with h1 | ⟨_, o, ho, hc⟩
    · exact hU h1
    · obtain ⟨o', ho', hc'⟩ := h.cells
      rw [ho] at ho'
      cases ho'
      rw [hc] at hc'
      cases hc'))
/-- The vat after the hours that have come. -/
def lastH (pre : List (Nat × Va)) (v : Va) : Va := (pre.getLast?.map (·.2)).getD v
theorem lastH_snoc (pre : List (Nat × Va)) (x : Nat × Va) (v : Va) : lastH (pre ++ [x]) v = x.2 := by unfold lastH; simp
theorem lastH_all (v : Va) (n : Nat) : lastH (hrs v (n + 1)) v = hoursN n v := by rw [hrs_succ, lastH_snoc]
/-- What a wait keeps. -/
structure WaitI (w : World) (P Z : Nat) (u : Va) (W : World) : Prop where
  grown : w.grownBy W (some P)
  ptr : W.cell? ⟨Z, 0, none⟩ = some (.pointer (some ⟨P, 0, none⟩))
  vat : VatAt W P u
theorem WaitI.abide {w : World} {P Z B : Nat} {u : Va} (hB : w.heap.size ≤ B) (hP : P < w.heap.size) (hZ : Z < B) : Abides B (WaitI w P Z u) := by
  intro X Y row h g hr
  have hr' : ∀ r, row = some r → B ≤ r := fun r e => by rcases hr r e with h | h <;> omega
  have hz := World.block_lt_of_cell? _ _ h.ptr
  exact ⟨grown_abide h.grown g hB hr', (World.cell?_of_block (a := ⟨Z, 0, none⟩) (g.block Z hz (fun e => by have := hr' Z e.symm; omega))).trans h.ptr, vatAt_abide h.vat g hr (by omega)⟩
theorem setVat_keeps {B U : Nat} {W : World} {u u' : Va} (h : VatAt W U u) : KeepsFrom B W (setVat W U u') :=
  ⟨(setVat_grown W U u').size, fun k o _ hk hc => ((setVat_grown W U u').block k (Array.getElem?_eq_some_iff.1 hk).1 (fun e => by
    simp only [Option.some.injEq] at e
    subst e
    obtain ⟨o', ho', hc'⟩ := h.cells
    rw [hk] at ho'
    cases ho'
    rw [hc] at hc'
    cases hc')).trans hk⟩
theorem alloc_keeps (B : Nat) (W : World) (o : Obj) : KeepsFrom B W (W.alloc o) := ⟨by simp, fun k _ _ hk _ => (Below.heap_alloc W o k (Array.getElem?_eq_some_iff.1 hk).1).trans hk⟩
theorem alloc_keep1 (U : Nat) (W : World) (o : Obj) : Keep1 U W (W.alloc o) := ⟨by simp, fun _ hk _ => (Below.heap_alloc W o U (Array.getElem?_eq_some_iff.1 hk).1).trans hk⟩
theorem wait_start {w w1 : World} {P n : Nat} {v : Va} (h : ((w.alloc (.cells #[.pointer (some ⟨P, 0, none⟩)] 127)).alloc (.cells #[.int .i64 v.b.w, .int .i64 v.b.s, .int .i64 v.b.a, .int .i64 v.s.w, .int .i64 v.s.s, .int .i64 v.s.a, .int .i64 v.s.o, .int .i64 v.g.w, .int .i64 v.g.s, .int .i64 v.g.a] 27)).alloc (.cells #[.int .i64 n] 3) = w1) :
    w1.cell? ⟨w.heap.size, 0, none⟩ = some (.pointer (some ⟨P, 0, none⟩)) ∧ VatAt w1 (w.heap.size + 1) v ∧ w1.cell? ⟨w.heap.size + 1 + 1, 0, none⟩ = some (.int .i64 n) ∧ w1.heap.size = w.heap.size + 3 ∧ Below w.heap.size w w1 := by
  subst h
  refine ⟨by go_simp, ?_, by go_simp, by simp, by repeat (first | exact Below.refl _ _ | refine Below.alloc ?_ (by simp <;> omega) _ | refine bDrewN ?_ _ | refine Below.drew ?_)⟩
  constructor <;> (try intro j) <;> go_simp
def WaitPost (w : World) (P : Nat) (u : Va) (e : Ending) (w' : World) : Prop := (∃ x, e = .returned x) ∧ w.grownBy w' (some P) ∧ VatAt w' P u
set_option maxRecDepth 100000 in
set_option maxHeartbeats 4000000 in
theorem wait_any (P : Nat) (v : Va) (n : Nat) (w : World) (hv : vatB v = true) (hn : n ≤ 1000) (hA : VatAt w P v) :
    Calls Tryd.prog 87 #[.pointer (some ⟨P, 0, none⟩), .int .i64 n] w (WaitPost w P (hoursN n v)) := by
  obtain ⟨a0, a1, a2, a3, a4, a5, a6, a7, a8, a9, az⟩ := hA
  have HA : Kp (VatAt w P v) := ⟨⟨a0, a1, a2, a3, a4, a5, a6, a7, a8, a9, az⟩⟩
  have HV : Kp (vatB v = true) := ⟨hv⟩
  have hP : P < w.heap.size := HA.out.lt
  obtain ⟨Z, hZ⟩ : ∃ Z, w.heap.size = Z := ⟨_, rfl⟩
  have HZ : Kp (w.heap.size = Z) := ⟨hZ⟩
  clear hv az hZ
  refine (callsIn_wide (n := 6)).1 ?_
  refine callsIn_of_wp_marks Tryd.func87 rfl trivial ?_ rfl
  simp only [Tryd.ntmps87, List.size_toArray, List.length_cons, List.length_nil, Nat.reduceAdd, Nat.reduceSub, Array.replicate_succ, Array.replicate_zero, List.push_toArray, List.append_toArray, List.nil_append, List.cons_append]
  gi_wp2_with fail
  refine ⟨trivial, (callsIn_wide.2 (hourly_any v.b.w v.b.s v.b.a v.s.w v.s.s v.s.a v.s.o v.g.w v.g.s v.g.a n _)).mono ?_⟩
  rintro e w1 ⟨rfl, hw1⟩
  obtain ⟨s0, s1, s2, s3, s4⟩ := wait_start hw1
  rw [HZ.out] at s0 s1 s2 s3
  have HS : Kp (w1.heap.size = Z + 3) := ⟨s3⟩
  have HI : Kp (WaitI w P Z v w1) := ⟨⟨grown_below s4 _, s0, HA.out.same (s4.block P hP)⟩⟩
  have HAv : Kp (VatAt w1 (Z + 1) v) := ⟨s1⟩
  have HAm : Kp (w1.cell? ⟨Z + 1 + 1, 0, none⟩ = some (.int .i64 n)) := ⟨s2⟩
  have hPZ : P < Z := by have := HZ.out; omega
  clear hw1 s0 s1 s2 s3 s4 a0 a1 a2 a3 a4 a5 a6 a7 a8 a9
  gi_wp2
  rw [HZ.out]
  refine wpIn_yieldsS (enc := encH) rfl (by omega) (gf := 116) (lb := #[.pointer (some ⟨Z + 1, 0, none⟩), .pointer (some ⟨Z + 1 + 1, 0, none⟩)]) rfl trivial (enters_of Tryd.func116 (by kernel_rfl) rfl) (fun _ => rfl)
    (hourly_yields 5 (by omega) (Z + 1) (Z + 1 + 1) v n w1 HV.out (by omega) HAv.out HAm.out) Keep1.trans (fun W l o o' _ h1 h2 _ => Keep1.putObj _ W l o o' h1 h2)
    (fun pre W => WaitI w P Z (lastH pre v) W) (fun _ _ => False) (fun s => WaitI.abide (by rw [HS.out, HZ.out]; omega) hP (by rw [HS.out]; omega)) (fun _ _ _ _ h => h.elim) HI.out
    (fun pre x a' W => WaitI w P Z (lastH pre v) W ∧ ∃ Nb, Z + 5 < Nb ∧ VatAt W Nb x.2 ∧ a' = { tmps := #[.pointer (some ⟨P, 0, none⟩), .int .i64 n, .pointer (some ⟨Z, 0, none⟩), undef, undef, .pointer (some ⟨Nb, 0, none⟩), .pointer (some ⟨P, 0, none⟩), .pointer (some ⟨P, 0, none⟩), .agg #[.int .i64 v.b.w, .int .i64 v.b.s, .int .i64 v.b.a, .int .i64 v.s.w, .int .i64 v.s.s, .int .i64 v.s.a, .int .i64 v.s.o, .int .i64 v.g.w, .int .i64 v.g.s, .int .i64 v.g.a], .int .i64 n, .func (.func 116) #[] #[.pointer (some ⟨Z + 1, 0, none⟩), .pointer (some ⟨Z + 1 + 1, 0, none⟩)], .int .i64 (x.1 : Int), .agg #[.int .i64 x.2.b.w, .int .i64 x.2.b.s, .int .i64 x.2.b.a, .int .i64 x.2.s.w, .int .i64 x.2.s.s, .int .i64 x.2.s.a, .int .i64 x.2.s.o, .int .i64 x.2.g.w, .int .i64 x.2.g.s, .int .i64 x.2.g.a], undef, undef, undef], defers := [] })
    ?ax ?assign ?body ?done ?stop
  case ax =>
    rintro pre x a' X Y row ⟨hi, Nb, hNb, hx, ha⟩ g hr
    exact ⟨WaitI.abide (by rw [HS.out, HZ.out]; omega) hP (by rw [HS.out]; omega) X Y row hi g hr, Nb, hNb, vatAt_abide hx g hr (by rw [HS.out]; omega), ha⟩
  case stop =>
    intro D ys W _ _ hf
    exact hf.elim
  case assign =>
    rintro l pre ⟨h, u⟩ W hi _ hsz
    rw [HS.out] at hsz
    have HII : Kp (WaitI w P Z (lastH pre v) W) := ⟨hi⟩
    clear hi
    have ez : ((#[11, 12] : Array Tmp).zip (encH (h, u))).foldl (fun tmps (q : Tmp × Value) => tmps.setIfInBounds q.1 q.2) #[.pointer (some ⟨P, 0, none⟩), .int .i64 n, .pointer (some ⟨Z, 0, none⟩), undef, undef, undef, .pointer (some ⟨P, 0, none⟩), .pointer (some ⟨P, 0, none⟩), .agg #[.int .i64 v.b.w, .int .i64 v.b.s, .int .i64 v.b.a, .int .i64 v.s.w, .int .i64 v.s.s, .int .i64 v.s.a, .int .i64 v.s.o, .int .i64 v.g.w, .int .i64 v.g.s, .int .i64 v.g.a], .int .i64 n, .func (.func 116) #[] #[.pointer (some ⟨Z + 1, 0, none⟩), .pointer (some ⟨Z + 1 + 1, 0, none⟩)], undef, undef, undef, undef, undef] = #[.pointer (some ⟨P, 0, none⟩), .int .i64 n, .pointer (some ⟨Z, 0, none⟩), undef, undef, undef, .pointer (some ⟨P, 0, none⟩), .pointer (some ⟨P, 0, none⟩), .agg #[.int .i64 v.b.w, .int .i64 v.b.s, .int .i64 v.b.a, .int .i64 v.s.w, .int .i64 v.s.s, .int .i64 v.s.a, .int .i64 v.s.o, .int .i64 v.g.w, .int .i64 v.g.s, .int .i64 v.g.a], .int .i64 n, .func (.func 116) #[] #[.pointer (some ⟨Z + 1, 0, none⟩), .pointer (some ⟨Z + 1 + 1, 0, none⟩)], .int .i64 (h : Int), .agg #[.int .i64 u.b.w, .int .i64 u.b.s, .int .i64 u.b.a, .int .i64 u.s.w, .int .i64 u.s.s, .int .i64 u.s.a, .int .i64 u.s.o, .int .i64 u.g.w, .int .i64 u.g.s, .int .i64 u.g.a], undef, undef, undef] := by simp [encH]
    rw [ez]
    clear ez
    gi_wp2
    refine ⟨alloc_keeps _ _ _, alloc_keep1 _ _ _, WaitI.abide (B := w1.heap.size) (by rw [HS.out, HZ.out]; omega) hP (by rw [HS.out]; omega) W _ none HII.out (World.grownBy_alloc _ _ none) (fun r e => by cases e), W.heap.size, by omega, ?_, rfl⟩
    constructor <;> (try intro j) <;> go_simp
  case body =>
    rintro l pre ⟨h, u⟩ a' W ⟨hi, Nb, hNb, hx, rfl⟩ _ hsz
    have HII : Kp (WaitI w P Z (lastH pre v) W) := ⟨hi⟩
    have HX : Kp (VatAt W Nb u) := ⟨hx⟩
    have HR : Kp (KeepsFrom w1.heap.size W (setVat W P u) ∧ Keep1 (w1.heap.size + 2) W (setVat W P u) ∧ WaitI w P Z (lastH (pre ++ [(h, u)]) v) (setVat W P u)) := ⟨setVat_keeps hi.vat, Keep1.of_grown (setVat_grown _ _ _) (by rw [HS.out]; intro e; simp only [Option.some.injEq] at e; omega), grown_trans hi.grown (setVat_grown _ _ _),
      (World.cell?_of_block (a := ⟨Z, 0, none⟩) ((setVat_grown W P u).block Z (World.block_lt_of_cell? _ _ hi.ptr) (by intro e; simp only [Option.some.injEq] at e; omega))).trans hi.ptr, by rw [lastH_snoc]; exact setVat_at hi.vat⟩
    obtain ⟨p0, p1, p2, p3, p4, p5, p6, p7, p8, p9, pz⟩ := hi.vat
    obtain ⟨x0, x1, x2, x3, x4, x5, x6, x7, x8, x9, xz⟩ := hx
    have hptr := hi.ptr
    unfold setVat at HR
    clear hi xz
    gi_wp2
    exact HR.out
  case done =>
    intro D W hD hi hd
    rw [lastH_all] at hi
    have hw := WaitI.abide (B := w1.heap.size) (by rw [HS.out, HZ.out]; omega) hP (by rw [HS.out]; omega) W _ (some D) hi (grownBy_putObj' W D (.deferred none)) (fun r e => by cases e; exact .inr ⟨hD, _, hd, rfl⟩)
    have HWW : Kp (w.grownBy (W.putObj D (.deferred none)) (some P) ∧ VatAt (W.putObj D (.deferred none)) P (hoursN n v)) := ⟨hw.grown, hw.vat⟩
    clear hi hw
    have HD := Lib.hid hd
    clear hd
    gi_wp2
    refine ⟨by simp, .inl ⟨_, _, rfl, run_takeDeferred HD.out, ?_⟩⟩
    exact ⟨_, results_none rfl _ _ _, ⟨_, rfl⟩, HWW.out.1, HWW.out.2⟩
end Go.Proofs.YteidabpflfkdcaaDoor.Bt
