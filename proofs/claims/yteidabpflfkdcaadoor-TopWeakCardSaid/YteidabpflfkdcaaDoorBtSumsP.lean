/-
  WALKS (layer 3, baths): Total, Put, Hours, by the program and by the reference.
-/
import Derived.Test.YteidabpflfkdcaaDoorBtStepsC
import Derived.Test.YteidabpflfkdcaaDoorBtRefB
import Derived.LoopTactic
namespace Go.Proofs.YteidabpflfkdcaaDoor.Bt
open Go Go.RowKit

def hoursL (l : List St) : Int := (l.map fun s => if s.k = 1 then s.n else 0).sum
def putS (s : St) : Ba := ⟨if s.k = 2 then s.n else 0, if s.k = 3 then s.n else 0, if s.k = 4 then s.n else 0⟩
def putL (l : List St) : Ba := l.foldl (fun b s => addB b (putS s)) ⟨0, 0, 0⟩
theorem step_bd {s : St} (h : stepB s = true) : 0 ≤ s.n ∧ s.n ≤ 1000000000 := by
  have := step_iff.1 h
  unfold lim at this
  split at this <;> omega
theorem steps_at {l : List St} {k : Nat} {x : St} (h : stepsB l = true) (hx : l[k]? = some x) : stepB x = true := by
  unfold stepsB at h
  rw [Bool.and_eq_true] at h
  exact List.all_eq_true.1 h.2 x (List.mem_of_getElem? hx)
theorem hours_snoc {l : List St} {k : Nat} {x : St} (hx : l[k]? = some x) : hoursL (l.take (k + 1)) = hoursL (l.take k) + if x.k = 1 then x.n else 0 := by
  obtain ⟨hk, rfl⟩ := List.getElem?_eq_some_iff.1 hx
  unfold hoursL
  rw [List.take_succ_eq_append_getElem hk, List.map_append, List.sum_append]
  simp
theorem put_snoc {l : List St} {k : Nat} {x : St} (hx : l[k]? = some x) : putL (l.take (k + 1)) = addB (putL (l.take k)) (putS x) := by
  obtain ⟨hk, rfl⟩ := List.getElem?_eq_some_iff.1 hx
  unfold putL
  rw [List.take_succ_eq_append_getElem hk, List.foldl_append]
  rfl
/-- A bath that lies in a block. -/
def PutAt (w : World) (B : Nat) (b : Ba) : Prop :=
  w.cell? ⟨B, 0, none⟩ = some (.int .i64 b.w) ∧ w.cell? ⟨B, 1, none⟩ = some (.int .i64 b.s) ∧ w.cell? ⟨B, 2, none⟩ = some (.int .i64 b.a) ∧ ∀ j, w.frozen? ⟨B, j, none⟩ = false
theorem PutAt.alloc {w : World} {B : Nat} {b : Ba} (h : PutAt w B b) (hB : B < w.heap.size) (o : Obj) : PutAt (w.alloc o) B b := by
  have hb : Below w.heap.size w (w.alloc o) := (Below.refl _ _).alloc (Nat.le_refl _) _
  exact ⟨(hb.cell (p := ⟨B, 0, none⟩) hB).trans h.1, (hb.cell (p := ⟨B, 1, none⟩) hB).trans h.2.1, (hb.cell (p := ⟨B, 2, none⟩) hB).trans h.2.2.1, fun j => (hb.frozen (p := ⟨B, j, none⟩) hB).trans (h.2.2.2 j)⟩
theorem PutAt.set0 {w : World} {B : Nat} {b : Ba} (h : PutAt w B b) (v : Int) : PutAt (w.setCell ⟨B, 0, none⟩ (.int .i64 v)) B ⟨v, b.s, b.a⟩ := by
  obtain ⟨h0, h1, h2, hz⟩ := h
  refine ⟨?_, ?_, ?_, fun j => ?_⟩ <;> simp [go_sem, h0, h1, h2, hz]
theorem PutAt.set1 {w : World} {B : Nat} {b : Ba} (h : PutAt w B b) (v : Int) : PutAt (w.setCell ⟨B, 1, none⟩ (.int .i64 v)) B ⟨b.w, v, b.a⟩ := by
  obtain ⟨h0, h1, h2, hz⟩ := h
  refine ⟨?_, ?_, ?_, fun j => ?_⟩ <;> simp [go_sem, h0, h1, h2, hz]
theorem PutAt.set2 {w : World} {B : Nat} {b : Ba} (h : PutAt w B b) (v : Int) : PutAt (w.setCell ⟨B, 2, none⟩ (.int .i64 v)) B ⟨b.w, b.s, v⟩ := by
  obtain ⟨h0, h1, h2, hz⟩ := h
  refine ⟨?_, ?_, ?_, fun j => ?_⟩ <;> simp [go_sem, h0, h1, h2, hz]
theorem PutAt.other {w : World} {B B' : Nat} {b : Ba} (h : PutAt w B b) (hne : B ≠ B') (j : Nat) (v : Value) : PutAt (w.setCell ⟨B', j, none⟩ v) B b := by
  obtain ⟨h0, h1, h2, hz⟩ := h
  exact ⟨by simp [go_sem, h0], by simp [go_sem, h1], by simp [go_sem, h2], fun i => by simp [go_sem, hz]⟩
theorem Total_yes (bw bs ba sw ss sa so gw gs ga : Int) (w : World) (h : vatB ⟨⟨bw, bs, ba⟩, ⟨sw, ss, sa, so⟩, ⟨gw, gs, ga⟩⟩ = true) :
    Calls Tryd.prog 11 #[.agg #[.int .i64 bw, .int .i64 bs, .int .i64 ba, .int .i64 sw, .int .i64 ss, .int .i64 sa, .int .i64 so, .int .i64 gw, .int .i64 gs, .int .i64 ga]] w fun e w' => e = .returned (.tuple #[.agg #[.int .i64 (bw + sw + gw), .int .i64 (bs + ss + gs), .int .i64 (ba + sa + ga)], .int .i64 0]) ∧ Below w.heap.size w w' := by
  have HV : Kp (vatB ⟨⟨bw, bs, ba⟩, ⟨sw, ss, sa, so⟩, ⟨gw, gs, ga⟩⟩ = true) := ⟨h⟩
  have HD : Kp (Bds ⟨⟨bw, bs, ba⟩, ⟨sw, ss, sa, so⟩, ⟨gw, gs, ga⟩⟩) := ⟨bds_of (vat_iff.1 h).1 (vat_iff.1 h).2.1 (vat_iff.1 h).2.2.1⟩
  clear h
  go_enter Tryd.func11, Tryd.ntmps11
  go_wp2_with fail
  refine (ValidVat_yes bw bs ba sw ss sa so gw gs ga _ HV.out).mono ?_
  rintro e w1 ⟨rfl, hb1⟩
  have HB1 : Kp (Below w.heap.size w w1) := ⟨Below.trans (by repeat (first | refine Below.alloc ?_ (by (try simp) <;> omega) _ | refine bDrewN ?_ _ | refine Below.drew ?_ | exact Below.refl _ _)) (hb1.mono (by (try simp) <;> omega))⟩
  have hz1_0 : w.heap.size < w1.heap.size := by have := hb1.size; (try simp at this); omega
  have hz1_1 : w.heap.size + 1 < w1.heap.size := by have := hb1.size; (try simp at this); omega
  obtain ⟨hc, hf⟩ := bcell hb1
  have c1_0_0 : w1.cell? ⟨w.heap.size, 0, none⟩ = some (.int .i64 bw) := (hc _ _ (by (try simp) <;> omega)).trans (by go_simp)
  have c1_0_1 : w1.cell? ⟨w.heap.size, 1, none⟩ = some (.int .i64 bs) := (hc _ _ (by (try simp) <;> omega)).trans (by go_simp)
  have c1_0_2 : w1.cell? ⟨w.heap.size, 2, none⟩ = some (.int .i64 ba) := (hc _ _ (by (try simp) <;> omega)).trans (by go_simp)
  have c1_0_3 : w1.cell? ⟨w.heap.size, 3, none⟩ = some (.int .i64 sw) := (hc _ _ (by (try simp) <;> omega)).trans (by go_simp)
  have c1_0_4 : w1.cell? ⟨w.heap.size, 4, none⟩ = some (.int .i64 ss) := (hc _ _ (by (try simp) <;> omega)).trans (by go_simp)
  have c1_0_5 : w1.cell? ⟨w.heap.size, 5, none⟩ = some (.int .i64 sa) := (hc _ _ (by (try simp) <;> omega)).trans (by go_simp)
  have c1_0_6 : w1.cell? ⟨w.heap.size, 6, none⟩ = some (.int .i64 so) := (hc _ _ (by (try simp) <;> omega)).trans (by go_simp)
  have c1_0_7 : w1.cell? ⟨w.heap.size, 7, none⟩ = some (.int .i64 gw) := (hc _ _ (by (try simp) <;> omega)).trans (by go_simp)
  have c1_0_8 : w1.cell? ⟨w.heap.size, 8, none⟩ = some (.int .i64 gs) := (hc _ _ (by (try simp) <;> omega)).trans (by go_simp)
  have c1_0_9 : w1.cell? ⟨w.heap.size, 9, none⟩ = some (.int .i64 ga) := (hc _ _ (by (try simp) <;> omega)).trans (by go_simp)
  have z1_0 : ∀ j, w1.frozen? ⟨w.heap.size, j, none⟩ = false := fun j => (hf _ _ (by (try simp) <;> omega)).trans (by go_simp)
  have c1_1_0 : w1.cell? ⟨w.heap.size + 1, 0, none⟩ = some (.int .i64 0) := (hc _ _ (by (try simp) <;> omega)).trans (by go_simp)
  have c1_1_1 : w1.cell? ⟨w.heap.size + 1, 1, none⟩ = some (.int .i64 0) := (hc _ _ (by (try simp) <;> omega)).trans (by go_simp)
  have c1_1_2 : w1.cell? ⟨w.heap.size + 1, 2, none⟩ = some (.int .i64 0) := (hc _ _ (by (try simp) <;> omega)).trans (by go_simp)
  have z1_1 : ∀ j, w1.frozen? ⟨w.heap.size + 1, j, none⟩ = false := fun j => (hf _ _ (by (try simp) <;> omega)).trans (by go_simp)
  clear hc hf hb1
  go_wp2_with fail
  refine (total_any bw bs ba sw ss sa so gw gs ga _ HD.out).mono ?_
  rintro e w2 ⟨rfl, hb2⟩
  have HB2 : Kp (Below w.heap.size w w2) := ⟨Below.trans (by repeat (first | refine Below.alloc ?_ (by have := HB1.out.size; (try simp) <;> omega) _ | refine bDrewN ?_ _ | refine Below.drew ?_ | exact HB1.out)) (hb2.mono (by have := HB1.out.size; (try simp) <;> omega))⟩
  have hz2_0 : w.heap.size < w2.heap.size := by have := hb2.size; (try simp at this); omega
  have hz2_1 : w.heap.size + 1 < w2.heap.size := by have := hb2.size; (try simp at this); omega
  obtain ⟨hc, hf⟩ := bcell hb2
  have c2_0_0 : w2.cell? ⟨w.heap.size, 0, none⟩ = some (.int .i64 bw) := (hc _ _ (by (try simp) <;> omega)).trans (by go_simp)
  have c2_0_1 : w2.cell? ⟨w.heap.size, 1, none⟩ = some (.int .i64 bs) := (hc _ _ (by (try simp) <;> omega)).trans (by go_simp)
  have c2_0_2 : w2.cell? ⟨w.heap.size, 2, none⟩ = some (.int .i64 ba) := (hc _ _ (by (try simp) <;> omega)).trans (by go_simp)
  have c2_0_3 : w2.cell? ⟨w.heap.size, 3, none⟩ = some (.int .i64 sw) := (hc _ _ (by (try simp) <;> omega)).trans (by go_simp)
  have c2_0_4 : w2.cell? ⟨w.heap.size, 4, none⟩ = some (.int .i64 ss) := (hc _ _ (by (try simp) <;> omega)).trans (by go_simp)
  have c2_0_5 : w2.cell? ⟨w.heap.size, 5, none⟩ = some (.int .i64 sa) := (hc _ _ (by (try simp) <;> omega)).trans (by go_simp)
  have c2_0_6 : w2.cell? ⟨w.heap.size, 6, none⟩ = some (.int .i64 so) := (hc _ _ (by (try simp) <;> omega)).trans (by go_simp)
  have c2_0_7 : w2.cell? ⟨w.heap.size, 7, none⟩ = some (.int .i64 gw) := (hc _ _ (by (try simp) <;> omega)).trans (by go_simp)
  have c2_0_8 : w2.cell? ⟨w.heap.size, 8, none⟩ = some (.int .i64 gs) := (hc _ _ (by (try simp) <;> omega)).trans (by go_simp)
  have c2_0_9 : w2.cell? ⟨w.heap.size, 9, none⟩ = some (.int .i64 ga) := (hc _ _ (by (try simp) <;> omega)).trans (by go_simp)
  have z2_0 : ∀ j, w2.frozen? ⟨w.heap.size, j, none⟩ = false := fun j => (hf _ _ (by (try simp) <;> omega)).trans (by go_simp)
  have c2_1_0 : w2.cell? ⟨w.heap.size + 1, 0, none⟩ = some (.int .i64 0) := (hc _ _ (by (try simp) <;> omega)).trans (by go_simp)
  have c2_1_1 : w2.cell? ⟨w.heap.size + 1, 1, none⟩ = some (.int .i64 0) := (hc _ _ (by (try simp) <;> omega)).trans (by go_simp)
  have c2_1_2 : w2.cell? ⟨w.heap.size + 1, 2, none⟩ = some (.int .i64 0) := (hc _ _ (by (try simp) <;> omega)).trans (by go_simp)
  have z2_1 : ∀ j, w2.frozen? ⟨w.heap.size + 1, j, none⟩ = false := fun j => (hf _ _ (by (try simp) <;> omega)).trans (by go_simp)
  clear hc hf hb2 c1_0_0 c1_0_1 c1_0_2 c1_0_3 c1_0_4 c1_0_5 c1_0_6 c1_0_7 c1_0_8 c1_0_9 z1_0 c1_1_0 c1_1_1 c1_1_2 z1_1
  obtain ⟨a, ha⟩ : ∃ a, bw + sw + gw = a := ⟨_, rfl⟩
  obtain ⟨b, hb⟩ : ∃ b, bs + ss + gs = b := ⟨_, rfl⟩
  obtain ⟨c, hc⟩ : ∃ c, ba + sa + ga = c := ⟨_, rfl⟩
  rw [ha, hb, hc]
  go_wp2
  refine bodyPost_ret (v := .tuple #[.agg #[.int .i64 a, .int .i64 b, .int .i64 c], .int .i64 0]) ?_ rfl ⟨by rw [ha, hb, hc], ?_⟩
  · simp [results, Tryd.results11, go_sem, c2_1_0, c2_1_1, c2_1_2]
  · (have hzS := HB2.out.size; (repeat (with_reducible first | exact HB2.out | refine Below.setCell ?_ ?_ _ | refine Below.alloc ?_ ?_ _ | refine Below.drew ?_ | refine bDrewN ?_ _)); all_goals ((try simp) <;> omega))
theorem Total_no (bw bs ba sw ss sa so gw gs ga : Int) (w : World) (h : vatB ⟨⟨bw, bs, ba⟩, ⟨sw, ss, sa, so⟩, ⟨gw, gs, ga⟩⟩ = false) :
    Calls Tryd.prog 11 #[.agg #[.int .i64 bw, .int .i64 bs, .int .i64 ba, .int .i64 sw, .int .i64 ss, .int .i64 sa, .int .i64 so, .int .i64 gw, .int .i64 gs, .int .i64 ga]] w fun e w' => e = .returned (.tuple #[.agg #[.int .i64 0, .int .i64 0, .int .i64 0], .int .i64 1]) ∧ Below w.heap.size w w' := by
  have HV : Kp (vatB ⟨⟨bw, bs, ba⟩, ⟨sw, ss, sa, so⟩, ⟨gw, gs, ga⟩⟩ = false) := ⟨h⟩
  clear h
  go_enter Tryd.func11, Tryd.ntmps11
  go_wp2_with fail
  refine (ValidVat_no bw bs ba sw ss sa so gw gs ga _ HV.out).mono ?_
  rintro e w1 ⟨rfl, hb1⟩
  have HB1 : Kp (Below w.heap.size w w1) := ⟨Below.trans (by repeat (first | refine Below.alloc ?_ (by (try simp) <;> omega) _ | refine bDrewN ?_ _ | refine Below.drew ?_ | exact Below.refl _ _)) (hb1.mono (by (try simp) <;> omega))⟩
  have hz1_0 : w.heap.size < w1.heap.size := by have := hb1.size; (try simp at this); omega
  have hz1_1 : w.heap.size + 1 < w1.heap.size := by have := hb1.size; (try simp at this); omega
  obtain ⟨hc, hf⟩ := bcell hb1
  have c1_0_0 : w1.cell? ⟨w.heap.size, 0, none⟩ = some (.int .i64 bw) := (hc _ _ (by (try simp) <;> omega)).trans (by go_simp)
  have c1_0_1 : w1.cell? ⟨w.heap.size, 1, none⟩ = some (.int .i64 bs) := (hc _ _ (by (try simp) <;> omega)).trans (by go_simp)
  have c1_0_2 : w1.cell? ⟨w.heap.size, 2, none⟩ = some (.int .i64 ba) := (hc _ _ (by (try simp) <;> omega)).trans (by go_simp)
  have c1_0_3 : w1.cell? ⟨w.heap.size, 3, none⟩ = some (.int .i64 sw) := (hc _ _ (by (try simp) <;> omega)).trans (by go_simp)
  have c1_0_4 : w1.cell? ⟨w.heap.size, 4, none⟩ = some (.int .i64 ss) := (hc _ _ (by (try simp) <;> omega)).trans (by go_simp)
  have c1_0_5 : w1.cell? ⟨w.heap.size, 5, none⟩ = some (.int .i64 sa) := (hc _ _ (by (try simp) <;> omega)).trans (by go_simp)
  have c1_0_6 : w1.cell? ⟨w.heap.size, 6, none⟩ = some (.int .i64 so) := (hc _ _ (by (try simp) <;> omega)).trans (by go_simp)
  have c1_0_7 : w1.cell? ⟨w.heap.size, 7, none⟩ = some (.int .i64 gw) := (hc _ _ (by (try simp) <;> omega)).trans (by go_simp)
  have c1_0_8 : w1.cell? ⟨w.heap.size, 8, none⟩ = some (.int .i64 gs) := (hc _ _ (by (try simp) <;> omega)).trans (by go_simp)
  have c1_0_9 : w1.cell? ⟨w.heap.size, 9, none⟩ = some (.int .i64 ga) := (hc _ _ (by (try simp) <;> omega)).trans (by go_simp)
  have z1_0 : ∀ j, w1.frozen? ⟨w.heap.size, j, none⟩ = false := fun j => (hf _ _ (by (try simp) <;> omega)).trans (by go_simp)
  have c1_1_0 : w1.cell? ⟨w.heap.size + 1, 0, none⟩ = some (.int .i64 0) := (hc _ _ (by (try simp) <;> omega)).trans (by go_simp)
  have c1_1_1 : w1.cell? ⟨w.heap.size + 1, 1, none⟩ = some (.int .i64 0) := (hc _ _ (by (try simp) <;> omega)).trans (by go_simp)
  have c1_1_2 : w1.cell? ⟨w.heap.size + 1, 2, none⟩ = some (.int .i64 0) := (hc _ _ (by (try simp) <;> omega)).trans (by go_simp)
  have z1_1 : ∀ j, w1.frozen? ⟨w.heap.size + 1, j, none⟩ = false := fun j => (hf _ _ (by (try simp) <;> omega)).trans (by go_simp)
  clear hc hf hb1
  go_wp2
  refine bodyPost_ret (v := .tuple #[.agg #[.int .i64 0, .int .i64 0, .int .i64 0], .int .i64 1]) ?_ rfl ⟨rfl, ?_⟩
  · simp [results, Tryd.results11, go_sem, c1_1_0, c1_1_1, c1_1_2]
  · (have hzS := HB1.out.size; (repeat (with_reducible first | exact HB1.out | refine Below.setCell ?_ ?_ _ | refine Below.alloc ?_ ?_ _ | refine Below.drew ?_ | refine bDrewN ?_ _)); all_goals ((try simp) <;> omega))
end Go.Proofs.YteidabpflfkdcaaDoor.Bt
