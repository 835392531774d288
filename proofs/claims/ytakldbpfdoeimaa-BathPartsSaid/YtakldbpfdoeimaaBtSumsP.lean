/-
  WALKS (layer 3, baths): Total, Put, Hours, by the program and by the reference.
-/
import Derived.Test.YtakldbpfdoeimaaBtStepsC
import Derived.Test.YtakldbpfdoeimaaBtRefB
import Derived.LoopTactic
namespace Go.Proofs.Ytakldbpfdoeimaa.Bt
open Go Go.RowKit

def hoursL (l : List St) : Int := (l.map fun s => if s.k = 1 then s.n else 0).sum
def putS (s : St) : Ba := ⟨if s.k = 2 then s.n else 0, if s.k = 3 then s.n else 0, if s.k = 4 then s.n else 0⟩
def putL (l : List St) : Ba := l.foldl (fun b s => addB b (putS s)) ⟨0, 0, 0⟩
theorem step_bd {s : St} (h : stepB s = true) : 0 ≤ s.n ∧ s.n ≤ 1000000000 := by
  have := step_iff.1 h
  unfold lim at this
  split at this <;> omega
theorem steps_at {l : List St} {k : Nat} {x : St} (h : stepsB l = true) (hx : l[k]? = some x) : stepB x = true := by
  unfold stepsB at h
  rw [Bool.and_eq_true] at h
  exact List.all_eq_true.1 h.2 x (List.mem_of_getElem? hx)
theorem hours_snoc {l : List St} {k : Nat} {x : St} (hx : l[k]? = some x) : hoursL (l.take (k + 1)) = hoursL (l.take k) + if x.k = 1 then x.n else 0 := by
  obtain ⟨hk, rfl⟩ := List.getElem?_eq_some_iff.1 hx
  unfold hoursL
  rw [List.take_succ_eq_append_getElem hk, List.map_append, List.sum_append]
  simp
theorem put_snoc {l : List St} {k : Nat} {x : St} (hx : l[k]? = some x) : putL (l.take (k + 1)) = addB (putL (l.take k)) (putS x) := by
  obtain ⟨hk, rfl⟩ := List.getElem?_eq_some_iff.1 hx
  unfold putL
  rw [List.take_succ_eq_append_getElem hk, List.foldl_append]
  rfl
/-- A bath that lies in a block. -/
def PutAt (w : World) (B : Nat) (b : Ba) : Prop :=
  w.cell? ⟨B, 0, none⟩ = some (.int .i64 b.w) ∧ w.cell? ⟨B, 1, none⟩ = some (.int .i64 b.s) ∧ w.cell? ⟨B, 2, none⟩ = some (.int .i64 b.a) ∧ ∀ j, w.frozen? ⟨B, j, none⟩ = false
theorem PutAt.alloc {w : World} {B : Nat} {b : Ba} (h : PutAt w B b) (hB : B < w.heap.size) (o : Obj) : PutAt (w.alloc o) B b := by
  have hb : Below w.heap.size w (w.alloc o) := (Below.refl _ _).alloc (Nat.le_refl _) _
  exact ⟨(hb.cell (p := ⟨B, 0, none⟩) hB).trans h.1, (hb.cell (p := ⟨B, 1, none⟩) hB).trans h.2.1, (hb.cell (p := ⟨B, 2, none⟩) hB).trans h.2.2.1, fun j => (hb.frozen (p := ⟨B, j, none⟩) hB).trans (h.2.2.2 j)⟩
theorem PutAt.set0 {w : World} {B : Nat} {b : Ba} (h : PutAt w B b) (v : Int) : PutAt (w.setCell ⟨B, 0, none⟩ (.int .i64 v)) B ⟨v, b.s, b.a⟩ := by
  obtain ⟨h0, h1, h2, hz⟩ := h
  refine ⟨?_, ?_, ?_, fun j => ?_⟩ <;> simp [go_sem, h0, h1, h2, hz]
theorem PutAt.set1 {w : World} {B : Nat} {b : Ba} (h : PutAt w B b) (v : Int) : PutAt (w.setCell ⟨B, 1, none⟩ (.int .i64 v)) B ⟨b.w, v, b.a⟩ := by
  obtain ⟨h0, h1, h2, hz⟩ := h
  refine ⟨?_, ?_, ?_, fun j => ?_⟩ <;> simp [go_sem, h0, h1, h2, hz]
theorem PutAt.set2 {w : World} {B : Nat} {b : Ba} (h : PutAt w B b) (v : Int) : PutAt (w.setCell ⟨B, 2, none⟩ (.int .i64 v)) B ⟨b.w, b.s, v⟩ := by
  obtain ⟨h0, h1, h2, hz⟩ := h
  refine ⟨?_, ?_, ?_, fun j => ?_⟩ <;> simp [go_sem, h0, h1, h2, hz]
theorem PutAt.other {w : World} {B B' : Nat} {b : Ba} (h : PutAt w B b) (hne : B ≠ B') (j : Nat) (v : Value) : PutAt (w.setCell ⟨B', j, none⟩ v) B b := by
  obtain ⟨h0, h1, h2, hz⟩ := h
  exact ⟨by simp [go_sem, h0], by simp [go_sem, h1], by simp [go_sem, h2], fun i => by simp [go_sem, hz]⟩
theorem Total_yes (bw bs ba sw ss sa so gw gs ga : Int) (w : World) (h : vatB ⟨⟨bw, bs, ba⟩, ⟨sw, ss, sa, so⟩, ⟨gw, gs, ga⟩⟩ = true) :
    Calls Try.prog 34 #[.agg #[.int .i64 bw, .int .i64 bs, .int .i64 ba, .int .i64 sw, .int .i64 ss, .int .i64 sa, .int .i64 so, .int .i64 gw, .int .i64 gs, .int .i64 ga]] w fun e w' => e = .returned (.tuple #[.agg #[.int .i64 (bw + sw + gw), .int .i64 (bs + ss + gs), .int .i64 (ba + sa + ga)], .int .i64 0]) ∧ Below w.heap.size w w' := by
  have HV : Kp (vatB ⟨⟨bw, bs, ba⟩, ⟨sw, ss, sa, so⟩, ⟨gw, gs, ga⟩⟩ = true) := ⟨h⟩
  have HD : Kp (Bds ⟨⟨bw, bs, ba⟩, ⟨sw, ss, sa, so⟩, ⟨gw, gs, ga⟩⟩) := ⟨bds_of (vat_iff.1 h).1 (vat_iff.1 h).2.1 (vat_iff.1 h).2.2.1⟩
  clear h
  go_enter Try.func34, Try.ntmps34
  go_wp2_with fail
  refine (ValidVat_yes bw bs ba sw ss sa so gw gs ga _ HV.out).mono ?_
  rintro e w1 ⟨rfl, hb1⟩
  have HB1 : Kp (Below w.heap.size w w1) := ⟨Below.trans (by repeat (first | refine Below.alloc ?_ (by (try simp) <;> omega) _ | refine bDrewN ?_ _ | refine Below.drew ?_ | exact Below.refl _ _)) (hb1.mono (by (try simp) <;> omega))⟩
  have hz1_0 : w.heap.size < w1.heap.size := by have := hb1.size; (try simp at this); omega
  have hz1_1 : w.heap.size + 1 < w1.heap.size := by have := hb1.size; (try simp at this); omega
  obtain ⟨hc, hf⟩ := bcell hb1
  have c1_0_0 : w1.cell? ⟨w.heap.size, 0, none⟩ = some (.int .i64 bw) := (hc _ _ (by (try simp) <;> omega)).trans (by go_simp)
  have c1_0_1 : w1.cell? ⟨w.heap.size, 1, none⟩ = some (.int .i64 bs) := (hc _ _ (by (try simp) <;> omega)).trans (by go_simp)
  have c1_0_2 : w1.cell? ⟨w.heap.size, 2, none⟩ = some (.int .i64 ba) := (hc _ _ (by (try simp) <;> omega)).trans (by go_simp)
  have c1_0_3 : w1.cell? ⟨w.heap.size, 3, none⟩ = some (.int .i64 sw) := (hc _ _ (by (try simp) <;> omega)).trans (by go_simp)
  have c1_0_4 : w1.cell? ⟨w.heap.size, 4, none⟩ = some (.int .i64 ss) := (hc _ _ (by (try simp) <;> omega)).trans (by go_simp)
  have c1_0_5 : w1.cell? ⟨w.heap.size, 5, none⟩ = some (.int .i64 sa) := (hc _ _ (by (try simp) <;> omega)).trans (by go_simp)
  have c1_0_6 : w1.cell? ⟨w.heap.size, 6, none⟩ = some (.int .i64 so) := (hc _ _ (by (try simp) <;> omega)).trans (by go_simp)
  have c1_0_7 : w1.cell? ⟨w.heap.size, 7, none⟩ = some (.int .i64 gw) := (hc _ _ (by (try simp) <;> omega)).trans (by go_simp)
  have c1_0_8 : w1.cell? ⟨w.heap.size, 8, none⟩ = some (.int .i64 gs) := (hc _ _ (by (try simp) <;> omega)).trans (by go_simp)
  have c1_0_9 : w1.cell? ⟨w.heap.size, 9, none⟩ = some (.int .i64 ga) := (hc _ _ (by (try simp) <;> omega)).trans (by go_simp)
  have z1_0 : ∀ j, w1.frozen? ⟨w.heap.size, j, none⟩ = false := fun j => (hf _ _ (by (try simp) <;> omega)).trans (by go_simp)
  have c1_1_0 : w1.cell? ⟨w.heap.size + 1, 0, none⟩ = some (.int .i64 0) := (hc _ _ (by (try simp) <;> omega)).trans (by go_simp)
  have c1_1_1 : w1.cell? ⟨w.heap.size + 1, 1, none⟩ = some (.int .i64 0) := (hc _ _ (by (try simp) <;> omega)).trans (by go_simp)
  have c1_1_2 : w1.cell? ⟨w.heap.size + 1, 2, none⟩ = some (.int .i64 0) := (hc _ _ (by (try simp) <;> omega)).trans (by go_simp)
  have z1_1 : ∀ j, w1.frozen? ⟨w.heap.size + 1, j, none⟩ = false := fun j => (hf _ _ (by (try simp) <;> omega)).trans (by go_simp)
  clear hc hf hb1
  go_wp2_with fail
  refine (total_any bw bs ba sw ss sa so gw gs ga _ HD.out).mono ?_
  rintro e w2 ⟨rfl, hb2⟩
  have HB2 : Kp (Below w.heap.size w w2) := ⟨Below.trans (by repeat (first | refine Below.alloc ?_ (by have := HB1.out.size; (try simp) <;> omega) _ | refine bDrewN ?_ _ | refine Below.drew ?_ | exact HB1.out)) (hb2.mono (by have := HB1.out.size; (try simp) <;> omega))⟩
  have hz2_0 : w.heap.size < w2.heap.size := by have := hb2.size; (try simp at this); omega
  have hz2_1 : w.heap.size + 1 < w2.heap.size := by have := hb2.size; (try simp at this); omega
  obtain ⟨hc, hf⟩ := bcell hb2
  have c2_0_0 : w2.cell? ⟨w.heap.size, 0, none⟩ = some (.int .i64 bw) := (hc _ _ (by (try simp) <;> omega)).trans (by go_simp)
  have c2_0_1 : w2.cell? ⟨w.heap.size, 1, none⟩ = some (.int .i64 bs) := (hc _ _ (by (try simp) <;> omega)).trans (by go_simp)
  have c2_0_2 : w2.cell? ⟨w.heap.size, 2, none⟩ = some (.int .i64 ba) := (hc _ _ (by (try simp) <;> omega)).trans (by go_simp)
  have c2_0_3 : w2.cell? ⟨w.heap.size, 3, none⟩ = some (.int .i64 sw) := (hc _ _ (by (try simp) <;> omega)).trans (by go_simp)
  have c2_0_4 : w2.cell? ⟨w.heap.size, 4, none⟩ = some (.int .i64 ss) := (hc _ _ (by (try simp) <;> omega)).trans (by go_simp)
  have c2_0_5 : w2.cell? ⟨w.heap.size, 5, none⟩ = some (.int .i64 sa) := (hc _ _ (by (try simp) <;> omega)).trans (by go_simp)
  have c2_0_6 : w2.cell? ⟨w.heap.size, 6, none⟩ = some (.int .i64 so) := (hc _ _ (by (try simp) <;> omega)).trans (by go_simp)
  have c2_0_7 : w2.cell? ⟨w.heap.size, 7, none⟩ = some (.int .i64 gw) := (hc _ _ (by (try simp) <;> omega)).trans (by go_simp)
  have c2_0_8 : w2.cell? ⟨w.heap.size, 8, none⟩ = some (.int .i64 gs) := (hc _ _ (by (try simp) <;> omega)).trans (by go_simp)
  have c2_0_9 : w2.cell? ⟨w.heap.size, 9, none⟩ = some (.int .i64 ga) := (hc _ _ (by (try simp) <;> omega)).trans (by go_simp)
  have z2_0 : ∀ j, w2.frozen? ⟨w.heap.size, j, none⟩ = false := fun j => (hf _ _ (by (try simp) <;> omega)).trans (by go_simp)
  have c2_1_0 : w2.cell? ⟨w.heap.size + 1, 0, none⟩ = some (.int .i64 0) := (hc _ _ (by (try simp) <;> omega)).trans (by go_simp)
  have c2_1_1 : w2.cell? ⟨w.heap.size + 1, 1, none⟩ = some (.int .i64 0) := (hc _ _ (by (try simp) <;> omega)).trans (by go_simp)
  have c2_1_2 : w2.cell? ⟨w.heap.size + 1, 2, none⟩ = some (.int .i64 0) := (hc _ _ (by (try simp) <;> omega)).trans (by go_simp)
  have z2_1 : ∀ j, w2.frozen? ⟨w.heap.size + 1, j, none⟩ = false := fun j => (hf _ _ (by (try simp) <;> omega)).trans (by go_simp)
  clear hc hf hb2 c1_0_0 c1_0_1 c1_0_2 c1_0_3 c1_0_4 c1_0_5 c1_0_6 c1_0_7 c1_0_8 c1_0_9 z1_0 c1_1_0 c1_1_1 c1_1_2 z1_1
  obtain ⟨a, ha⟩ : ∃ a, bw + sw + gw = a := ⟨_, rfl⟩
  obtain ⟨b, hb⟩ : ∃ b, bs + ss + gs = b := ⟨_, rfl⟩
  obtain ⟨c, hc⟩ : ∃ c, ba + sa + ga = c := ⟨_, rfl⟩
  rw [ha, hb, hc]
  go_wp2
  refine bodyPost_ret (v := .tuple #[.agg #[.int .i64 a, .int .i64 b, .int .i64 c], .int .i64 0]) ?_ rfl ⟨by rw [ha, hb, hc], ?_⟩
  · simp [results, Try.results34, go_sem, c2_1_0, c2_1_1, c2_1_2]
  · (have hzS := HB2.out.size; (repeat (with_reducible first | exact HB2.out | refine Below.setCell ?_ ?_ _ | refine Below.alloc ?_ ?_ _ | refine Below.drew ?_ | refine bDrewN ?_ _)); all_goals ((try simp) <;> omega))
theorem Total_no (bw bs ba sw ss sa so gw gs ga : Int) (w : World) (h : vatB ⟨⟨bw, bs, ba⟩, ⟨sw, ss, sa, so⟩, ⟨gw, gs, ga⟩⟩ = false) :
    Calls Try.prog 34 #[.agg #[.int .i64 bw, .int .i64 bs, .int .i64 ba, .int .i64 sw, .int .i64 ss, .int .i64 sa, .int .i64 so, .int .i64 gw, .int .i64 gs, .int .i64 ga]] w fun e w' => e = .returned (.tuple #[.agg #[.int .i64 0, .int .i64 0, .int .i64 0], .int .i64 1]) ∧ Below w.heap.size w w' := by
  have HV : Kp (vatB ⟨⟨bw, bs, ba⟩, ⟨sw, ss, sa, so⟩, ⟨gw, gs, ga⟩⟩ = false) := ⟨h⟩
  clear h
  go_enter Try.func34, Try.ntmps34
  go_wp2_with fail
  refine (ValidVat_no bw bs ba sw ss sa so gw gs ga _ HV.out).mono ?_
  rintro e w1 ⟨rfl, hb1⟩
  have HB1 : Kp (Below w.heap.size w w1) := ⟨Below.trans (by repeat (first | refine Below.alloc ?_ (by (try simp) <;> omega) _ | refine bDrewN ?_ _ | refine Below.drew ?_ | exact Below.refl _ _)) (hb1.mono (by (try simp) <;> omega))⟩
  have hz1_0 : w.heap.size < w1.heap.size := by have := hb1.size; (try simp at this); omega
  have hz1_1 : w.heap.size + 1 < w1.heap.size := by have := hb1.size; (try simp at this); omega
  obtain ⟨hc, hf⟩ := bcell hb1
  have c1_0_0 : w1.cell? ⟨w.heap.size, 0, none⟩ = some (.int .i64 bw) := (hc _ _ (by (try simp) <;> omega)).trans (by go_simp)
  have c1_0_1 : w1.cell? ⟨w.heap.size, 1, none⟩ = some (.int .i64 bs) := (hc _ _ (by (try simp) <;> omega)).trans (by go_simp)
  have c1_0_2 : w1.cell? ⟨w.heap.size, 2, none⟩ = some (.int .i64 ba) := (hc _ _ (by (try simp) <;> omega)).trans (by go_simp)
  have c1_0_3 : w1.cell? ⟨w.heap.size, 3, none⟩ = some (.int .i64 sw) := (hc _ _ (by (try simp) <;> omega)).trans (by go_simp)
  have c1_0_4 : w1.cell? ⟨w.heap.size, 4, none⟩ = some (.int .i64 ss) := (hc _ _ (by (try simp) <;> omega)).trans (by go_simp)
  have c1_0_5 : w1.cell? ⟨w.heap.size, 5, none⟩ = some (.int .i64 sa) := (hc _ _ (by (try simp) <;> omega)).trans (by go_simp)
  have c1_0_6 : w1.cell? ⟨w.heap.size, 6, none⟩ = some (.int .i64 so) := (hc _ _ (by (try simp) <;> omega)).trans (by go_simp)
  have c1_0_7 : w1.cell? ⟨w.heap.size, 7, none⟩ = some (.int .i64 gw) := (hc _ _ (by (try simp) <;> omega)).trans (by go_simp)
  have c1_0_8 : w1.cell? ⟨w.heap.size, 8, none⟩ = some (.int .i64 gs) := (hc _ _ (by (try simp) <;> omega)).trans (by go_simp)
  have c1_0_9 : w1.cell? ⟨w.heap.size, 9, none⟩ = some (.int .i64 ga) := (hc _ _ (by (try simp) <;> omega)).trans (by go_simp)
  have z1_0 : ∀ j, w1.frozen? ⟨w.heap.size, j, none⟩ = false := fun j => (hf _ _ (by (try simp) <;> omega)).trans (by go_simp)
  have c1_1_0 : w1.cell? ⟨w.heap.size + 1, 0, none⟩ = some (.int .i64 0) := (hc _ _ (by (try simp) <;> omega)).trans (by go_simp)
  have c1_1_1 : w1.cell? ⟨w.heap.size + 1, 1, none⟩ = some (.int .i64 0) := (hc _ _ (by (try simp) <;> omega)).trans (by go_simp)
  have c1_1_2 : w1.cell? ⟨w.heap.size + 1, 2, none⟩ = some (.int .i64 0) := (hc _ _ (by (try simp) <;> omega)).trans (by go_simp)
  have z1_1 : ∀ j, w1.frozen? ⟨w.heap.size + 1, j, none⟩ = false := fun j => (hf _ _ (by (try simp) <;> omega)).trans (by go_simp)
  clear hc hf hb1
  go_wp2
  refine bodyPost_ret (v := .tuple #[.agg #[.int .i64 0, .int .i64 0, .int .i64 0], .int .i64 1]) ?_ rfl ⟨rfl, ?_⟩
  · simp [results, Try.results34, go_sem, c1_1_0, c1_1_1, c1_1_2]
  · (have hzS := HB1.out.size; (repeat (with_reducible first | exact HB1.out | refine Below.setCell ?_ ?_ _ | refine Below.alloc ?_ ?_ _ | refine Below.drew ?_ | refine bDrewN ?_ _)); all_goals ((try simp) <;> omega))
theorem Hours_no (v : Value) (l : List St) (w : World) (hs : RS w v l) (hl : l.length ≤ 300) (h : stepsB l = false) :
    Calls Try.prog 38 #[v] w fun e w' => e = .returned (.tuple #[.int .i64 0, .int .i64 1]) ∧ Below w.heap.size w w' := by
  have HQ := Lib.hid (ValidSteps_no v l w hs hl h)
  clear hs h
  go_enter Try.func38, Try.ntmps38
  go_wp2_with fail
  refine HQ.out.mono ?_
  rintro e w1 ⟨rfl, hb1⟩
  have HB1 := Lib.hid hb1
  clear hb1
  go_wp2
  go_ret2
  exact ⟨rfl, HB1.out⟩
theorem Hours_yes (v : Value) (l : List St) (w : World) (hs : RS w v l) (hl : l.length ≤ 300) (h : stepsB l = true) :
    Calls Try.prog 38 #[v] w fun e w' => e = .returned (.tuple #[.int .i64 (hoursL l), .int .i64 0]) ∧ Below w.heap.size w w' := by
  have HQ := Lib.hid (ValidSteps_yes v l w hs hl h)
  have HV : Kp (stepsB l = true) := ⟨h⟩
  obtain ⟨g, c, rfl, hi⟩ := hs
  have HS := Lib.hid hi
  clear hi h
  go_enter Try.func38, Try.ntmps38
  go_wp2_with fail
  refine HQ.out.mono ?_
  rintro e w1 ⟨rfl, hb1⟩
  have HB1 := Lib.hid hb1
  clear hb1
  go_wp2
  go_loopw [4, 12] (fun t i wr => ∃ (k : Nat) (s : Int), k ≤ l.length ∧ i = .int .i64 k ∧ t = .int .i64 s ∧ Kp (hoursL (l.take k) = s) ∧ 0 ≤ s ∧ s ≤ k * 1000000000 ∧ Kp (Below w.heap.size w wr)) (fun _ i _ => l.length - (intOf i).toNat)
  case atStart => exact ⟨0, 0, Nat.zero_le _, rfl, rfl, ⟨rfl⟩, by omega, by omega, ⟨HB1.out⟩⟩
  case round =>
    obtain ⟨k, s, hk, rfl, rfl, HK, hs0, hs1, HB⟩ := hrel
    by_cases hlt : k < l.length
    · obtain ⟨x, hx⟩ : ∃ x, l[k]? = some x := ⟨l[k], List.getElem?_eq_getElem hlt⟩
      obtain ⟨b, o, hg, hbl, hc1, hc2⟩ := HS.out k x hx
      subst hg
      have c1 : wr.cell? ⟨b, o + k * 2, none⟩ = some (.int .i64 x.k) := (HB.out.cell (p := ⟨b, _, none⟩) hbl).trans hc1
      have c2 : wr.cell? ⟨b, o + k * 2 + 1, none⟩ = some (.int .i64 x.n) := (HB.out.cell (p := ⟨b, _, none⟩) hbl).trans hc2
      have o1 : (k : Int) < (l.length : Int) := by omega
      have HX : Kp (l[k]? = some x) := ⟨hx⟩
      have hxb := step_bd (steps_at HV.out hx)
      have hn0 : 0 ≤ x.n := hxb.1
      have hn1 : x.n ≤ 1000000000 := hxb.2
      obtain ⟨y, n⟩ := x
      simp only at c1 c2 hn0 hn1
      clear hx hc1 hc2 hxb
      by_cases hy : y = 1
      · subst hy
        go_wp2
        go_roundw
        case rel => exact ⟨k + 1, _, by omega, by go_num, rfl, ⟨by rw [hours_snoc HX.out, HK.out]; rfl⟩, by omega, by omega, ⟨HB.out.alloc HB.out.size _⟩⟩
        case measure => simp [intOf]; omega
      · have hy2 : (y == 1) = false := by rw [beq_eq_false_iff_ne]; exact hy
        go_wp2
        go_roundw
        case rel => exact ⟨k + 1, _, by omega, by go_num, rfl, ⟨by rw [hours_snoc HX.out, HK.out, if_neg hy, Int.add_zero]⟩, by omega, by omega, ⟨HB.out.alloc HB.out.size _⟩⟩
        case measure => simp [intOf]; omega
    · have HE : Kp (hoursL l = s) := ⟨by have := HK.out; rwa [List.take_of_length_le (by omega)] at this⟩
      go_wp2
      go_ret2
      exact ⟨by rw [HE.out]; rfl, HB.out⟩
theorem Put_no (v : Value) (l : List St) (w : World) (hs : RS w v l) (hl : l.length ≤ 300) (h : stepsB l = false) :
    Calls Try.prog 36 #[v] w fun e w' => e = .returned (.tuple #[.agg #[.int .i64 0, .int .i64 0, .int .i64 0], .int .i64 1]) ∧ Below w.heap.size w w' := by
  have HQ : Kp (∀ W, Below w.heap.size w W → Calls Try.prog 22 #[v] W fun e w' => e = .returned (.bool false) ∧ Below W.heap.size W w') := ⟨fun W hW => ValidSteps_no v l W (hs.below hW) hl h⟩
  clear hs h
  go_enter Try.func36, Try.ntmps36
  go_wp2_with fail
  refine (HQ.out _ (by repeat (first | exact Below.refl _ _ | refine Below.alloc ?_ (by simp <;> omega) _ | refine bDrewN ?_ _ | refine Below.drew ?_))).mono ?_
  rintro e w1 ⟨rfl, hb1⟩
  have HB1 : Kp (Below w.heap.size w w1) := ⟨Below.trans (by repeat (first | refine Below.alloc ?_ (by (try simp) <;> omega) _ | refine bDrewN ?_ _ | refine Below.drew ?_ | exact Below.refl _ _)) (hb1.mono (by (try simp) <;> omega))⟩
  have hz1_0 : w.heap.size < w1.heap.size := by have := hb1.size; (try simp at this); omega
  obtain ⟨hc, hf⟩ := bcell hb1
  have c1_0_0 : w1.cell? ⟨w.heap.size, 0, none⟩ = some (.int .i64 0) := (hc _ _ (by (try simp) <;> omega)).trans (by go_simp)
  have c1_0_1 : w1.cell? ⟨w.heap.size, 1, none⟩ = some (.int .i64 0) := (hc _ _ (by (try simp) <;> omega)).trans (by go_simp)
  have c1_0_2 : w1.cell? ⟨w.heap.size, 2, none⟩ = some (.int .i64 0) := (hc _ _ (by (try simp) <;> omega)).trans (by go_simp)
  have z1_0 : ∀ j, w1.frozen? ⟨w.heap.size, j, none⟩ = false := fun j => (hf _ _ (by (try simp) <;> omega)).trans (by go_simp)
  clear hc hf hb1
  go_wp2
  refine bodyPost_ret (v := .tuple #[.agg #[.int .i64 0, .int .i64 0, .int .i64 0], .int .i64 1]) ?_ rfl ⟨rfl, ?_⟩
  · simp [results, Try.results36, go_sem, c1_0_0, c1_0_1, c1_0_2]
  · (have hzS := HB1.out.size; (repeat (with_reducible first | exact HB1.out | refine Below.setCell ?_ ?_ _ | refine Below.alloc ?_ ?_ _ | refine Below.drew ?_ | refine bDrewN ?_ _)); all_goals ((try simp) <;> omega))
set_option maxHeartbeats 1000000 in
theorem Put_yes (v : Value) (l : List St) (w : World) (hs : RS w v l) (hl : l.length ≤ 300) (h : stepsB l = true) :
    Calls Try.prog 36 #[v] w fun e w' => e = .returned (.tuple #[.agg #[.int .i64 (putL l).w, .int .i64 (putL l).s, .int .i64 (putL l).a], .int .i64 0]) ∧ Below w.heap.size w w' := by
  have HQ : Kp (∀ W, Below w.heap.size w W → Calls Try.prog 22 #[v] W fun e w' => e = .returned (.bool true) ∧ Below W.heap.size W w') := ⟨fun W hW => ValidSteps_yes v l W (hs.below hW) hl h⟩
  have HV : Kp (stepsB l = true) := ⟨h⟩
  obtain ⟨g, c, rfl, hi⟩ := hs
  have HS := Lib.hid hi
  clear hi h
  go_enter Try.func36, Try.ntmps36
  go_wp2_with fail
  refine (HQ.out _ (by repeat (first | exact Below.refl _ _ | refine Below.alloc ?_ (by simp <;> omega) _ | refine bDrewN ?_ _ | refine Below.drew ?_))).mono ?_
  rintro e w1 ⟨rfl, hb1⟩
  have HB1 : Kp (Below w.heap.size w w1) := ⟨Below.trans (by repeat (first | refine Below.alloc ?_ (by (try simp) <;> omega) _ | refine bDrewN ?_ _ | refine Below.drew ?_ | exact Below.refl _ _)) (hb1.mono (by (try simp) <;> omega))⟩
  have hz1_0 : w.heap.size < w1.heap.size := by have := hb1.size; (try simp at this); omega
  obtain ⟨hc, hf⟩ := bcell hb1
  have c1_0_0 : w1.cell? ⟨w.heap.size, 0, none⟩ = some (.int .i64 0) := (hc _ _ (by (try simp) <;> omega)).trans (by go_simp)
  have c1_0_1 : w1.cell? ⟨w.heap.size, 1, none⟩ = some (.int .i64 0) := (hc _ _ (by (try simp) <;> omega)).trans (by go_simp)
  have c1_0_2 : w1.cell? ⟨w.heap.size, 2, none⟩ = some (.int .i64 0) := (hc _ _ (by (try simp) <;> omega)).trans (by go_simp)
  have z1_0 : ∀ j, w1.frozen? ⟨w.heap.size, j, none⟩ = false := fun j => (hf _ _ (by (try simp) <;> omega)).trans (by go_simp)
  clear hc hf hb1
  have HRA : Kp (PutAt (w1.alloc (.cells #[.int .i64 0, .int .i64 0, .int .i64 0] 23)) w.heap.size ⟨0, 0, 0⟩) := ⟨by refine ⟨?_, ?_, ?_, fun j => ?_⟩ <;> go_simp⟩
  have HPA : Kp (PutAt (w1.alloc (.cells #[.int .i64 0, .int .i64 0, .int .i64 0] 23)) w1.heap.size ⟨0, 0, 0⟩) := ⟨by refine ⟨?_, ?_, ?_, fun j => ?_⟩ <;> go_simp⟩
  have hBw : w.heap.size ≤ w1.heap.size := by omega
  have hne : w.heap.size ≠ w1.heap.size := by omega
  have HBB : Kp (Below w.heap.size w (w1.alloc (.cells #[.int .i64 0, .int .i64 0, .int .i64 0] 23))) := ⟨HB1.out.alloc HB1.out.size _⟩
  go_wp2
  clear c1_0_0 c1_0_1 c1_0_2 z1_0
  obtain ⟨B, hB⟩ : ∃ B, w1.heap.size = B := ⟨_, rfl⟩
  have hBs : B < (w1.alloc (.cells #[.int .i64 0, .int .i64 0, .int .i64 0] 23)).heap.size := by rw [← hB]; simp
  rw [hB] at HPA hBw hne ⊢
  go_loopw [13] (fun i wr => ∃ (k : Nat) (pw ps pa : Int), k ≤ l.length ∧ i = .int .i64 k ∧ Kp (putL (l.take k) = ⟨pw, ps, pa⟩) ∧ Kp (PutAt wr B ⟨pw, ps, pa⟩) ∧ Kp (PutAt wr w.heap.size ⟨0, 0, 0⟩) ∧ 0 ≤ pw ∧ pw ≤ k * 1000000000 ∧ 0 ≤ ps ∧ ps ≤ k * 1000000000 ∧ 0 ≤ pa ∧ pa ≤ k * 1000000000 ∧ B < wr.heap.size ∧ Kp (Below w.heap.size w wr)) (fun i _ => l.length - (intOf i).toNat)
  case atStart => exact ⟨0, 0, 0, 0, Nat.zero_le _, rfl, ⟨rfl⟩, HPA, HRA, by omega, by omega, by omega, by omega, by omega, by omega, hBs, HBB⟩
  case round =>
    obtain ⟨k, pw, ps, pa, hk, rfl, HK, HPA, HRA, b0, b1, b2, b3, b4, b5, hBr, HB⟩ := hrel
    have hwr : w.heap.size < wr.heap.size := by omega
    obtain ⟨p0, p1, p2, pz⟩ := HPA.out
    simp only at p0 p1 p2
    by_cases hlt : k < l.length
    · obtain ⟨x, hx⟩ : ∃ x, l[k]? = some x := ⟨l[k], List.getElem?_eq_getElem hlt⟩
      obtain ⟨b, o, hg, hbl, hc1, hc2⟩ := HS.out k x hx
      subst hg
      have c1 : wr.cell? ⟨b, o + k * 2, none⟩ = some (.int .i64 x.k) := (HB.out.cell (p := ⟨b, _, none⟩) hbl).trans hc1
      have c2 : wr.cell? ⟨b, o + k * 2 + 1, none⟩ = some (.int .i64 x.n) := (HB.out.cell (p := ⟨b, _, none⟩) hbl).trans hc2
      have o1 : (k : Int) < (l.length : Int) := by omega
      have HX : Kp (l[k]? = some x) := ⟨hx⟩
      have hxb := step_bd (steps_at HV.out hx)
      have hn0 : 0 ≤ x.n := hxb.1
      have hn1 : x.n ≤ 1000000000 := hxb.2
      obtain ⟨y, n⟩ := x
      simp only at c1 c2 hn0 hn1
      clear hx hc1 hc2 hxb
      by_cases hy2 : y = 2
      · subst hy2
        go_wp2
        go_roundw
        case rel => exact ⟨k + 1, (pw + n), ps, pa, by omega, by go_num, ⟨by rw [put_snoc HX.out, HK.out]; simp [addB, putS]⟩, ⟨(HPA.out.set0 _).alloc (by simpa using hBr) _⟩, ⟨(HRA.out.other hne _ _).alloc (by simpa using hwr) _⟩, by omega, by omega, by omega, by omega, by omega, by omega, by simp [World.setCell]; omega, ⟨(HB.out.setCell hBw _).alloc (by simpa using HB.out.size) _⟩⟩
        case measure => simp [intOf]; omega
      · by_cases hy3 : y = 3
        · subst hy3
          go_wp2
          go_roundw
          case rel => exact ⟨k + 1, pw, (ps + n), pa, by omega, by go_num, ⟨by rw [put_snoc HX.out, HK.out]; simp [addB, putS]⟩, ⟨(HPA.out.set1 _).alloc (by simpa using hBr) _⟩, ⟨(HRA.out.other hne _ _).alloc (by simpa using hwr) _⟩, by omega, by omega, by omega, by omega, by omega, by omega, by simp [World.setCell]; omega, ⟨(HB.out.setCell hBw _).alloc (by simpa using HB.out.size) _⟩⟩
          case measure => simp [intOf]; omega
        · by_cases hy4 : y = 4
          · subst hy4
            go_wp2
            go_roundw
            case rel => exact ⟨k + 1, pw, ps, (pa + n), by omega, by go_num, ⟨by rw [put_snoc HX.out, HK.out]; simp [addB, putS]⟩, ⟨(HPA.out.set2 _).alloc (by simpa using hBr) _⟩, ⟨(HRA.out.other hne _ _).alloc (by simpa using hwr) _⟩, by omega, by omega, by omega, by omega, by omega, by omega, by simp [World.setCell]; omega, ⟨(HB.out.setCell hBw _).alloc (by simpa using HB.out.size) _⟩⟩
            case measure => simp [intOf]; omega
          · have h2 : (y == 2) = false := by rw [beq_eq_false_iff_ne]; exact hy2
            have h3 : (y == 3) = false := by rw [beq_eq_false_iff_ne]; exact hy3
            have h4 : (y == 4) = false := by rw [beq_eq_false_iff_ne]; exact hy4
            go_wp2
            go_roundw
            case rel => exact ⟨k + 1, pw, ps, pa, by omega, by go_num, ⟨by rw [put_snoc HX.out, HK.out]; simp [addB, putS, hy2, hy3, hy4]⟩, ⟨HPA.out.alloc hBr _⟩, ⟨HRA.out.alloc hwr _⟩, by omega, by omega, by omega, by omega, by omega, by omega, by simp; omega, ⟨HB.out.alloc HB.out.size _⟩⟩
            case measure => simp [intOf]; omega
    · have HE : Kp (putL l = ⟨pw, ps, pa⟩) := ⟨by have := HK.out; rwa [List.take_of_length_le (by omega)] at this⟩
      obtain ⟨r0, r1, r2, rz⟩ := HRA.out
      simp only at r0 r1 r2
      go_wp2
      refine bodyPost_ret (v := .tuple #[.agg #[.int .i64 pw, .int .i64 ps, .int .i64 pa], .int .i64 0]) ?_ rfl ⟨by rw [HE.out], ?_⟩
      · simp [results, Try.results36, go_sem, r0, r1, r2]
      · exact ((HB.out.setCell (Nat.le_refl _) _).setCell (Nat.le_refl _) _).setCell (Nat.le_refl _) _
theorem rTotal_yes (bw bs ba sw ss sa so gw gs ga : Int) (w : World) (h : vatB ⟨⟨bw, bs, ba⟩, ⟨sw, ss, sa, so⟩, ⟨gw, gs, ga⟩⟩ = true) :
    Calls Try.prog 35 #[.agg #[.int .i64 bw, .int .i64 bs, .int .i64 ba, .int .i64 sw, .int .i64 ss, .int .i64 sa, .int .i64 so, .int .i64 gw, .int .i64 gs, .int .i64 ga]] w fun e w' => e = .returned (.tuple #[.agg #[.int .i64 (bw + sw + gw), .int .i64 (bs + ss + gs), .int .i64 (ba + sa + ga)], .int .i64 0]) ∧ Below w.heap.size w w' := by
  have HV : Kp (vatB ⟨⟨bw, bs, ba⟩, ⟨sw, ss, sa, so⟩, ⟨gw, gs, ga⟩⟩ = true) := ⟨h⟩
  have HD : Kp (Bds ⟨⟨bw, bs, ba⟩, ⟨sw, ss, sa, so⟩, ⟨gw, gs, ga⟩⟩) := ⟨bds_of (vat_iff.1 h).1 (vat_iff.1 h).2.1 (vat_iff.1 h).2.2.1⟩
  clear h
  go_enter Try.func35, Try.ntmps35
  go_wp2_with fail
  refine (rValidVat_yes bw bs ba sw ss sa so gw gs ga _ HV.out).mono ?_
  rintro e w1 ⟨rfl, hb1⟩
  have HB1 : Kp (Below w.heap.size w w1) := ⟨Below.trans (by repeat (first | refine Below.alloc ?_ (by (try simp) <;> omega) _ | refine bDrewN ?_ _ | refine Below.drew ?_ | exact Below.refl _ _)) (hb1.mono (by (try simp) <;> omega))⟩
  have hz1_0 : w.heap.size < w1.heap.size := by have := hb1.size; (try simp at this); omega
  have hz1_1 : w.heap.size + 1 < w1.heap.size := by have := hb1.size; (try simp at this); omega
  obtain ⟨hc, hf⟩ := bcell hb1
  have c1_0_0 : w1.cell? ⟨w.heap.size, 0, none⟩ = some (.int .i64 bw) := (hc _ _ (by (try simp) <;> omega)).trans (by go_simp)
  have c1_0_1 : w1.cell? ⟨w.heap.size, 1, none⟩ = some (.int .i64 bs) := (hc _ _ (by (try simp) <;> omega)).trans (by go_simp)
  have c1_0_2 : w1.cell? ⟨w.heap.size, 2, none⟩ = some (.int .i64 ba) := (hc _ _ (by (try simp) <;> omega)).trans (by go_simp)
  have c1_0_3 : w1.cell? ⟨w.heap.size, 3, none⟩ = some (.int .i64 sw) := (hc _ _ (by (try simp) <;> omega)).trans (by go_simp)
  have c1_0_4 : w1.cell? ⟨w.heap.size, 4, none⟩ = some (.int .i64 ss) := (hc _ _ (by (try simp) <;> omega)).trans (by go_simp)
  have c1_0_5 : w1.cell? ⟨w.heap.size, 5, none⟩ = some (.int .i64 sa) := (hc _ _ (by (try simp) <;> omega)).trans (by go_simp)
  have c1_0_6 : w1.cell? ⟨w.heap.size, 6, none⟩ = some (.int .i64 so) := (hc _ _ (by (try simp) <;> omega)).trans (by go_simp)
  have c1_0_7 : w1.cell? ⟨w.heap.size, 7, none⟩ = some (.int .i64 gw) := (hc _ _ (by (try simp) <;> omega)).trans (by go_simp)
  have c1_0_8 : w1.cell? ⟨w.heap.size, 8, none⟩ = some (.int .i64 gs) := (hc _ _ (by (try simp) <;> omega)).trans (by go_simp)
  have c1_0_9 : w1.cell? ⟨w.heap.size, 9, none⟩ = some (.int .i64 ga) := (hc _ _ (by (try simp) <;> omega)).trans (by go_simp)
  have z1_0 : ∀ j, w1.frozen? ⟨w.heap.size, j, none⟩ = false := fun j => (hf _ _ (by (try simp) <;> omega)).trans (by go_simp)
  have c1_1_0 : w1.cell? ⟨w.heap.size + 1, 0, none⟩ = some (.int .i64 0) := (hc _ _ (by (try simp) <;> omega)).trans (by go_simp)
  have c1_1_1 : w1.cell? ⟨w.heap.size + 1, 1, none⟩ = some (.int .i64 0) := (hc _ _ (by (try simp) <;> omega)).trans (by go_simp)
  have c1_1_2 : w1.cell? ⟨w.heap.size + 1, 2, none⟩ = some (.int .i64 0) := (hc _ _ (by (try simp) <;> omega)).trans (by go_simp)
  have z1_1 : ∀ j, w1.frozen? ⟨w.heap.size + 1, j, none⟩ = false := fun j => (hf _ _ (by (try simp) <;> omega)).trans (by go_simp)
  clear hc hf hb1
  go_wp2_with fail
  refine (rtotal_any bw bs ba sw ss sa so gw gs ga _ HD.out).mono ?_
  rintro e w2 ⟨rfl, hb2⟩
  have HB2 : Kp (Below w.heap.size w w2) := ⟨Below.trans (by repeat (first | refine Below.alloc ?_ (by have := HB1.out.size; (try simp) <;> omega) _ | refine bDrewN ?_ _ | refine Below.drew ?_ | exact HB1.out)) (hb2.mono (by have := HB1.out.size; (try simp) <;> omega))⟩
  have hz2_0 : w.heap.size < w2.heap.size := by have := hb2.size; (try simp at this); omega
  have hz2_1 : w.heap.size + 1 < w2.heap.size := by have := hb2.size; (try simp at this); omega
  obtain ⟨hc, hf⟩ := bcell hb2
  have c2_0_0 : w2.cell? ⟨w.heap.size, 0, none⟩ = some (.int .i64 bw) := (hc _ _ (by (try simp) <;> omega)).trans (by go_simp)
  have c2_0_1 : w2.cell? ⟨w.heap.size, 1, none⟩ = some (.int .i64 bs) := (hc _ _ (by (try simp) <;> omega)).trans (by go_simp)
  have c2_0_2 : w2.cell? ⟨w.heap.size, 2, none⟩ = some (.int .i64 ba) := (hc _ _ (by (try simp) <;> omega)).trans (by go_simp)
  have c2_0_3 : w2.cell? ⟨w.heap.size, 3, none⟩ = some (.int .i64 sw) := (hc _ _ (by (try simp) <;> omega)).trans (by go_simp)
  have c2_0_4 : w2.cell? ⟨w.heap.size, 4, none⟩ = some (.int .i64 ss) := (hc _ _ (by (try simp) <;> omega)).trans (by go_simp)
  have c2_0_5 : w2.cell? ⟨w.heap.size, 5, none⟩ = some (.int .i64 sa) := (hc _ _ (by (try simp) <;> omega)).trans (by go_simp)
  have c2_0_6 : w2.cell? ⟨w.heap.size, 6, none⟩ = some (.int .i64 so) := (hc _ _ (by (try simp) <;> omega)).trans (by go_simp)
  have c2_0_7 : w2.cell? ⟨w.heap.size, 7, none⟩ = some (.int .i64 gw) := (hc _ _ (by (try simp) <;> omega)).trans (by go_simp)
  have c2_0_8 : w2.cell? ⟨w.heap.size, 8, none⟩ = some (.int .i64 gs) := (hc _ _ (by (try simp) <;> omega)).trans (by go_simp)
  have c2_0_9 : w2.cell? ⟨w.heap.size, 9, none⟩ = some (.int .i64 ga) := (hc _ _ (by (try simp) <;> omega)).trans (by go_simp)
  have z2_0 : ∀ j, w2.frozen? ⟨w.heap.size, j, none⟩ = false := fun j => (hf _ _ (by (try simp) <;> omega)).trans (by go_simp)
  have c2_1_0 : w2.cell? ⟨w.heap.size + 1, 0, none⟩ = some (.int .i64 0) := (hc _ _ (by (try simp) <;> omega)).trans (by go_simp)
  have c2_1_1 : w2.cell? ⟨w.heap.size + 1, 1, none⟩ = some (.int .i64 0) := (hc _ _ (by (try simp) <;> omega)).trans (by go_simp)
  have c2_1_2 : w2.cell? ⟨w.heap.size + 1, 2, none⟩ = some (.int .i64 0) := (hc _ _ (by (try simp) <;> omega)).trans (by go_simp)
  have z2_1 : ∀ j, w2.frozen? ⟨w.heap.size + 1, j, none⟩ = false := fun j => (hf _ _ (by (try simp) <;> omega)).trans (by go_simp)
  clear hc hf hb2 c1_0_0 c1_0_1 c1_0_2 c1_0_3 c1_0_4 c1_0_5 c1_0_6 c1_0_7 c1_0_8 c1_0_9 z1_0 c1_1_0 c1_1_1 c1_1_2 z1_1
  obtain ⟨a, ha⟩ : ∃ a, bw + sw + gw = a := ⟨_, rfl⟩
  obtain ⟨b, hb⟩ : ∃ b, bs + ss + gs = b := ⟨_, rfl⟩
  obtain ⟨c, hc⟩ : ∃ c, ba + sa + ga = c := ⟨_, rfl⟩
  rw [ha, hb, hc]
  go_wp2
  refine bodyPost_ret (v := .tuple #[.agg #[.int .i64 a, .int .i64 b, .int .i64 c], .int .i64 0]) ?_ rfl ⟨by rw [ha, hb, hc], ?_⟩
  · simp [results, Try.results35, go_sem, c2_1_0, c2_1_1, c2_1_2]
  · (have hzS := HB2.out.size; (repeat (with_reducible first | exact HB2.out | refine Below.setCell ?_ ?_ _ | refine Below.alloc ?_ ?_ _ | refine Below.drew ?_ | refine bDrewN ?_ _)); all_goals ((try simp) <;> omega))
theorem rTotal_no (bw bs ba sw ss sa so gw gs ga : Int) (w : World) (h : vatB ⟨⟨bw, bs, ba⟩, ⟨sw, ss, sa, so⟩, ⟨gw, gs, ga⟩⟩ = false) :
    Calls Try.prog 35 #[.agg #[.int .i64 bw, .int .i64 bs, .int .i64 ba, .int .i64 sw, .int .i64 ss, .int .i64 sa, .int .i64 so, .int .i64 gw, .int .i64 gs, .int .i64 ga]] w fun e w' => e = .returned (.tuple #[.agg #[.int .i64 0, .int .i64 0, .int .i64 0], .int .i64 1]) ∧ Below w.heap.size w w' := by
  have HV : Kp (vatB ⟨⟨bw, bs, ba⟩, ⟨sw, ss, sa, so⟩, ⟨gw, gs, ga⟩⟩ = false) := ⟨h⟩
  clear h
  go_enter Try.func35, Try.ntmps35
  go_wp2_with fail
  refine (rValidVat_no bw bs ba sw ss sa so gw gs ga _ HV.out).mono ?_
  rintro e w1 ⟨rfl, hb1⟩
  have HB1 : Kp (Below w.heap.size w w1) := ⟨Below.trans (by repeat (first | refine Below.alloc ?_ (by (try simp) <;> omega) _ | refine bDrewN ?_ _ | refine Below.drew ?_ | exact Below.refl _ _)) (hb1.mono (by (try simp) <;> omega))⟩
  have hz1_0 : w.heap.size < w1.heap.size := by have := hb1.size; (try simp at this); omega
  have hz1_1 : w.heap.size + 1 < w1.heap.size := by have := hb1.size; (try simp at this); omega
  obtain ⟨hc, hf⟩ := bcell hb1
  have c1_0_0 : w1.cell? ⟨w.heap.size, 0, none⟩ = some (.int .i64 bw) := (hc _ _ (by (try simp) <;> omega)).trans (by go_simp)
  have c1_0_1 : w1.cell? ⟨w.heap.size, 1, none⟩ = some (.int .i64 bs) := (hc _ _ (by (try simp) <;> omega)).trans (by go_simp)
  have c1_0_2 : w1.cell? ⟨w.heap.size, 2, none⟩ = some (.int .i64 ba) := (hc _ _ (by (try simp) <;> omega)).trans (by go_simp)
  have c1_0_3 : w1.cell? ⟨w.heap.size, 3, none⟩ = some (.int .i64 sw) := (hc _ _ (by (try simp) <;> omega)).trans (by go_simp)
  have c1_0_4 : w1.cell? ⟨w.heap.size, 4, none⟩ = some (.int .i64 ss) := (hc _ _ (by (try simp) <;> omega)).trans (by go_simp)
  have c1_0_5 : w1.cell? ⟨w.heap.size, 5, none⟩ = some (.int .i64 sa) := (hc _ _ (by (try simp) <;> omega)).trans (by go_simp)
  have c1_0_6 : w1.cell? ⟨w.heap.size, 6, none⟩ = some (.int .i64 so) := (hc _ _ (by (try simp) <;> omega)).trans (by go_simp)
  have c1_0_7 : w1.cell? ⟨w.heap.size, 7, none⟩ = some (.int .i64 gw) := (hc _ _ (by (try simp) <;> omega)).trans (by go_simp)
  have c1_0_8 : w1.cell? ⟨w.heap.size, 8, none⟩ = some (.int .i64 gs) := (hc _ _ (by (try simp) <;> omega)).trans (by go_simp)
  have c1_0_9 : w1.cell? ⟨w.heap.size, 9, none⟩ = some (.int .i64 ga) := (hc _ _ (by (try simp) <;> omega)).trans (by go_simp)
  have z1_0 : ∀ j, w1.frozen? ⟨w.heap.size, j, none⟩ = false := fun j => (hf _ _ (by (try simp) <;> omega)).trans (by go_simp)
  have c1_1_0 : w1.cell? ⟨w.heap.size + 1, 0, none⟩ = some (.int .i64 0) := (hc _ _ (by (try simp) <;> omega)).trans (by go_simp)
  have c1_1_1 : w1.cell? ⟨w.heap.size + 1, 1, none⟩ = some (.int .i64 0) := (hc _ _ (by (try simp) <;> omega)).trans (by go_simp)
  have c1_1_2 : w1.cell? ⟨w.heap.size + 1, 2, none⟩ = some (.int .i64 0) := (hc _ _ (by (try simp) <;> omega)).trans (by go_simp)
  have z1_1 : ∀ j, w1.frozen? ⟨w.heap.size + 1, j, none⟩ = false := fun j => (hf _ _ (by (try simp) <;> omega)).trans (by go_simp)
  clear hc hf hb1
  go_wp2
  refine bodyPost_ret (v := .tuple #[.agg #[.int .i64 0, .int .i64 0, .int .i64 0], .int .i64 1]) ?_ rfl ⟨rfl, ?_⟩
  · simp [results, Try.results35, go_sem, c1_1_0, c1_1_1, c1_1_2]
  · (have hzS := HB1.out.size; (repeat (with_reducible first | exact HB1.out | refine Below.setCell ?_ ?_ _ | refine Below.alloc ?_ ?_ _ | refine Below.drew ?_ | refine bDrewN ?_ _)); all_goals ((try simp) <;> omega))
theorem rHours_no (v : Value) (l : List St) (w : World) (hs : RS w v l) (hl : l.length ≤ 300) (h : stepsB l = false) :
    Calls Try.prog 39 #[v] w fun e w' => e = .returned (.tuple #[.int .i64 0, .int .i64 1]) ∧ Below w.heap.size w w' := by
  have HQ := Lib.hid (rValidSteps_no v l w hs hl h)
  clear hs h
  go_enter Try.func39, Try.ntmps39
  go_wp2_with fail
  refine HQ.out.mono ?_
  rintro e w1 ⟨rfl, hb1⟩
  have HB1 := Lib.hid hb1
  clear hb1
  go_wp2
  go_ret2
  exact ⟨rfl, HB1.out⟩
theorem rHours_yes (v : Value) (l : List St) (w : World) (hs : RS w v l) (hl : l.length ≤ 300) (h : stepsB l = true) :
    Calls Try.prog 39 #[v] w fun e w' => e = .returned (.tuple #[.int .i64 (hoursL l), .int .i64 0]) ∧ Below w.heap.size w w' := by
  have HQ := Lib.hid (rValidSteps_yes v l w hs hl h)
  have HV : Kp (stepsB l = true) := ⟨h⟩
  obtain ⟨g, c, rfl, hi⟩ := hs
  have HS := Lib.hid hi
  clear hi h
  go_enter Try.func39, Try.ntmps39
  go_wp2_with fail
  refine HQ.out.mono ?_
  rintro e w1 ⟨rfl, hb1⟩
  have HB1 := Lib.hid hb1
  clear hb1
  go_wp2
  go_loopw [4, 12] (fun t i wr => ∃ (k : Nat) (s : Int), k ≤ l.length ∧ i = .int .i64 k ∧ t = .int .i64 s ∧ Kp (hoursL (l.take k) = s) ∧ 0 ≤ s ∧ s ≤ k * 1000000000 ∧ Kp (Below w.heap.size w wr)) (fun _ i _ => l.length - (intOf i).toNat)
  case atStart => exact ⟨0, 0, Nat.zero_le _, rfl, rfl, ⟨rfl⟩, by omega, by omega, ⟨HB1.out⟩⟩
  case round =>
    obtain ⟨k, s, hk, rfl, rfl, HK, hs0, hs1, HB⟩ := hrel
    by_cases hlt : k < l.length
    · obtain ⟨x, hx⟩ : ∃ x, l[k]? = some x := ⟨l[k], List.getElem?_eq_getElem hlt⟩
      obtain ⟨b, o, hg, hbl, hc1, hc2⟩ := HS.out k x hx
      subst hg
      have c1 : wr.cell? ⟨b, o + k * 2, none⟩ = some (.int .i64 x.k) := (HB.out.cell (p := ⟨b, _, none⟩) hbl).trans hc1
      have c2 : wr.cell? ⟨b, o + k * 2 + 1, none⟩ = some (.int .i64 x.n) := (HB.out.cell (p := ⟨b, _, none⟩) hbl).trans hc2
      have o1 : (k : Int) < (l.length : Int) := by omega
      have HX : Kp (l[k]? = some x) := ⟨hx⟩
      have hxb := step_bd (steps_at HV.out hx)
      have hn0 : 0 ≤ x.n := hxb.1
      have hn1 : x.n ≤ 1000000000 := hxb.2
      obtain ⟨y, n⟩ := x
      simp only at c1 c2 hn0 hn1
      clear hx hc1 hc2 hxb
      by_cases hy : y = 1
      · subst hy
        go_wp2
        go_roundw
        case rel => exact ⟨k + 1, _, by omega, by go_num, rfl, ⟨by rw [hours_snoc HX.out, HK.out]; rfl⟩, by omega, by omega, ⟨HB.out.alloc HB.out.size _⟩⟩
        case measure => simp [intOf]; omega
      · have hy2 : (y == 1) = false := by rw [beq_eq_false_iff_ne]; exact hy
        go_wp2
        go_roundw
        case rel => exact ⟨k + 1, _, by omega, by go_num, rfl, ⟨by rw [hours_snoc HX.out, HK.out, if_neg hy, Int.add_zero]⟩, by omega, by omega, ⟨HB.out.alloc HB.out.size _⟩⟩
        case measure => simp [intOf]; omega
    · have HE : Kp (hoursL l = s) := ⟨by have := HK.out; rwa [List.take_of_length_le (by omega)] at this⟩
      go_wp2
      go_ret2
      exact ⟨by rw [HE.out]; rfl, HB.out⟩
theorem rPut_no (v : Value) (l : List St) (w : World) (hs : RS w v l) (hl : l.length ≤ 300) (h : stepsB l = false) :
    Calls Try.prog 37 #[v] w fun e w' => e = .returned (.tuple #[.agg #[.int .i64 0, .int .i64 0, .int .i64 0], .int .i64 1]) ∧ Below w.heap.size w w' := by
  have HQ : Kp (∀ W, Below w.heap.size w W → Calls Try.prog 23 #[v] W fun e w' => e = .returned (.bool false) ∧ Below W.heap.size W w') := ⟨fun W hW => rValidSteps_no v l W (hs.below hW) hl h⟩
  clear hs h
  go_enter Try.func37, Try.ntmps37
  go_wp2_with fail
  refine (HQ.out _ (by repeat (first | exact Below.refl _ _ | refine Below.alloc ?_ (by simp <;> omega) _ | refine bDrewN ?_ _ | refine Below.drew ?_))).mono ?_
  rintro e w1 ⟨rfl, hb1⟩
  have HB1 : Kp (Below w.heap.size w w1) := ⟨Below.trans (by repeat (first | refine Below.alloc ?_ (by (try simp) <;> omega) _ | refine bDrewN ?_ _ | refine Below.drew ?_ | exact Below.refl _ _)) (hb1.mono (by (try simp) <;> omega))⟩
  have hz1_0 : w.heap.size < w1.heap.size := by have := hb1.size; (try simp at this); omega
  obtain ⟨hc, hf⟩ := bcell hb1
  have c1_0_0 : w1.cell? ⟨w.heap.size, 0, none⟩ = some (.int .i64 0) := (hc _ _ (by (try simp) <;> omega)).trans (by go_simp)
  have c1_0_1 : w1.cell? ⟨w.heap.size, 1, none⟩ = some (.int .i64 0) := (hc _ _ (by (try simp) <;> omega)).trans (by go_simp)
  have c1_0_2 : w1.cell? ⟨w.heap.size, 2, none⟩ = some (.int .i64 0) := (hc _ _ (by (try simp) <;> omega)).trans (by go_simp)
  have z1_0 : ∀ j, w1.frozen? ⟨w.heap.size, j, none⟩ = false := fun j => (hf _ _ (by (try simp) <;> omega)).trans (by go_simp)
  clear hc hf hb1
  go_wp2
  refine bodyPost_ret (v := .tuple #[.agg #[.int .i64 0, .int .i64 0, .int .i64 0], .int .i64 1]) ?_ rfl ⟨rfl, ?_⟩
  · simp [results, Try.results37, go_sem, c1_0_0, c1_0_1, c1_0_2]
  · (have hzS := HB1.out.size; (repeat (with_reducible first | exact HB1.out | refine Below.setCell ?_ ?_ _ | refine Below.alloc ?_ ?_ _ | refine Below.drew ?_ | refine bDrewN ?_ _)); all_goals ((try simp) <;> omega))
set_option maxHeartbeats 1000000 in
theorem rPut_yes (v : Value) (l : List St) (w : World) (hs : RS w v l) (hl : l.length ≤ 300) (h : stepsB l = true) :
    Calls Try.prog 37 #[v] w fun e w' => e = .returned (.tuple #[.agg #[.int .i64 (putL l).w, .int .i64 (putL l).s, .int .i64 (putL l).a], .int .i64 0]) ∧ Below w.heap.size w w' := by
  have HQ : Kp (∀ W, Below w.heap.size w W → Calls Try.prog 23 #[v] W fun e w' => e = .returned (.bool true) ∧ Below W.heap.size W w') := ⟨fun W hW => rValidSteps_yes v l W (hs.below hW) hl h⟩
  have HV : Kp (stepsB l = true) := ⟨h⟩
  obtain ⟨g, c, rfl, hi⟩ := hs
  have HS := Lib.hid hi
  clear hi h
  go_enter Try.func37, Try.ntmps37
  go_wp2_with fail
  refine (HQ.out _ (by repeat (first | exact Below.refl _ _ | refine Below.alloc ?_ (by simp <;> omega) _ | refine bDrewN ?_ _ | refine Below.drew ?_))).mono ?_
  rintro e w1 ⟨rfl, hb1⟩
  have HB1 : Kp (Below w.heap.size w w1) := ⟨Below.trans (by repeat (first | refine Below.alloc ?_ (by (try simp) <;> omega) _ | refine bDrewN ?_ _ | refine Below.drew ?_ | exact Below.refl _ _)) (hb1.mono (by (try simp) <;> omega))⟩
  have hz1_0 : w.heap.size < w1.heap.size := by have := hb1.size; (try simp at this); omega
  obtain ⟨hc, hf⟩ := bcell hb1
  have c1_0_0 : w1.cell? ⟨w.heap.size, 0, none⟩ = some (.int .i64 0) := (hc _ _ (by (try simp) <;> omega)).trans (by go_simp)
  have c1_0_1 : w1.cell? ⟨w.heap.size, 1, none⟩ = some (.int .i64 0) := (hc _ _ (by (try simp) <;> omega)).trans (by go_simp)
  have c1_0_2 : w1.cell? ⟨w.heap.size, 2, none⟩ = some (.int .i64 0) := (hc _ _ (by (try simp) <;> omega)).trans (by go_simp)
  have z1_0 : ∀ j, w1.frozen? ⟨w.heap.size, j, none⟩ = false := fun j => (hf _ _ (by (try simp) <;> omega)).trans (by go_simp)
  clear hc hf hb1
  have HRA : Kp (PutAt (w1.alloc (.cells #[.int .i64 0, .int .i64 0, .int .i64 0] 23)) w.heap.size ⟨0, 0, 0⟩) := ⟨by refine ⟨?_, ?_, ?_, fun j => ?_⟩ <;> go_simp⟩
  have HPA : Kp (PutAt (w1.alloc (.cells #[.int .i64 0, .int .i64 0, .int .i64 0] 23)) w1.heap.size ⟨0, 0, 0⟩) := ⟨by refine ⟨?_, ?_, ?_, fun j => ?_⟩ <;> go_simp⟩
  have hBw : w.heap.size ≤ w1.heap.size := by omega
  have hne : w.heap.size ≠ w1.heap.size := by omega
  have HBB : Kp (Below w.heap.size w (w1.alloc (.cells #[.int .i64 0, .int .i64 0, .int .i64 0] 23))) := ⟨HB1.out.alloc HB1.out.size _⟩
  go_wp2
  clear c1_0_0 c1_0_1 c1_0_2 z1_0
  obtain ⟨B, hB⟩ : ∃ B, w1.heap.size = B := ⟨_, rfl⟩
  have hBs : B < (w1.alloc (.cells #[.int .i64 0, .int .i64 0, .int .i64 0] 23)).heap.size := by rw [← hB]; simp
  rw [hB] at HPA hBw hne ⊢
  go_loopw [13] (fun i wr => ∃ (k : Nat) (pw ps pa : Int), k ≤ l.length ∧ i = .int .i64 k ∧ Kp (putL (l.take k) = ⟨pw, ps, pa⟩) ∧ Kp (PutAt wr B ⟨pw, ps, pa⟩) ∧ Kp (PutAt wr w.heap.size ⟨0, 0, 0⟩) ∧ 0 ≤ pw ∧ pw ≤ k * 1000000000 ∧ 0 ≤ ps ∧ ps ≤ k * 1000000000 ∧ 0 ≤ pa ∧ pa ≤ k * 1000000000 ∧ B < wr.heap.size ∧ Kp (Below w.heap.size w wr)) (fun i _ => l.length - (intOf i).toNat)
  case atStart => exact ⟨0, 0, 0, 0, Nat.zero_le _, rfl, ⟨rfl⟩, HPA, HRA, by omega, by omega, by omega, by omega, by omega, by omega, hBs, HBB⟩
  case round =>
    obtain ⟨k, pw, ps, pa, hk, rfl, HK, HPA, HRA, b0, b1, b2, b3, b4, b5, hBr, HB⟩ := hrel
    have hwr : w.heap.size < wr.heap.size := by omega
    obtain ⟨p0, p1, p2, pz⟩ := HPA.out
    simp only at p0 p1 p2
    by_cases hlt : k < l.length
    · obtain ⟨x, hx⟩ : ∃ x, l[k]? = some x := ⟨l[k], List.getElem?_eq_getElem hlt⟩
      obtain ⟨b, o, hg, hbl, hc1, hc2⟩ := HS.out k x hx
      subst hg
      have c1 : wr.cell? ⟨b, o + k * 2, none⟩ = some (.int .i64 x.k) := (HB.out.cell (p := ⟨b, _, none⟩) hbl).trans hc1
      have c2 : wr.cell? ⟨b, o + k * 2 + 1, none⟩ = some (.int .i64 x.n) := (HB.out.cell (p := ⟨b, _, none⟩) hbl).trans hc2
      have o1 : (k : Int) < (l.length : Int) := by omega
      have HX : Kp (l[k]? = some x) := ⟨hx⟩
      have hxb := step_bd (steps_at HV.out hx)
      have hn0 : 0 ≤ x.n := hxb.1
      have hn1 : x.n ≤ 1000000000 := hxb.2
      obtain ⟨y, n⟩ := x
      simp only at c1 c2 hn0 hn1
      clear hx hc1 hc2 hxb
      by_cases hy2 : y = 2
      · subst hy2
        go_wp2
        go_roundw
        case rel => exact ⟨k + 1, (pw + n), ps, pa, by omega, by go_num, ⟨by rw [put_snoc HX.out, HK.out]; simp [addB, putS]⟩, ⟨(HPA.out.set0 _).alloc (by simpa using hBr) _⟩, ⟨(HRA.out.other hne _ _).alloc (by simpa using hwr) _⟩, by omega, by omega, by omega, by omega, by omega, by omega, by simp [World.setCell]; omega, ⟨(HB.out.setCell hBw _).alloc (by simpa using HB.out.size) _⟩⟩
        case measure => simp [intOf]; omega
      · by_cases hy3 : y = 3
        · subst hy3
          go_wp2
          go_roundw
          case rel => exact ⟨k + 1, pw, (ps + n), pa, by omega, by go_num, ⟨by rw [put_snoc HX.out, HK.out]; simp [addB, putS]⟩, ⟨(HPA.out.set1 _).alloc (by simpa using hBr) _⟩, ⟨(HRA.out.other hne _ _).alloc (by simpa using hwr) _⟩, by omega, by omega, by omega, by omega, by omega, by omega, by simp [World.setCell]; omega, ⟨(HB.out.setCell hBw _).alloc (by simpa using HB.out.size) _⟩⟩
          case measure => simp [intOf]; omega
        · by_cases hy4 : y = 4
          · subst hy4
            go_wp2
            go_roundw
            case rel => exact ⟨k + 1, pw, ps, (pa + n), by omega, by go_num, ⟨by rw [put_snoc HX.out, HK.out]; simp [addB, putS]⟩, ⟨(HPA.out.set2 _).alloc (by simpa using hBr) _⟩, ⟨(HRA.out.other hne _ _).alloc (by simpa using hwr) _⟩, by omega, by omega, by omega, by omega, by omega, by omega, by simp [World.setCell]; omega, ⟨(HB.out.setCell hBw _).alloc (by simpa using HB.out.size) _⟩⟩
            case measure => simp [intOf]; omega
          · have h2 : (y == 2) = false := by rw [beq_eq_false_iff_ne]; exact hy2
            have h3 : (y == 3) = false := by rw [beq_eq_false_iff_ne]; exact hy3
            have h4 : (y == 4) = false := by rw [beq_eq_false_iff_ne]; exact hy4
            go_wp2
            go_roundw
            case rel => exact ⟨k + 1, pw, ps, pa, by omega, by go_num, ⟨by rw [put_snoc HX.out, HK.out]; simp [addB, putS, hy2, hy3, hy4]⟩, ⟨HPA.out.alloc hBr _⟩, ⟨HRA.out.alloc hwr _⟩, by omega, by omega, by omega, by omega, by omega, by omega, by simp; omega, ⟨HB.out.alloc HB.out.size _⟩⟩
            case measure => simp [intOf]; omega
    · have HE : Kp (putL l = ⟨pw, ps, pa⟩) := ⟨by have := HK.out; rwa [List.take_of_length_le (by omega)] at this⟩
      obtain ⟨r0, r1, r2, rz⟩ := HRA.out
      simp only at r0 r1 r2
      go_wp2
      refine bodyPost_ret (v := .tuple #[.agg #[.int .i64 pw, .int .i64 ps, .int .i64 pa], .int .i64 0]) ?_ rfl ⟨by rw [HE.out], ?_⟩
      · simp [results, Try.results37, go_sem, r0, r1, r2]
      · exact ((HB.out.setCell (Nat.le_refl _) _).setCell (Nat.le_refl _) _).setCell (Nat.le_refl _) _
end Go.Proofs.Ytakldbpfdoeimaa.Bt
