/-
  THE WALK of the law TopBaths.
-/
import Derived.Test.YteidabpflfkdcaaDoorTpAwake
import Derived.Test.YteidabpflfkdcaaDoorTpSteps
import Derived.Test.YteidabpflfkdcaaDoorBtDo
namespace Go.Proofs.YteidabpflfkdcaaDoor.Tp
open Go Go.RowKit Go.Sort Go.Proofs.YteidabpflfkdcaaDoor.Bt

def EndsT (w : World) (e : Ending) (w' : World) : Prop := e = .returned (.bool true) ∧ Below w.heap.size w w'
theorem baths_range (bw bs ba sw ss sa so gw gs ga n : Int) (w : World) (ht : Mk.Tab w) (h : n < 0 ∨ 1000 < n) : Calls Tryd.prog 3 #[.agg #[.int .i64 bw, .int .i64 bs, .int .i64 ba, .int .i64 sw, .int .i64 ss, .int .i64 sa, .int .i64 so, .int .i64 gw, .int .i64 gs, .int .i64 ga], .int .i64 n] w (EndsT w) := by
  have HT := Kp.mk ht
  clear ht
  rcases h with h | h
  · go_enter Tryd.func3, Tryd.ntmps3
    go_wp2_with fail
    refine (awake5_any _ (HT.out.below (by repeat (first | exact Below.refl _ _ | refine Below.alloc ?_ (by simp <;> omega) _ | refine bDrewN ?_ _ | refine Below.drew ?_)))).mono ?_
    rintro e w1 ⟨rfl, hb1⟩
    have HB1 : Kp (Below w.heap.size w w1) := ⟨Below.trans (by repeat (first | exact Below.refl _ _ | refine Below.alloc ?_ (by simp <;> omega) _ | refine bDrewN ?_ _ | refine Below.drew ?_)) (hb1.mono (by simp <;> omega))⟩
    clear hb1
    go_wp2
    go_ret
    exact ⟨rfl, HB1.out⟩
  · have h0 : ¬ n < 0 := by omega
    go_enter Tryd.func3, Tryd.ntmps3
    go_wp2_with fail
    refine (awake5_any _ (HT.out.below (by repeat (first | exact Below.refl _ _ | refine Below.alloc ?_ (by simp <;> omega) _ | refine bDrewN ?_ _ | refine Below.drew ?_)))).mono ?_
    rintro e w1 ⟨rfl, hb1⟩
    have HB1 : Kp (Below w.heap.size w w1) := ⟨Below.trans (by repeat (first | exact Below.refl _ _ | refine Below.alloc ?_ (by simp <;> omega) _ | refine bDrewN ?_ _ | refine Below.drew ?_)) (hb1.mono (by simp <;> omega))⟩
    clear hb1
    go_wp2
    go_ret
    exact ⟨rfl, HB1.out⟩
theorem baths_bad (bw bs ba sw ss sa so gw gs ga : Int) (n : Nat) (w : World) (ht : Mk.Tab w) (hn : n ≤ 1000) (hv : vatB ⟨⟨bw, bs, ba⟩, ⟨sw, ss, sa, so⟩, ⟨gw, gs, ga⟩⟩ = false) : Calls Tryd.prog 3 #[.agg #[.int .i64 bw, .int .i64 bs, .int .i64 ba, .int .i64 sw, .int .i64 ss, .int .i64 sa, .int .i64 so, .int .i64 gw, .int .i64 gs, .int .i64 ga], .int .i64 n] w (EndsT w) := by
  have HT := Kp.mk ht
  have HD : Kp (∀ W, Calls Tryd.prog 8 #[.agg #[.int .i64 bw, .int .i64 bs, .int .i64 ba, .int .i64 sw, .int .i64 ss, .int .i64 sa, .int .i64 so, .int .i64 gw, .int .i64 gs, .int .i64 ga], .agg #[.int .i64 1, .int .i64 n]] W fun e w' => e = .returned (.tuple #[.agg #[.int .i64 0, .int .i64 0, .int .i64 0, .int .i64 0, .int .i64 0, .int .i64 0, .int .i64 0, .int .i64 0, .int .i64 0, .int .i64 0], .int .i64 1]) ∧ Below W.heap.size W w') := ⟨fun W => Do_inv bw bs ba sw ss sa so gw gs ga 1 n W hv⟩
  clear ht hv
  go_enter Tryd.func3, Tryd.ntmps3
  go_wp2_with fail
  refine (HD.out _).mono ?_
  rintro e w1 ⟨rfl, hb1⟩
  have HB1 : Kp (Below w.heap.size w w1) := ⟨Below.trans (by repeat (first | exact Below.refl _ _ | refine Below.alloc ?_ (by simp <;> omega) _ | refine bDrewN ?_ _ | refine Below.drew ?_)) (hb1.mono (by simp <;> omega))⟩
  clear hb1
  go_wp2_with fail
  refine (awake5_any _ (HT.out.below (HB1.out.alloc HB1.out.size _))).mono ?_
  rintro e w2 ⟨rfl, hb2⟩
  have HB2 : Kp (Below w.heap.size w w2) := ⟨(HB1.out.alloc HB1.out.size _).trans (hb2.mono (HB1.out.alloc HB1.out.size _).size)⟩
  clear hb2
  go_wp2
  go_ret
  exact ⟨rfl, HB2.out⟩
set_option maxHeartbeats 1000000 in
theorem baths_core (bw bs ba sw ss sa so gw gs ga b0 b1 b2 s0 s1 s2 s3 g0 g1 g2 t0 t1 t2 : Int) (n : Nat) (w : World) (ht : Mk.Tab w) (hn : n ≤ 1000)
    (e0 : IntKind.i64.wrap (g0 + b0) = g0 + b0) (e1 : IntKind.i64.wrap (g1 + b1) = g1 + b1) (e2 : IntKind.i64.wrap (g2 + b2) = g2 + b2)
    (HD : Kp (∀ W, Calls Tryd.prog 8 #[.agg #[.int .i64 bw, .int .i64 bs, .int .i64 ba, .int .i64 sw, .int .i64 ss, .int .i64 sa, .int .i64 so, .int .i64 gw, .int .i64 gs, .int .i64 ga], .agg #[.int .i64 1, .int .i64 n]] W fun e w' => e = .returned (.tuple #[.agg #[.int .i64 b0, .int .i64 b1, .int .i64 b2, .int .i64 s0, .int .i64 s1, .int .i64 s2, .int .i64 s3, .int .i64 g0, .int .i64 g1, .int .i64 g2], .int .i64 0]) ∧ Below W.heap.size W w'))
    (HR : Kp (∀ W v, RS W v [⟨6, 1000⟩, ⟨1, 0⟩] → Calls Tryd.prog 9 #[.agg #[.int .i64 b0, .int .i64 b1, .int .i64 b2, .int .i64 s0, .int .i64 s1, .int .i64 s2, .int .i64 s3, .int .i64 g0, .int .i64 g1, .int .i64 g2], v] W fun e w' => e = .returned (.tuple #[.agg #[.int .i64 0, .int .i64 0, .int .i64 0, .int .i64 s0, .int .i64 s1, .int .i64 s2, .int .i64 s3, .int .i64 (g0 + b0), .int .i64 (g1 + b1), .int .i64 (g2 + b2)], .int .i64 2, .int .i64 0]) ∧ Below W.heap.size W w'))
    (HS : Kp (∀ W, Calls Tryd.prog 10 #[.agg #[.int .i64 0, .int .i64 0, .int .i64 0, .int .i64 s0, .int .i64 s1, .int .i64 s2, .int .i64 s3, .int .i64 (g0 + b0), .int .i64 (g1 + b1), .int .i64 (g2 + b2)]] W fun e w' => e = .returned (.tuple #[.bool true, .int .i64 0]) ∧ Below W.heap.size W w'))
    (HV : Kp (∀ W, Calls Tryd.prog 11 #[.agg #[.int .i64 bw, .int .i64 bs, .int .i64 ba, .int .i64 sw, .int .i64 ss, .int .i64 sa, .int .i64 so, .int .i64 gw, .int .i64 gs, .int .i64 ga]] W fun e w' => e = .returned (.tuple #[.agg #[.int .i64 t0, .int .i64 t1, .int .i64 t2], .int .i64 0]) ∧ Below W.heap.size W w'))
    (HE : Kp (∀ W, Calls Tryd.prog 11 #[.agg #[.int .i64 0, .int .i64 0, .int .i64 0, .int .i64 s0, .int .i64 s1, .int .i64 s2, .int .i64 s3, .int .i64 (g0 + b0), .int .i64 (g1 + b1), .int .i64 (g2 + b2)]] W fun e w' => e = .returned (.tuple #[.agg #[.int .i64 t0, .int .i64 t1, .int .i64 t2], .int .i64 0]) ∧ Below W.heap.size W w')) :
    Calls Tryd.prog 3 #[.agg #[.int .i64 bw, .int .i64 bs, .int .i64 ba, .int .i64 sw, .int .i64 ss, .int .i64 sa, .int .i64 so, .int .i64 gw, .int .i64 gs, .int .i64 ga], .int .i64 n] w (EndsT w) := by
  have HT := Kp.mk ht
  clear ht
  go_enter Tryd.func3, Tryd.ntmps3
  go_wp2_with fail
  refine (HD.out _).mono ?_
  rintro e w1 ⟨rfl, hb1⟩
  have HB1 : Kp (Below w.heap.size w w1) := ⟨Below.trans (by repeat (first | refine Below.alloc ?_ (by (try simp) <;> omega) _ | refine bDrewN ?_ _ | refine Below.drew ?_ | exact Below.refl _ _)) (hb1.mono (by (try simp) <;> omega))⟩
  have hz1_0 : w.heap.size < w1.heap.size := by have := hb1.size; (try simp at this); omega
  obtain ⟨hc, hf⟩ := bcell hb1
  have c1_0_0 : w1.cell? ⟨w.heap.size, 0, none⟩ = some (.int .i64 bw) := (hc _ _ (by (try simp) <;> omega)).trans (by go_simp)
  have c1_0_1 : w1.cell? ⟨w.heap.size, 1, none⟩ = some (.int .i64 bs) := (hc _ _ (by (try simp) <;> omega)).trans (by go_simp)
  have c1_0_2 : w1.cell? ⟨w.heap.size, 2, none⟩ = some (.int .i64 ba) := (hc _ _ (by (try simp) <;> omega)).trans (by go_simp)
  have c1_0_3 : w1.cell? ⟨w.heap.size, 3, none⟩ = some (.int .i64 sw) := (hc _ _ (by (try simp) <;> omega)).trans (by go_simp)
  have c1_0_4 : w1.cell? ⟨w.heap.size, 4, none⟩ = some (.int .i64 ss) := (hc _ _ (by (try simp) <;> omega)).trans (by go_simp)
  have c1_0_5 : w1.cell? ⟨w.heap.size, 5, none⟩ = some (.int .i64 sa) := (hc _ _ (by (try simp) <;> omega)).trans (by go_simp)
  have c1_0_6 : w1.cell? ⟨w.heap.size, 6, none⟩ = some (.int .i64 so) := (hc _ _ (by (try simp) <;> omega)).trans (by go_simp)
  have c1_0_7 : w1.cell? ⟨w.heap.size, 7, none⟩ = some (.int .i64 gw) := (hc _ _ (by (try simp) <;> omega)).trans (by go_simp)
  have c1_0_8 : w1.cell? ⟨w.heap.size, 8, none⟩ = some (.int .i64 gs) := (hc _ _ (by (try simp) <;> omega)).trans (by go_simp)
  have c1_0_9 : w1.cell? ⟨w.heap.size, 9, none⟩ = some (.int .i64 ga) := (hc _ _ (by (try simp) <;> omega)).trans (by go_simp)
  have z1_0 : ∀ j, w1.frozen? ⟨w.heap.size, j, none⟩ = false := fun j => (hf _ _ (by (try simp) <;> omega)).trans (by go_simp)
  clear hc hf hb1
  go_wp2_with fail
  refine (HR.out _ _ (rs_two (by go_simp) (by go_simp) (by go_simp) (by go_simp))).mono ?_
  rintro e w2 ⟨rfl, hb2⟩
  have HB2 : Kp (Below w.heap.size w w2) := ⟨Below.trans (by repeat (first | refine Below.alloc ?_ (by have := HB1.out.size; (try simp) <;> omega) _ | refine bDrewN ?_ _ | refine Below.drew ?_ | exact HB1.out)) (hb2.mono (by have := HB1.out.size; (try simp) <;> omega))⟩
  have hz2_0 : w.heap.size < w2.heap.size := by have := hb2.size; (try simp at this); omega
  have hz2_1 : w1.heap.size < w2.heap.size := by have := hb2.size; (try simp at this); omega
  obtain ⟨hc, hf⟩ := bcell hb2
  have c2_0_0 : w2.cell? ⟨w.heap.size, 0, none⟩ = some (.int .i64 bw) := (hc _ _ (by (try simp) <;> omega)).trans (by go_simp)
  have c2_0_1 : w2.cell? ⟨w.heap.size, 1, none⟩ = some (.int .i64 bs) := (hc _ _ (by (try simp) <;> omega)).trans (by go_simp)
  have c2_0_2 : w2.cell? ⟨w.heap.size, 2, none⟩ = some (.int .i64 ba) := (hc _ _ (by (try simp) <;> omega)).trans (by go_simp)
  have c2_0_3 : w2.cell? ⟨w.heap.size, 3, none⟩ = some (.int .i64 sw) := (hc _ _ (by (try simp) <;> omega)).trans (by go_simp)
  have c2_0_4 : w2.cell? ⟨w.heap.size, 4, none⟩ = some (.int .i64 ss) := (hc _ _ (by (try simp) <;> omega)).trans (by go_simp)
  have c2_0_5 : w2.cell? ⟨w.heap.size, 5, none⟩ = some (.int .i64 sa) := (hc _ _ (by (try simp) <;> omega)).trans (by go_simp)
  have c2_0_6 : w2.cell? ⟨w.heap.size, 6, none⟩ = some (.int .i64 so) := (hc _ _ (by (try simp) <;> omega)).trans (by go_simp)
  have c2_0_7 : w2.cell? ⟨w.heap.size, 7, none⟩ = some (.int .i64 gw) := (hc _ _ (by (try simp) <;> omega)).trans (by go_simp)
  have c2_0_8 : w2.cell? ⟨w.heap.size, 8, none⟩ = some (.int .i64 gs) := (hc _ _ (by (try simp) <;> omega)).trans (by go_simp)
  have c2_0_9 : w2.cell? ⟨w.heap.size, 9, none⟩ = some (.int .i64 ga) := (hc _ _ (by (try simp) <;> omega)).trans (by go_simp)
  have z2_0 : ∀ j, w2.frozen? ⟨w.heap.size, j, none⟩ = false := fun j => (hf _ _ (by (try simp) <;> omega)).trans (by go_simp)
  have c2_1_0 : w2.cell? ⟨w1.heap.size, 0, none⟩ = some (.int .i64 b0) := (hc _ _ (by (try simp) <;> omega)).trans (by go_simp)
  have c2_1_1 : w2.cell? ⟨w1.heap.size, 1, none⟩ = some (.int .i64 b1) := (hc _ _ (by (try simp) <;> omega)).trans (by go_simp)
  have c2_1_2 : w2.cell? ⟨w1.heap.size, 2, none⟩ = some (.int .i64 b2) := (hc _ _ (by (try simp) <;> omega)).trans (by go_simp)
  have c2_1_3 : w2.cell? ⟨w1.heap.size, 3, none⟩ = some (.int .i64 s0) := (hc _ _ (by (try simp) <;> omega)).trans (by go_simp)
  have c2_1_4 : w2.cell? ⟨w1.heap.size, 4, none⟩ = some (.int .i64 s1) := (hc _ _ (by (try simp) <;> omega)).trans (by go_simp)
  have c2_1_5 : w2.cell? ⟨w1.heap.size, 5, none⟩ = some (.int .i64 s2) := (hc _ _ (by (try simp) <;> omega)).trans (by go_simp)
  have c2_1_6 : w2.cell? ⟨w1.heap.size, 6, none⟩ = some (.int .i64 s3) := (hc _ _ (by (try simp) <;> omega)).trans (by go_simp)
  have c2_1_7 : w2.cell? ⟨w1.heap.size, 7, none⟩ = some (.int .i64 g0) := (hc _ _ (by (try simp) <;> omega)).trans (by go_simp)
  have c2_1_8 : w2.cell? ⟨w1.heap.size, 8, none⟩ = some (.int .i64 g1) := (hc _ _ (by (try simp) <;> omega)).trans (by go_simp)
  have c2_1_9 : w2.cell? ⟨w1.heap.size, 9, none⟩ = some (.int .i64 g2) := (hc _ _ (by (try simp) <;> omega)).trans (by go_simp)
  have z2_1 : ∀ j, w2.frozen? ⟨w1.heap.size, j, none⟩ = false := fun j => (hf _ _ (by (try simp) <;> omega)).trans (by go_simp)
  clear hc hf hb2
  go_wp2_with fail
  refine (HS.out _).mono ?_
  rintro e w3 ⟨rfl, hb3⟩
  have HB3 : Kp (Below w.heap.size w w3) := ⟨Below.trans (by repeat (first | refine Below.alloc ?_ (by have := HB2.out.size; (try simp) <;> omega) _ | refine bDrewN ?_ _ | refine Below.drew ?_ | exact HB2.out)) (hb3.mono (by have := HB2.out.size; (try simp) <;> omega))⟩
  have hz3_0 : w.heap.size < w3.heap.size := by have := hb3.size; (try simp at this); omega
  have hz3_1 : w2.heap.size < w3.heap.size := by have := hb3.size; (try simp at this); omega
  obtain ⟨hc, hf⟩ := bcell hb3
  have c3_0_0 : w3.cell? ⟨w.heap.size, 0, none⟩ = some (.int .i64 bw) := (hc _ _ (by (try simp) <;> omega)).trans (by go_simp)
  have c3_0_1 : w3.cell? ⟨w.heap.size, 1, none⟩ = some (.int .i64 bs) := (hc _ _ (by (try simp) <;> omega)).trans (by go_simp)
  have c3_0_2 : w3.cell? ⟨w.heap.size, 2, none⟩ = some (.int .i64 ba) := (hc _ _ (by (try simp) <;> omega)).trans (by go_simp)
  have c3_0_3 : w3.cell? ⟨w.heap.size, 3, none⟩ = some (.int .i64 sw) := (hc _ _ (by (try simp) <;> omega)).trans (by go_simp)
  have c3_0_4 : w3.cell? ⟨w.heap.size, 4, none⟩ = some (.int .i64 ss) := (hc _ _ (by (try simp) <;> omega)).trans (by go_simp)
  have c3_0_5 : w3.cell? ⟨w.heap.size, 5, none⟩ = some (.int .i64 sa) := (hc _ _ (by (try simp) <;> omega)).trans (by go_simp)
  have c3_0_6 : w3.cell? ⟨w.heap.size, 6, none⟩ = some (.int .i64 so) := (hc _ _ (by (try simp) <;> omega)).trans (by go_simp)
  have c3_0_7 : w3.cell? ⟨w.heap.size, 7, none⟩ = some (.int .i64 gw) := (hc _ _ (by (try simp) <;> omega)).trans (by go_simp)
  have c3_0_8 : w3.cell? ⟨w.heap.size, 8, none⟩ = some (.int .i64 gs) := (hc _ _ (by (try simp) <;> omega)).trans (by go_simp)
  have c3_0_9 : w3.cell? ⟨w.heap.size, 9, none⟩ = some (.int .i64 ga) := (hc _ _ (by (try simp) <;> omega)).trans (by go_simp)
  have z3_0 : ∀ j, w3.frozen? ⟨w.heap.size, j, none⟩ = false := fun j => (hf _ _ (by (try simp) <;> omega)).trans (by go_simp)
  have c3_1_0 : w3.cell? ⟨w2.heap.size, 0, none⟩ = some (.int .i64 0) := (hc _ _ (by (try simp) <;> omega)).trans (by go_simp)
  have c3_1_1 : w3.cell? ⟨w2.heap.size, 1, none⟩ = some (.int .i64 0) := (hc _ _ (by (try simp) <;> omega)).trans (by go_simp)
  have c3_1_2 : w3.cell? ⟨w2.heap.size, 2, none⟩ = some (.int .i64 0) := (hc _ _ (by (try simp) <;> omega)).trans (by go_simp)
  have c3_1_3 : w3.cell? ⟨w2.heap.size, 3, none⟩ = some (.int .i64 s0) := (hc _ _ (by (try simp) <;> omega)).trans (by go_simp)
  have c3_1_4 : w3.cell? ⟨w2.heap.size, 4, none⟩ = some (.int .i64 s1) := (hc _ _ (by (try simp) <;> omega)).trans (by go_simp)
  have c3_1_5 : w3.cell? ⟨w2.heap.size, 5, none⟩ = some (.int .i64 s2) := (hc _ _ (by (try simp) <;> omega)).trans (by go_simp)
  have c3_1_6 : w3.cell? ⟨w2.heap.size, 6, none⟩ = some (.int .i64 s3) := (hc _ _ (by (try simp) <;> omega)).trans (by go_simp)
  have c3_1_7 : w3.cell? ⟨w2.heap.size, 7, none⟩ = some (.int .i64 (g0 + b0)) := (hc _ _ (by (try simp) <;> omega)).trans (by go_simp)
  have c3_1_8 : w3.cell? ⟨w2.heap.size, 8, none⟩ = some (.int .i64 (g1 + b1)) := (hc _ _ (by (try simp) <;> omega)).trans (by go_simp)
  have c3_1_9 : w3.cell? ⟨w2.heap.size, 9, none⟩ = some (.int .i64 (g2 + b2)) := (hc _ _ (by (try simp) <;> omega)).trans (by go_simp)
  have z3_1 : ∀ j, w3.frozen? ⟨w2.heap.size, j, none⟩ = false := fun j => (hf _ _ (by (try simp) <;> omega)).trans (by go_simp)
  clear hc hf hb3
  go_wp2_with fail
  refine (HV.out _).mono ?_
  rintro e w4 ⟨rfl, hb4⟩
  have HB4 : Kp (Below w.heap.size w w4) := ⟨Below.trans (by repeat (first | refine Below.alloc ?_ (by have := HB3.out.size; (try simp) <;> omega) _ | refine bDrewN ?_ _ | refine Below.drew ?_ | exact HB3.out)) (hb4.mono (by have := HB3.out.size; (try simp) <;> omega))⟩
  have hz4_0 : w2.heap.size < w4.heap.size := by have := hb4.size; (try simp at this); omega
  obtain ⟨hc, hf⟩ := bcell hb4
  have c4_0_0 : w4.cell? ⟨w2.heap.size, 0, none⟩ = some (.int .i64 0) := (hc _ _ (by (try simp) <;> omega)).trans (by go_simp)
  have c4_0_1 : w4.cell? ⟨w2.heap.size, 1, none⟩ = some (.int .i64 0) := (hc _ _ (by (try simp) <;> omega)).trans (by go_simp)
  have c4_0_2 : w4.cell? ⟨w2.heap.size, 2, none⟩ = some (.int .i64 0) := (hc _ _ (by (try simp) <;> omega)).trans (by go_simp)
  have c4_0_3 : w4.cell? ⟨w2.heap.size, 3, none⟩ = some (.int .i64 s0) := (hc _ _ (by (try simp) <;> omega)).trans (by go_simp)
  have c4_0_4 : w4.cell? ⟨w2.heap.size, 4, none⟩ = some (.int .i64 s1) := (hc _ _ (by (try simp) <;> omega)).trans (by go_simp)
  have c4_0_5 : w4.cell? ⟨w2.heap.size, 5, none⟩ = some (.int .i64 s2) := (hc _ _ (by (try simp) <;> omega)).trans (by go_simp)
  have c4_0_6 : w4.cell? ⟨w2.heap.size, 6, none⟩ = some (.int .i64 s3) := (hc _ _ (by (try simp) <;> omega)).trans (by go_simp)
  have c4_0_7 : w4.cell? ⟨w2.heap.size, 7, none⟩ = some (.int .i64 (g0 + b0)) := (hc _ _ (by (try simp) <;> omega)).trans (by go_simp)
  have c4_0_8 : w4.cell? ⟨w2.heap.size, 8, none⟩ = some (.int .i64 (g1 + b1)) := (hc _ _ (by (try simp) <;> omega)).trans (by go_simp)
  have c4_0_9 : w4.cell? ⟨w2.heap.size, 9, none⟩ = some (.int .i64 (g2 + b2)) := (hc _ _ (by (try simp) <;> omega)).trans (by go_simp)
  have z4_0 : ∀ j, w4.frozen? ⟨w2.heap.size, j, none⟩ = false := fun j => (hf _ _ (by (try simp) <;> omega)).trans (by go_simp)
  clear hc hf hb4
  go_wp2_with fail
  refine (HE.out _).mono ?_
  rintro e w5 ⟨rfl, hb5⟩
  have HB5 : Kp (Below w.heap.size w w5) := ⟨Below.trans (by repeat (first | refine Below.alloc ?_ (by have := HB4.out.size; (try simp) <;> omega) _ | refine bDrewN ?_ _ | refine Below.drew ?_ | exact HB4.out)) (hb5.mono (by have := HB4.out.size; (try simp) <;> omega))⟩
  have hz5_0 : w4.heap.size < w5.heap.size := by have := hb5.size; (try simp at this); omega
  obtain ⟨hc, hf⟩ := bcell hb5
  have c5_0_0 : w5.cell? ⟨w4.heap.size, 0, none⟩ = some (.int .i64 t0) := (hc _ _ (by (try simp) <;> omega)).trans (by go_simp)
  have c5_0_1 : w5.cell? ⟨w4.heap.size, 1, none⟩ = some (.int .i64 t1) := (hc _ _ (by (try simp) <;> omega)).trans (by go_simp)
  have c5_0_2 : w5.cell? ⟨w4.heap.size, 2, none⟩ = some (.int .i64 t2) := (hc _ _ (by (try simp) <;> omega)).trans (by go_simp)
  have z5_0 : ∀ j, w5.frozen? ⟨w4.heap.size, j, none⟩ = false := fun j => (hf _ _ (by (try simp) <;> omega)).trans (by go_simp)
  clear hc hf hb5
  go_wp2_with fail
  refine (awake5_any _ (HT.out.below (HB5.out.alloc HB5.out.size _))).mono ?_
  rintro e w6 ⟨rfl, hb6⟩
  have HB6 : Kp (Below w.heap.size w w6) := ⟨(HB5.out.alloc HB5.out.size _).trans (hb6.mono (HB5.out.alloc HB5.out.size _).size)⟩
  clear hb6
  go_wp2
  go_ret
  exact ⟨rfl, HB6.out⟩
theorem lawBaths_any (bw bs ba sw ss sa so gw gs ga n : Int) (w : World) (ht : Mk.Tab w) : Calls Tryd.prog 3 #[.agg #[.int .i64 bw, .int .i64 bs, .int .i64 ba, .int .i64 sw, .int .i64 ss, .int .i64 sa, .int .i64 so, .int .i64 gw, .int .i64 gs, .int .i64 ga], .int .i64 n] w (EndsT w) := by
  by_cases h : n < 0 ∨ 1000 < n
  · exact baths_range bw bs ba sw ss sa so gw gs ga n w ht h
  · obtain ⟨m, rfl⟩ : ∃ m : Nat, n = m := ⟨n.toNat, by omega⟩
    have hm : m ≤ 1000 := by omega
    cases hv : vatB ⟨⟨bw, bs, ba⟩, ⟨sw, ss, sa, so⟩, ⟨gw, gs, ga⟩⟩ with
    | false => exact baths_bad bw bs ba sw ss sa so gw gs ga m w ht hm hv
    | true =>
      have hu := hoursN_valid m hv
      have ht2 := hoursN_tot m ⟨⟨bw, bs, ba⟩, ⟨sw, ss, sa, so⟩, ⟨gw, gs, ga⟩⟩
      have hb := vat_bd hu
      have hD : ∀ W, Calls Tryd.prog 8 #[.agg #[.int .i64 bw, .int .i64 bs, .int .i64 ba, .int .i64 sw, .int .i64 ss, .int .i64 sa, .int .i64 so, .int .i64 gw, .int .i64 gs, .int .i64 ga], .agg #[.int .i64 1, .int .i64 m]] W fun e w' => e = .returned (.tuple #[.agg #[.int .i64 (hoursN m ⟨⟨bw, bs, ba⟩, ⟨sw, ss, sa, so⟩, ⟨gw, gs, ga⟩⟩).b.w, .int .i64 (hoursN m ⟨⟨bw, bs, ba⟩, ⟨sw, ss, sa, so⟩, ⟨gw, gs, ga⟩⟩).b.s, .int .i64 (hoursN m ⟨⟨bw, bs, ba⟩, ⟨sw, ss, sa, so⟩, ⟨gw, gs, ga⟩⟩).b.a, .int .i64 (hoursN m ⟨⟨bw, bs, ba⟩, ⟨sw, ss, sa, so⟩, ⟨gw, gs, ga⟩⟩).s.w, .int .i64 (hoursN m ⟨⟨bw, bs, ba⟩, ⟨sw, ss, sa, so⟩, ⟨gw, gs, ga⟩⟩).s.s, .int .i64 (hoursN m ⟨⟨bw, bs, ba⟩, ⟨sw, ss, sa, so⟩, ⟨gw, gs, ga⟩⟩).s.a, .int .i64 (hoursN m ⟨⟨bw, bs, ba⟩, ⟨sw, ss, sa, so⟩, ⟨gw, gs, ga⟩⟩).s.o, .int .i64 (hoursN m ⟨⟨bw, bs, ba⟩, ⟨sw, ss, sa, so⟩, ⟨gw, gs, ga⟩⟩).g.w, .int .i64 (hoursN m ⟨⟨bw, bs, ba⟩, ⟨sw, ss, sa, so⟩, ⟨gw, gs, ga⟩⟩).g.s, .int .i64 (hoursN m ⟨⟨bw, bs, ba⟩, ⟨sw, ss, sa, so⟩, ⟨gw, gs, ga⟩⟩).g.a], .int .i64 0]) ∧ Below W.heap.size W w' := fun W =>
        Do_ok bw bs ba sw ss sa so gw gs ga 1 m _ _ _ _ _ _ _ _ _ _ 0 W ⟨step_wait bw bs ba sw ss sa so gw gs ga m hv hm⟩ hv (by rw [step_iff]; simp [lim]; omega)
      obtain ⟨U, hU⟩ : ∃ U, hoursN m ⟨⟨bw, bs, ba⟩, ⟨sw, ss, sa, so⟩, ⟨gw, gs, ga⟩⟩ = U := ⟨_, rfl⟩
      rw [hU] at hu ht2 hb hD
      obtain ⟨⟨b0, b1, b2⟩, ⟨s0, s1, s2, s3⟩, g0, g1, g2⟩ := U
      have hE := empty_valid hu
      have hT := (empty_tot ⟨⟨b0, b1, b2⟩, ⟨s0, s1, s2, s3⟩, ⟨g0, g1, g2⟩⟩).trans ht2
      have hst := empty_steady ⟨⟨b0, b1, b2⟩, ⟨s0, s1, s2, s3⟩, ⟨g0, g1, g2⟩⟩
      simp only [tot, emptyV, Ba.mk.injEq] at hT
      obtain ⟨q0, q1, q2⟩ := hT
      simp only at hb
      refine baths_core bw bs ba sw ss sa so gw gs ga b0 b1 b2 s0 s1 s2 s3 g0 g1 g2 (bw + sw + gw) (bs + ss + gs) (ba + sa + ga) m w ht hm (IntWalk.i64_in _ (by omega)) (IntWalk.i64_in _ (by omega)) (IntWalk.i64_in _ (by omega)) ⟨hD⟩ ⟨fun W v hs => ?_⟩ ⟨fun W => ?_⟩ ⟨fun W => Total_yes bw bs ba sw ss sa so gw gs ga W hv⟩ ⟨fun W => ?_⟩
      · have h2 := Run_yes b0 b1 b2 s0 s1 s2 s3 g0 g1 g2 v _ W hu hs (by decide) steps_two
        rw [run_empty2 hu] at h2
        exact h2
      · have h3 := Steady_yes 0 0 0 s0 s1 s2 s3 (g0 + b0) (g1 + b1) (g2 + b2) W hE
        rw [show steadyB ⟨⟨0, 0, 0⟩, ⟨s0, s1, s2, s3⟩, ⟨g0 + b0, g1 + b1, g2 + b2⟩⟩ = true from hst] at h3
        exact h3
      · have h4 := Total_yes 0 0 0 s0 s1 s2 s3 (g0 + b0) (g1 + b1) (g2 + b2) W hE
        rw [q0, q1, q2] at h4
        exact h4
end Go.Proofs.YteidabpflfkdcaaDoor.Tp
