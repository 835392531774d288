/-
  THE WALK of the law BathSums.
-/
import Derived.Test.YtopbbghjmdhplaaBtSumsP
import Derived.Test.YtopbbghjmdhplaaBtLawValid
namespace Go.Proofs.Ytopbbghjmdhplaa.Bt
open Go Go.RowKit Go.Sort

def TotC (f : Nat) (bw bs ba sw ss sa so gw gs ga t0 t1 t2 k : Int) : Prop := ∀ W : World, Calls Try.prog f #[.agg #[.int .i64 bw, .int .i64 bs, .int .i64 ba, .int .i64 sw, .int .i64 ss, .int .i64 sa, .int .i64 so, .int .i64 gw, .int .i64 gs, .int .i64 ga]] W fun e w' => e = .returned (.tuple #[.agg #[.int .i64 t0, .int .i64 t1, .int .i64 t2], .int .i64 k]) ∧ Below W.heap.size W w'
theorem lawSums_core (bw bs ba sw ss sa so gw gs ga t0 t1 t2 k p0 p1 p2 m hh m' : Int) (g : Option Addr) (c : Nat) (l : List St) (w : World) (hl : l.length ≤ 300)
    (H1 : Kp (TotC 34 bw bs ba sw ss sa so gw gs ga t0 t1 t2 k)) (H2 : Kp (TotC 35 bw bs ba sw ss sa so gw gs ga t0 t1 t2 k))
    (H3 : Kp (∀ W, Below w.heap.size w W → Calls Try.prog 36 #[.slice g l.length c] W fun e w' => e = .returned (.tuple #[.agg #[.int .i64 p0, .int .i64 p1, .int .i64 p2], .int .i64 m]) ∧ Below W.heap.size W w'))
    (H4 : Kp (∀ W, Below w.heap.size w W → Calls Try.prog 37 #[.slice g l.length c] W fun e w' => e = .returned (.tuple #[.agg #[.int .i64 p0, .int .i64 p1, .int .i64 p2], .int .i64 m]) ∧ Below W.heap.size W w'))
    (H5 : Kp (∀ W, Below w.heap.size w W → Calls Try.prog 38 #[.slice g l.length c] W fun e w' => e = .returned (.tuple #[.int .i64 hh, .int .i64 m']) ∧ Below W.heap.size W w'))
    (H6 : Kp (∀ W, Below w.heap.size w W → Calls Try.prog 39 #[.slice g l.length c] W fun e w' => e = .returned (.tuple #[.int .i64 hh, .int .i64 m']) ∧ Below W.heap.size W w')) :
    Calls Try.prog 6 #[.agg #[.int .i64 bw, .int .i64 bs, .int .i64 ba, .int .i64 sw, .int .i64 ss, .int .i64 sa, .int .i64 so, .int .i64 gw, .int .i64 gs, .int .i64 ga], .slice g l.length c] w (Ends w) := by
  have HL := Lib.hid hl
  clear hl
  go_enter Try.func6, Try.ntmps6
  go_wp2_with fail
  refine (long_no _ _ _ _ HL.out).mono ?_
  rintro e w0 ⟨rfl, rfl⟩
  go_wp2_with fail
  refine (H1.out _).mono ?_
  rintro e w1 ⟨rfl, hb1⟩
  have HB1 : Kp (Below w.heap.size w w1) := ⟨Below.trans (by repeat (first | refine Below.alloc ?_ (by (try simp) <;> omega) _ | refine bDrewN ?_ _ | refine Below.drew ?_ | exact Below.refl _ _)) (hb1.mono (by (try simp) <;> omega))⟩
  have hz1_0 : w.heap.size < w1.heap.size := by have := hb1.size; (try simp at this); omega
  obtain ⟨hc, hf⟩ := bcell hb1
  have c1_0_0 : w1.cell? ⟨w.heap.size, 0, none⟩ = some (.int .i64 bw) := (hc _ _ (by (try simp) <;> omega)).trans (by go_simp)
  have c1_0_1 : w1.cell? ⟨w.heap.size, 1, none⟩ = some (.int .i64 bs) := (hc _ _ (by (try simp) <;> omega)).trans (by go_simp)
  have c1_0_2 : w1.cell? ⟨w.heap.size, 2, none⟩ = some (.int .i64 ba) := (hc _ _ (by (try simp) <;> omega)).trans (by go_simp)
  have c1_0_3 : w1.cell? ⟨w.heap.size, 3, none⟩ = some (.int .i64 sw) := (hc _ _ (by (try simp) <;> omega)).trans (by go_simp)
  have c1_0_4 : w1.cell? ⟨w.heap.size, 4, none⟩ = some (.int .i64 ss) := (hc _ _ (by (try simp) <;> omega)).trans (by go_simp)
  have c1_0_5 : w1.cell? ⟨w.heap.size, 5, none⟩ = some (.int .i64 sa) := (hc _ _ (by (try simp) <;> omega)).trans (by go_simp)
  have c1_0_6 : w1.cell? ⟨w.heap.size, 6, none⟩ = some (.int .i64 so) := (hc _ _ (by (try simp) <;> omega)).trans (by go_simp)
  have c1_0_7 : w1.cell? ⟨w.heap.size, 7, none⟩ = some (.int .i64 gw) := (hc _ _ (by (try simp) <;> omega)).trans (by go_simp)
  have c1_0_8 : w1.cell? ⟨w.heap.size, 8, none⟩ = some (.int .i64 gs) := (hc _ _ (by (try simp) <;> omega)).trans (by go_simp)
  have c1_0_9 : w1.cell? ⟨w.heap.size, 9, none⟩ = some (.int .i64 ga) := (hc _ _ (by (try simp) <;> omega)).trans (by go_simp)
  have z1_0 : ∀ j, w1.frozen? ⟨w.heap.size, j, none⟩ = false := fun j => (hf _ _ (by (try simp) <;> omega)).trans (by go_simp)
  clear hc hf hb1
  go_wp2_with fail
  refine (H2.out _).mono ?_
  rintro e w2 ⟨rfl, hb2⟩
  have HB2 : Kp (Below w.heap.size w w2) := ⟨Below.trans (by repeat (first | refine Below.alloc ?_ (by have := HB1.out.size; (try simp) <;> omega) _ | refine bDrewN ?_ _ | refine Below.drew ?_ | exact HB1.out)) (hb2.mono (by have := HB1.out.size; (try simp) <;> omega))⟩
  have hz2_0 : w1.heap.size < w2.heap.size := by have := hb2.size; (try simp at this); omega
  obtain ⟨hc, hf⟩ := bcell hb2
  have c2_0_0 : w2.cell? ⟨w1.heap.size, 0, none⟩ = some (.int .i64 t0) := (hc _ _ (by (try simp) <;> omega)).trans (by go_simp)
  have c2_0_1 : w2.cell? ⟨w1.heap.size, 1, none⟩ = some (.int .i64 t1) := (hc _ _ (by (try simp) <;> omega)).trans (by go_simp)
  have c2_0_2 : w2.cell? ⟨w1.heap.size, 2, none⟩ = some (.int .i64 t2) := (hc _ _ (by (try simp) <;> omega)).trans (by go_simp)
  have z2_0 : ∀ j, w2.frozen? ⟨w1.heap.size, j, none⟩ = false := fun j => (hf _ _ (by (try simp) <;> omega)).trans (by go_simp)
  clear hc hf hb2
  go_wp2_with fail
  refine (H3.out _ (HB2.out.alloc HB2.out.size _)).mono ?_
  rintro e w3 ⟨rfl, hb3⟩
  have HB3 : Kp (Below w.heap.size w w3) := ⟨Below.trans (by repeat (first | refine Below.alloc ?_ (by have := HB2.out.size; (try simp) <;> omega) _ | refine bDrewN ?_ _ | refine Below.drew ?_ | exact HB2.out)) (hb3.mono (by have := HB2.out.size; (try simp) <;> omega))⟩
  have hz3_0 : w1.heap.size < w3.heap.size := by have := hb3.size; (try simp at this); omega
  have hz3_1 : w2.heap.size < w3.heap.size := by have := hb3.size; (try simp at this); omega
  obtain ⟨hc, hf⟩ := bcell hb3
  have c3_0_0 : w3.cell? ⟨w1.heap.size, 0, none⟩ = some (.int .i64 t0) := (hc _ _ (by (try simp) <;> omega)).trans (by go_simp)
  have c3_0_1 : w3.cell? ⟨w1.heap.size, 1, none⟩ = some (.int .i64 t1) := (hc _ _ (by (try simp) <;> omega)).trans (by go_simp)
  have c3_0_2 : w3.cell? ⟨w1.heap.size, 2, none⟩ = some (.int .i64 t2) := (hc _ _ (by (try simp) <;> omega)).trans (by go_simp)
  have z3_0 : ∀ j, w3.frozen? ⟨w1.heap.size, j, none⟩ = false := fun j => (hf _ _ (by (try simp) <;> omega)).trans (by go_simp)
  have c3_1_0 : w3.cell? ⟨w2.heap.size, 0, none⟩ = some (.int .i64 t0) := (hc _ _ (by (try simp) <;> omega)).trans (by go_simp)
  have c3_1_1 : w3.cell? ⟨w2.heap.size, 1, none⟩ = some (.int .i64 t1) := (hc _ _ (by (try simp) <;> omega)).trans (by go_simp)
  have c3_1_2 : w3.cell? ⟨w2.heap.size, 2, none⟩ = some (.int .i64 t2) := (hc _ _ (by (try simp) <;> omega)).trans (by go_simp)
  have z3_1 : ∀ j, w3.frozen? ⟨w2.heap.size, j, none⟩ = false := fun j => (hf _ _ (by (try simp) <;> omega)).trans (by go_simp)
  clear hc hf hb3
  go_wp2_with fail
  refine (H4.out _ (HB3.out.alloc HB3.out.size _)).mono ?_
  rintro e w4 ⟨rfl, hb4⟩
  have HB4 : Kp (Below w.heap.size w w4) := ⟨Below.trans (by repeat (first | refine Below.alloc ?_ (by have := HB3.out.size; (try simp) <;> omega) _ | refine bDrewN ?_ _ | refine Below.drew ?_ | exact HB3.out)) (hb4.mono (by have := HB3.out.size; (try simp) <;> omega))⟩
  have hz4_0 : w1.heap.size < w4.heap.size := by have := hb4.size; (try simp at this); omega
  have hz4_1 : w2.heap.size < w4.heap.size := by have := hb4.size; (try simp at this); omega
  have hz4_2 : w3.heap.size < w4.heap.size := by have := hb4.size; (try simp at this); omega
  obtain ⟨hc, hf⟩ := bcell hb4
  have c4_0_0 : w4.cell? ⟨w1.heap.size, 0, none⟩ = some (.int .i64 t0) := (hc _ _ (by (try simp) <;> omega)).trans (by go_simp)
  have c4_0_1 : w4.cell? ⟨w1.heap.size, 1, none⟩ = some (.int .i64 t1) := (hc _ _ (by (try simp) <;> omega)).trans (by go_simp)
  have c4_0_2 : w4.cell? ⟨w1.heap.size, 2, none⟩ = some (.int .i64 t2) := (hc _ _ (by (try simp) <;> omega)).trans (by go_simp)
  have z4_0 : ∀ j, w4.frozen? ⟨w1.heap.size, j, none⟩ = false := fun j => (hf _ _ (by (try simp) <;> omega)).trans (by go_simp)
  have c4_1_0 : w4.cell? ⟨w2.heap.size, 0, none⟩ = some (.int .i64 t0) := (hc _ _ (by (try simp) <;> omega)).trans (by go_simp)
  have c4_1_1 : w4.cell? ⟨w2.heap.size, 1, none⟩ = some (.int .i64 t1) := (hc _ _ (by (try simp) <;> omega)).trans (by go_simp)
  have c4_1_2 : w4.cell? ⟨w2.heap.size, 2, none⟩ = some (.int .i64 t2) := (hc _ _ (by (try simp) <;> omega)).trans (by go_simp)
  have z4_1 : ∀ j, w4.frozen? ⟨w2.heap.size, j, none⟩ = false := fun j => (hf _ _ (by (try simp) <;> omega)).trans (by go_simp)
  have c4_2_0 : w4.cell? ⟨w3.heap.size, 0, none⟩ = some (.int .i64 p0) := (hc _ _ (by (try simp) <;> omega)).trans (by go_simp)
  have c4_2_1 : w4.cell? ⟨w3.heap.size, 1, none⟩ = some (.int .i64 p1) := (hc _ _ (by (try simp) <;> omega)).trans (by go_simp)
  have c4_2_2 : w4.cell? ⟨w3.heap.size, 2, none⟩ = some (.int .i64 p2) := (hc _ _ (by (try simp) <;> omega)).trans (by go_simp)
  have z4_2 : ∀ j, w4.frozen? ⟨w3.heap.size, j, none⟩ = false := fun j => (hf _ _ (by (try simp) <;> omega)).trans (by go_simp)
  clear hc hf hb4
  go_wp2_with fail
  refine (H5.out _ (HB4.out.alloc HB4.out.size _)).mono ?_
  rintro e w5 ⟨rfl, hb5⟩
  have HB5 : Kp (Below w.heap.size w w5) := ⟨Below.trans (by repeat (first | refine Below.alloc ?_ (by have := HB4.out.size; (try simp) <;> omega) _ | refine bDrewN ?_ _ | refine Below.drew ?_ | exact HB4.out)) (hb5.mono (by have := HB4.out.size; (try simp) <;> omega))⟩
  have hz5_0 : w1.heap.size < w5.heap.size := by have := hb5.size; (try simp at this); omega
  have hz5_1 : w2.heap.size < w5.heap.size := by have := hb5.size; (try simp at this); omega
  have hz5_2 : w3.heap.size < w5.heap.size := by have := hb5.size; (try simp at this); omega
  have hz5_3 : w4.heap.size < w5.heap.size := by have := hb5.size; (try simp at this); omega
  obtain ⟨hc, hf⟩ := bcell hb5
  have c5_0_0 : w5.cell? ⟨w1.heap.size, 0, none⟩ = some (.int .i64 t0) := (hc _ _ (by (try simp) <;> omega)).trans (by go_simp)
  have c5_0_1 : w5.cell? ⟨w1.heap.size, 1, none⟩ = some (.int .i64 t1) := (hc _ _ (by (try simp) <;> omega)).trans (by go_simp)
  have c5_0_2 : w5.cell? ⟨w1.heap.size, 2, none⟩ = some (.int .i64 t2) := (hc _ _ (by (try simp) <;> omega)).trans (by go_simp)
  have z5_0 : ∀ j, w5.frozen? ⟨w1.heap.size, j, none⟩ = false := fun j => (hf _ _ (by (try simp) <;> omega)).trans (by go_simp)
  have c5_1_0 : w5.cell? ⟨w2.heap.size, 0, none⟩ = some (.int .i64 t0) := (hc _ _ (by (try simp) <;> omega)).trans (by go_simp)
  have c5_1_1 : w5.cell? ⟨w2.heap.size, 1, none⟩ = some (.int .i64 t1) := (hc _ _ (by (try simp) <;> omega)).trans (by go_simp)
  have c5_1_2 : w5.cell? ⟨w2.heap.size, 2, none⟩ = some (.int .i64 t2) := (hc _ _ (by (try simp) <;> omega)).trans (by go_simp)
  have z5_1 : ∀ j, w5.frozen? ⟨w2.heap.size, j, none⟩ = false := fun j => (hf _ _ (by (try simp) <;> omega)).trans (by go_simp)
  have c5_2_0 : w5.cell? ⟨w3.heap.size, 0, none⟩ = some (.int .i64 p0) := (hc _ _ (by (try simp) <;> omega)).trans (by go_simp)
  have c5_2_1 : w5.cell? ⟨w3.heap.size, 1, none⟩ = some (.int .i64 p1) := (hc _ _ (by (try simp) <;> omega)).trans (by go_simp)
  have c5_2_2 : w5.cell? ⟨w3.heap.size, 2, none⟩ = some (.int .i64 p2) := (hc _ _ (by (try simp) <;> omega)).trans (by go_simp)
  have z5_2 : ∀ j, w5.frozen? ⟨w3.heap.size, j, none⟩ = false := fun j => (hf _ _ (by (try simp) <;> omega)).trans (by go_simp)
  have c5_3_0 : w5.cell? ⟨w4.heap.size, 0, none⟩ = some (.int .i64 p0) := (hc _ _ (by (try simp) <;> omega)).trans (by go_simp)
  have c5_3_1 : w5.cell? ⟨w4.heap.size, 1, none⟩ = some (.int .i64 p1) := (hc _ _ (by (try simp) <;> omega)).trans (by go_simp)
  have c5_3_2 : w5.cell? ⟨w4.heap.size, 2, none⟩ = some (.int .i64 p2) := (hc _ _ (by (try simp) <;> omega)).trans (by go_simp)
  have z5_3 : ∀ j, w5.frozen? ⟨w4.heap.size, j, none⟩ = false := fun j => (hf _ _ (by (try simp) <;> omega)).trans (by go_simp)
  clear hc hf hb5
  go_wp2_with fail
  refine (H6.out _ HB5.out).mono ?_
  rintro e w6 ⟨rfl, hb6⟩
  have HB6 : Kp (Below w.heap.size w w6) := ⟨Below.trans (by repeat (first | refine Below.alloc ?_ (by have := HB5.out.size; (try simp) <;> omega) _ | refine bDrewN ?_ _ | refine Below.drew ?_ | exact HB5.out)) (hb6.mono (by have := HB5.out.size; (try simp) <;> omega))⟩
  have hz6_0 : w1.heap.size < w6.heap.size := by have := hb6.size; (try simp at this); omega
  have hz6_1 : w2.heap.size < w6.heap.size := by have := hb6.size; (try simp at this); omega
  have hz6_2 : w3.heap.size < w6.heap.size := by have := hb6.size; (try simp at this); omega
  have hz6_3 : w4.heap.size < w6.heap.size := by have := hb6.size; (try simp at this); omega
  obtain ⟨hc, hf⟩ := bcell hb6
  have c6_0_0 : w6.cell? ⟨w1.heap.size, 0, none⟩ = some (.int .i64 t0) := (hc _ _ (by (try simp) <;> omega)).trans (by go_simp)
  have c6_0_1 : w6.cell? ⟨w1.heap.size, 1, none⟩ = some (.int .i64 t1) := (hc _ _ (by (try simp) <;> omega)).trans (by go_simp)
  have c6_0_2 : w6.cell? ⟨w1.heap.size, 2, none⟩ = some (.int .i64 t2) := (hc _ _ (by (try simp) <;> omega)).trans (by go_simp)
  have z6_0 : ∀ j, w6.frozen? ⟨w1.heap.size, j, none⟩ = false := fun j => (hf _ _ (by (try simp) <;> omega)).trans (by go_simp)
  have c6_1_0 : w6.cell? ⟨w2.heap.size, 0, none⟩ = some (.int .i64 t0) := (hc _ _ (by (try simp) <;> omega)).trans (by go_simp)
  have c6_1_1 : w6.cell? ⟨w2.heap.size, 1, none⟩ = some (.int .i64 t1) := (hc _ _ (by (try simp) <;> omega)).trans (by go_simp)
  have c6_1_2 : w6.cell? ⟨w2.heap.size, 2, none⟩ = some (.int .i64 t2) := (hc _ _ (by (try simp) <;> omega)).trans (by go_simp)
  have z6_1 : ∀ j, w6.frozen? ⟨w2.heap.size, j, none⟩ = false := fun j => (hf _ _ (by (try simp) <;> omega)).trans (by go_simp)
  have c6_2_0 : w6.cell? ⟨w3.heap.size, 0, none⟩ = some (.int .i64 p0) := (hc _ _ (by (try simp) <;> omega)).trans (by go_simp)
  have c6_2_1 : w6.cell? ⟨w3.heap.size, 1, none⟩ = some (.int .i64 p1) := (hc _ _ (by (try simp) <;> omega)).trans (by go_simp)
  have c6_2_2 : w6.cell? ⟨w3.heap.size, 2, none⟩ = some (.int .i64 p2) := (hc _ _ (by (try simp) <;> omega)).trans (by go_simp)
  have z6_2 : ∀ j, w6.frozen? ⟨w3.heap.size, j, none⟩ = false := fun j => (hf _ _ (by (try simp) <;> omega)).trans (by go_simp)
  have c6_3_0 : w6.cell? ⟨w4.heap.size, 0, none⟩ = some (.int .i64 p0) := (hc _ _ (by (try simp) <;> omega)).trans (by go_simp)
  have c6_3_1 : w6.cell? ⟨w4.heap.size, 1, none⟩ = some (.int .i64 p1) := (hc _ _ (by (try simp) <;> omega)).trans (by go_simp)
  have c6_3_2 : w6.cell? ⟨w4.heap.size, 2, none⟩ = some (.int .i64 p2) := (hc _ _ (by (try simp) <;> omega)).trans (by go_simp)
  have z6_3 : ∀ j, w6.frozen? ⟨w4.heap.size, j, none⟩ = false := fun j => (hf _ _ (by (try simp) <;> omega)).trans (by go_simp)
  clear hc hf hb6
  go_wp2_with fail
  refine (awake_any _).mono ?_
  rintro e w7 ⟨rfl, hb7⟩
  have HB7 := Lib.hid (HB6.out.trans (hb7.mono HB6.out.size))
  clear hb7
  go_wp2
  go_ret
  exact ⟨rfl, HB7.out⟩
theorem lawSums_any (bw bs ba sw ss sa so gw gs ga : Int) (v : Value) (l : List St) (w : World) (hs : RS w v l) (_hm : l.length ≤ maxLen) : Calls Try.prog 6 #[.agg #[.int .i64 bw, .int .i64 bs, .int .i64 ba, .int .i64 sw, .int .i64 ss, .int .i64 sa, .int .i64 so, .int .i64 gw, .int .i64 gs, .int .i64 ga], v] w (Ends w) := by
  obtain ⟨g, c, rfl⟩ := hs.shape
  by_cases hl : 300 < l.length
  · have HL := Lib.hid hl
    clear hl hs
    go_enter Try.func6, Try.ntmps6
    go_wp2_with fail
    refine (long_yes _ _ _ _ HL.out).mono ?_
    rintro e w1 ⟨rfl, rfl⟩
    go_wp2_with fail
    refine (awake_any _).mono ?_
    rintro e w7 ⟨rfl, hb7⟩
    have HB7 : Kp (Below w.heap.size w w7) := ⟨Below.trans (by repeat (first | exact Below.refl _ _ | refine Below.alloc ?_ (by simp <;> omega) _ | refine bDrewN ?_ _ | refine Below.drew ?_)) (hb7.mono (by simp))⟩
    clear hb7
    go_wp2
    go_ret
    exact ⟨rfl, HB7.out⟩
  · have hl' : l.length ≤ 300 := by omega
    have steps : ∃ p0 p1 p2 m hh m' : Int,
        (∀ W, Below w.heap.size w W → Calls Try.prog 36 #[.slice g l.length c] W fun e w' => e = .returned (.tuple #[.agg #[.int .i64 p0, .int .i64 p1, .int .i64 p2], .int .i64 m]) ∧ Below W.heap.size W w') ∧
        (∀ W, Below w.heap.size w W → Calls Try.prog 37 #[.slice g l.length c] W fun e w' => e = .returned (.tuple #[.agg #[.int .i64 p0, .int .i64 p1, .int .i64 p2], .int .i64 m]) ∧ Below W.heap.size W w') ∧
        (∀ W, Below w.heap.size w W → Calls Try.prog 38 #[.slice g l.length c] W fun e w' => e = .returned (.tuple #[.int .i64 hh, .int .i64 m']) ∧ Below W.heap.size W w') ∧
        (∀ W, Below w.heap.size w W → Calls Try.prog 39 #[.slice g l.length c] W fun e w' => e = .returned (.tuple #[.int .i64 hh, .int .i64 m']) ∧ Below W.heap.size W w') := by
      cases h : stepsB l with
      | true => exact ⟨_, _, _, _, _, _, fun W hW => Put_yes _ l W (hs.below hW) hl' h, fun W hW => rPut_yes _ l W (hs.below hW) hl' h, fun W hW => Hours_yes _ l W (hs.below hW) hl' h, fun W hW => rHours_yes _ l W (hs.below hW) hl' h⟩
      | false => exact ⟨_, _, _, _, _, _, fun W hW => Put_no _ l W (hs.below hW) hl' h, fun W hW => rPut_no _ l W (hs.below hW) hl' h, fun W hW => Hours_no _ l W (hs.below hW) hl' h, fun W hW => rHours_no _ l W (hs.below hW) hl' h⟩
    obtain ⟨p0, p1, p2, m, hh, m', h3, h4, h5, h6⟩ := steps
    cases h : vatB ⟨⟨bw, bs, ba⟩, ⟨sw, ss, sa, so⟩, ⟨gw, gs, ga⟩⟩ with
    | true => exact lawSums_core bw bs ba sw ss sa so gw gs ga _ _ _ _ p0 p1 p2 m hh m' g c l w hl' ⟨fun W => Total_yes bw bs ba sw ss sa so gw gs ga W h⟩ ⟨fun W => rTotal_yes bw bs ba sw ss sa so gw gs ga W h⟩ ⟨h3⟩ ⟨h4⟩ ⟨h5⟩ ⟨h6⟩
    | false => exact lawSums_core bw bs ba sw ss sa so gw gs ga _ _ _ _ p0 p1 p2 m hh m' g c l w hl' ⟨fun W => Total_no bw bs ba sw ss sa so gw gs ga W h⟩ ⟨fun W => rTotal_no bw bs ba sw ss sa so gw gs ga W h⟩ ⟨h3⟩ ⟨h4⟩ ⟨h5⟩ ⟨h6⟩
end Go.Proofs.Ytopbbghjmdhplaa.Bt
