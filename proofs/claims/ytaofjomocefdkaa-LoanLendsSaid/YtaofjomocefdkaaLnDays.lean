/-
  WALKS (layer 9, loan): spans of days; what is asked of a loan; whether a loan follows others.
-/
import Derived.Test.YtaofjomocefdkaaLnCal
import Derived.Deep.RegionWith
namespace Go.Proofs.Ytaofjomocefdkaa.Ln
open Go Go.RowKit

theorem home_any (x : Loan) (w : World) : Calls Try.prog 104 #[.agg #[.string x.p, .string x.t, .int .i64 x.out, .int .i64 x.due, .int .i64 x.back]] w fun e w' => e = .returned (.int .i64 (home x)) ∧ Below w.heap.size w w' := by
  unfold home
  obtain ⟨p, t, o, d, b⟩ := x
  simp only
  by_cases h : b = 0
  · have j2 : (b == (0 : Int)) = true := by simp [h]
    rw [if_pos h]
    clear h
    go_enter Try.func104, Try.ntmps104
    go_wp2
    go_ret
    exact ⟨rfl, by repeat (first | exact Below.refl _ _ | refine Below.alloc ?_ (by simp <;> omega) _ | refine bDrewN ?_ _ | refine Below.drew ?_)⟩
  · have j2 : (b == (0 : Int)) = false := by simp [h]
    rw [if_neg h]
    go_enter Try.func104, Try.ntmps104
    go_wp2
    go_ret
    exact ⟨rfl, by repeat (first | exact Below.refl _ _ | refine Below.alloc ?_ (by simp <;> omega) _ | refine bDrewN ?_ _ | refine Below.drew ?_)⟩
theorem box_start {w W1 : World} {x : Loan} {t t2 : TypeId} (h : (w.alloc (.cells #[.string x.p, .string x.t, .int .i64 x.out, .int .i64 x.due, .int .i64 x.back] t)).alloc (.cells #[.int .i64 0, .int .i64 0] t2) = W1) : Below w.heap.size w W1 ∧ LAt W1 w.heap.size 0 x ∧ W1.cell? ⟨w.heap.size + 1, 0, none⟩ = some (.int .i64 0) ∧ W1.cell? ⟨w.heap.size + 1, 1, none⟩ = some (.int .i64 0) ∧ (∀ j, W1.frozen? ⟨w.heap.size + 1, j, none⟩ = false) ∧ w.heap.size + 1 < W1.heap.size := by
  subst h
  exact ⟨by repeat (first | exact Below.refl _ _ | refine Below.alloc ?_ (by simp <;> omega) _ | refine bDrewN ?_ _ | refine Below.drew ?_), ⟨by go_simp, by go_simp, by go_simp, by go_simp, by go_simp⟩, by go_simp, by go_simp, fun j => by go_simp, by simp⟩
set_option maxHeartbeats 1000000 in
theorem daysOut_any (x : Loan) (w : World) : Calls Try.prog 96 #[.agg #[.string x.p, .string x.t, .int .i64 x.out, .int .i64 x.due, .int .i64 x.back]] w fun e w' => e = .returned (.agg #[.int .i64 x.out, .int .i64 (home x)]) ∧ Below w.heap.size w w' := by
  have HH : Kp (∀ W, Calls Try.prog 104 #[.agg #[.string x.p, .string x.t, .int .i64 x.out, .int .i64 x.due, .int .i64 x.back]] W fun e w' => e = .returned (.int .i64 (home x)) ∧ Below W.heap.size W w') := ⟨fun W => home_any x W⟩
  obtain ⟨H, hH⟩ : ∃ H, home x = H := ⟨_, rfl⟩
  rw [hH] at HH ⊢
  obtain ⟨p, t, o, d, b⟩ := x
  simp only at *
  clear hH
  go_enter Try.func96, Try.ntmps96
  go_wp2
  obtain ⟨W1, hW1⟩ : ∃ W1, (w.alloc (.cells #[.string p, .string t, .int .i64 o, .int .i64 d, .int .i64 b] 62)).alloc (.cells #[.int .i64 0, .int .i64 0] 86) = W1 := ⟨_, rfl⟩
  rw [hW1]
  obtain ⟨hb1, ⟨c0, c1, c2, c3, c4⟩, r0, r1, rz, hz⟩ := box_start (x := ⟨p, t, o, d, b⟩) hW1
  simp only [Nat.zero_add] at c0 c1 c2 c3 c4
  have HB1 := Kp.mk hb1
  have hyl := World.block_lt_of_cell? _ _ c0
  clear hW1 hb1
  go_region_with (go_at_call 104; refine (HH.out _).mono ?_; rintro en w6 ⟨rfl, hb6⟩; have hbw : Below W1.heap.size W1 w6 := (by (repeat (with_reducible first | exact Below.refl _ _ | refine Below.drew ?_ | refine bDrewN ?_ _)) : Below W1.heap.size W1 _).trans hb6; have n2 := (hbw.cell (p := ⟨w.heap.size, 2, none⟩) hyl).trans c2; have n5 := (hbw.cell (p := ⟨w.heap.size + 1, 0, none⟩) hz).trans r0; have n6 := (hbw.cell (p := ⟨w.heap.size + 1, 1, none⟩) hz).trans r1; have nz := fun j => (hbw.frozen (p := ⟨w.heap.size + 1, j, none⟩) hz).trans (rz j); have HBW := Kp.mk hbw; clear hb6 hbw)
  all_goals
    go_wp2
    exact bodyPost_ret (v := .agg #[.int .i64 o, .int .i64 H]) (by simp [results, Try.results96, go_sem, n5, n6]) rfl ⟨rfl, ((HB1.out.trans (HBW.out.mono HB1.out.size)).setCell (by simp only; omega) _).setCell (by simp only; omega) _⟩
set_option maxHeartbeats 1000000 in
theorem daysOverdue_any (x : Loan) (w : World) : Calls Try.prog 89 #[.agg #[.string x.p, .string x.t, .int .i64 x.out, .int .i64 x.due, .int .i64 x.back]] w fun e w' => e = .returned (.agg #[.int .i64 x.due, .int .i64 (home x)]) ∧ Below w.heap.size w w' := by
  have HH : Kp (∀ W, Calls Try.prog 104 #[.agg #[.string x.p, .string x.t, .int .i64 x.out, .int .i64 x.due, .int .i64 x.back]] W fun e w' => e = .returned (.int .i64 (home x)) ∧ Below W.heap.size W w') := ⟨fun W => home_any x W⟩
  obtain ⟨H, hH⟩ : ∃ H, home x = H := ⟨_, rfl⟩
  rw [hH] at HH ⊢
  obtain ⟨p, t, o, d, b⟩ := x
  simp only at *
  clear hH
  go_enter Try.func89, Try.ntmps89
  go_wp2
  obtain ⟨W1, hW1⟩ : ∃ W1, (w.alloc (.cells #[.string p, .string t, .int .i64 o, .int .i64 d, .int .i64 b] 62)).alloc (.cells #[.int .i64 0, .int .i64 0] 86) = W1 := ⟨_, rfl⟩
  rw [hW1]
  obtain ⟨hb1, ⟨c0, c1, c2, c3, c4⟩, r0, r1, rz, hz⟩ := box_start (x := ⟨p, t, o, d, b⟩) hW1
  simp only [Nat.zero_add] at c0 c1 c2 c3 c4
  have HB1 := Kp.mk hb1
  have hyl := World.block_lt_of_cell? _ _ c0
  clear hW1 hb1
  go_region_with (go_at_call 104; refine (HH.out _).mono ?_; rintro en w6 ⟨rfl, hb6⟩; have hbw : Below W1.heap.size W1 w6 := (by (repeat (with_reducible first | exact Below.refl _ _ | refine Below.drew ?_ | refine bDrewN ?_ _)) : Below W1.heap.size W1 _).trans hb6; have n2 := (hbw.cell (p := ⟨w.heap.size, 3, none⟩) hyl).trans c3; have n5 := (hbw.cell (p := ⟨w.heap.size + 1, 0, none⟩) hz).trans r0; have n6 := (hbw.cell (p := ⟨w.heap.size + 1, 1, none⟩) hz).trans r1; have nz := fun j => (hbw.frozen (p := ⟨w.heap.size + 1, j, none⟩) hz).trans (rz j); have HBW := Kp.mk hbw; clear hb6 hbw)
  all_goals
    go_wp2
    exact bodyPost_ret (v := .agg #[.int .i64 d, .int .i64 H]) (by simp [results, Try.results89, go_sem, n5, n6]) rfl ⟨rfl, ((HB1.out.trans (HBW.out.mono HB1.out.size)).setCell (by simp only; omega) _).setCell (by simp only; omega) _⟩
theorem wrap64_small {n : Int} (h : -1000000 ≤ n ∧ n ≤ 1000000) : IntKind.i64.wrap n = n := IntWalk.i64_in n (by omega)
/-- Days that two spans have in common. -/
def comI (a b c d : Int) : Int := max 0 (min b d - max a c)
theorem common_any (a b c d : Int) (w : World) (h1 : 0 ≤ a ∧ a ≤ 200000) (h2 : 0 ≤ b ∧ b ≤ 200000) (h3 : 0 ≤ c ∧ c ≤ 200000) (h4 : 0 ≤ d ∧ d ≤ 200000) : Calls Try.prog 79 #[.agg #[.int .i64 a, .int .i64 b], .agg #[.int .i64 c, .int .i64 d]] w fun e w' => e = .returned (.int .i64 (comI a b c d)) ∧ Below w.heap.size w w' := by
  obtain ⟨R, hR⟩ : ∃ R, comI a b c d = R := ⟨_, rfl⟩
  rw [hR]
  unfold comI at hR
  by_cases k1 : d < b <;> by_cases k2 : a < c
  · have e1 := wrap64_small (n := d - c) (by omega)
    by_cases k3 : 0 < d - c
    · have HR : Kp (d - c = R) := ⟨by omega⟩
      clear h1 h2 h3 h4 hR
      go_enter Try.func79, Try.ntmps79
      go_wp2
      go_ret
      exact ⟨ret_int HR.out, by repeat (first | exact Below.refl _ _ | refine Below.alloc ?_ (by simp <;> omega) _ | refine bDrewN ?_ _ | refine Below.drew ?_)⟩
    · have HR : Kp (0 = R) := ⟨by omega⟩
      clear h1 h2 h3 h4 hR
      go_enter Try.func79, Try.ntmps79
      go_wp2
      go_ret
      exact ⟨ret_int HR.out, by repeat (first | exact Below.refl _ _ | refine Below.alloc ?_ (by simp <;> omega) _ | refine bDrewN ?_ _ | refine Below.drew ?_)⟩
  · have e1 := wrap64_small (n := d - a) (by omega)
    by_cases k3 : 0 < d - a
    · have HR : Kp (d - a = R) := ⟨by omega⟩
      clear h1 h2 h3 h4 hR
      go_enter Try.func79, Try.ntmps79
      go_wp2
      go_ret
      exact ⟨ret_int HR.out, by repeat (first | exact Below.refl _ _ | refine Below.alloc ?_ (by simp <;> omega) _ | refine bDrewN ?_ _ | refine Below.drew ?_)⟩
    · have HR : Kp (0 = R) := ⟨by omega⟩
      clear h1 h2 h3 h4 hR
      go_enter Try.func79, Try.ntmps79
      go_wp2
      go_ret
      exact ⟨ret_int HR.out, by repeat (first | exact Below.refl _ _ | refine Below.alloc ?_ (by simp <;> omega) _ | refine bDrewN ?_ _ | refine Below.drew ?_)⟩
  · have e1 := wrap64_small (n := b - c) (by omega)
    by_cases k3 : 0 < b - c
    · have HR : Kp (b - c = R) := ⟨by omega⟩
      clear h1 h2 h3 h4 hR
      go_enter Try.func79, Try.ntmps79
      go_wp2
      go_ret
      exact ⟨ret_int HR.out, by repeat (first | exact Below.refl _ _ | refine Below.alloc ?_ (by simp <;> omega) _ | refine bDrewN ?_ _ | refine Below.drew ?_)⟩
    · have HR : Kp (0 = R) := ⟨by omega⟩
      clear h1 h2 h3 h4 hR
      go_enter Try.func79, Try.ntmps79
      go_wp2
      go_ret
      exact ⟨ret_int HR.out, by repeat (first | exact Below.refl _ _ | refine Below.alloc ?_ (by simp <;> omega) _ | refine bDrewN ?_ _ | refine Below.drew ?_)⟩
  · have e1 := wrap64_small (n := b - a) (by omega)
    by_cases k3 : 0 < b - a
    · have HR : Kp (b - a = R) := ⟨by omega⟩
      clear h1 h2 h3 h4 hR
      go_enter Try.func79, Try.ntmps79
      go_wp2
      go_ret
      exact ⟨ret_int HR.out, by repeat (first | exact Below.refl _ _ | refine Below.alloc ?_ (by simp <;> omega) _ | refine bDrewN ?_ _ | refine Below.drew ?_)⟩
    · have HR : Kp (0 = R) := ⟨by omega⟩
      clear h1 h2 h3 h4 hR
      go_enter Try.func79, Try.ntmps79
      go_wp2
      go_ret
      exact ⟨ret_int HR.out, by repeat (first | exact Below.refl _ _ | refine Below.alloc ?_ (by simp <;> omega) _ | refine bDrewN ?_ _ | refine Below.drew ?_)⟩
theorem has_any (a b n : Int) (w : World) : Calls Try.prog 97 #[.agg #[.int .i64 a, .int .i64 b], .int .i64 n] w fun e w' => e = .returned (.bool (decide (a ≤ n) && decide (n < b))) ∧ Below w.heap.size w w' := by
  by_cases h1 : a ≤ n
  · by_cases h2 : n < b
    · rw [decide_eq_true h1, decide_eq_true h2]
      go_enter Try.func97, Try.ntmps97
      go_wp2
      go_ret
      exact ⟨rfl, by repeat (first | exact Below.refl _ _ | refine Below.alloc ?_ (by simp <;> omega) _ | refine bDrewN ?_ _ | refine Below.drew ?_)⟩
    · rw [decide_eq_true h1, decide_eq_false h2]
      go_enter Try.func97, Try.ntmps97
      go_wp2
      go_ret
      exact ⟨rfl, by repeat (first | exact Below.refl _ _ | refine Below.alloc ?_ (by simp <;> omega) _ | refine bDrewN ?_ _ | refine Below.drew ?_)⟩
  · have h3 : decide (a ≤ n) = false := decide_eq_false h1
    rw [h3]
    go_enter Try.func97, Try.ntmps97
    go_wp2
    go_ret
    exact ⟨rfl, by repeat (first | exact Below.refl _ _ | refine Below.alloc ?_ (by simp <;> omega) _ | refine bDrewN ?_ _ | refine Below.drew ?_)⟩
theorem isOf_any (x : Loan) (s : ByteArray) (w : World) : Calls Try.prog 63 #[.agg #[.string x.p, .string x.t, .int .i64 x.out, .int .i64 x.due, .int .i64 x.back], .string s] w fun e w' => e = .returned (.bool (eqS x.p s)) ∧ Below w.heap.size w w' := by
  unfold eqS
  go_enter Try.func63, Try.ntmps63
  go_wp2
  go_ret
  exact ⟨rfl, by repeat (first | exact Below.refl _ _ | refine Below.alloc ?_ (by simp <;> omega) _ | refine bDrewN ?_ _ | refine Below.drew ?_)⟩
theorem isTo_any (x : Loan) (s : ByteArray) (w : World) : Calls Try.prog 87 #[.agg #[.string x.p, .string x.t, .int .i64 x.out, .int .i64 x.due, .int .i64 x.back], .string s] w fun e w' => e = .returned (.bool (eqS x.t s)) ∧ Below w.heap.size w w' := by
  unfold eqS
  go_enter Try.func87, Try.ntmps87
  go_wp2
  go_ret
  exact ⟨rfl, by repeat (first | exact Below.refl _ _ | refine Below.alloc ?_ (by simp <;> omega) _ | refine bDrewN ?_ _ | refine Below.drew ?_)⟩
def outB (x : Loan) (n : Int) : Bool := decide (x.out ≤ n) && decide (n < home x)
def lateB (x : Loan) (n : Int) : Bool := decide (x.due ≤ n) && decide (n < home x)
theorem isOut_any (x : Loan) (n : Int) (w : World) : Calls Try.prog 64 #[.agg #[.string x.p, .string x.t, .int .i64 x.out, .int .i64 x.due, .int .i64 x.back], .int .i64 n] w fun e w' => e = .returned (.bool (outB x n)) ∧ Below w.heap.size w w' := by
  have HO : Kp (∀ W, Calls Try.prog 96 #[.agg #[.string x.p, .string x.t, .int .i64 x.out, .int .i64 x.due, .int .i64 x.back]] W fun e w' => e = .returned (.agg #[.int .i64 x.out, .int .i64 (home x)]) ∧ Below W.heap.size W w') := ⟨fun W => daysOut_any x W⟩
  have HS : Kp (∀ W, Calls Try.prog 97 #[.agg #[.int .i64 x.out, .int .i64 (home x)], .int .i64 n] W fun e w' => e = .returned (.bool (outB x n)) ∧ Below W.heap.size W w') := ⟨fun W => has_any _ _ n W⟩
  obtain ⟨H, hH⟩ : ∃ H, home x = H := ⟨_, rfl⟩
  obtain ⟨R, hR⟩ : ∃ R, outB x n = R := ⟨_, rfl⟩
  rw [hH] at HO HS
  rw [hR] at HS ⊢
  clear hH hR
  obtain ⟨p, t, o, d, b⟩ := x
  simp only at *
  go_enter Try.func64, Try.ntmps64
  go_wp2_with fail
  refine (HO.out _).mono ?_
  rintro en w1 ⟨rfl, hb1⟩
  have HB1 : Kp (Below w.heap.size w w1) := ⟨Below.trans (by repeat (first | refine Below.alloc ?_ (by (try simp) <;> omega) _ | refine bDrewN ?_ _ | refine Below.drew ?_ | refine Below.setCell ?_ (by (try simp) <;> omega) _ | exact Below.refl _ _)) (hb1.mono (by (try simp) <;> omega))⟩
  have hz1_0 : w.heap.size < w1.heap.size := by have := hb1.size; (try simp at this); omega
  obtain ⟨hc, hf⟩ := bcell hb1
  have c1_0_0 : w1.cell? ⟨w.heap.size, 0, none⟩ = some ((.string p)) := (hc _ _ (by (try simp) <;> omega)).trans (by go_simp)
  have c1_0_1 : w1.cell? ⟨w.heap.size, 1, none⟩ = some ((.string t)) := (hc _ _ (by (try simp) <;> omega)).trans (by go_simp)
  have c1_0_2 : w1.cell? ⟨w.heap.size, 2, none⟩ = some (.int .i64 o) := (hc _ _ (by (try simp) <;> omega)).trans (by go_simp)
  have c1_0_3 : w1.cell? ⟨w.heap.size, 3, none⟩ = some (.int .i64 d) := (hc _ _ (by (try simp) <;> omega)).trans (by go_simp)
  have c1_0_4 : w1.cell? ⟨w.heap.size, 4, none⟩ = some (.int .i64 b) := (hc _ _ (by (try simp) <;> omega)).trans (by go_simp)
  have z1_0 : ∀ j, w1.frozen? ⟨w.heap.size, j, none⟩ = false := fun j => (hf _ _ (by (try simp) <;> omega)).trans (by go_simp)
  clear hc hf hb1
  go_wp2_with fail
  refine (HS.out _).mono ?_
  rintro en w2 ⟨rfl, hb2⟩
  have HB2 := Kp.mk (HB1.out.trans (hb2.mono HB1.out.size))
  clear hb2
  go_wp2
  go_ret
  exact ⟨rfl, HB2.out⟩
theorem isOverdue_any (x : Loan) (n : Int) (w : World) : Calls Try.prog 70 #[.agg #[.string x.p, .string x.t, .int .i64 x.out, .int .i64 x.due, .int .i64 x.back], .int .i64 n] w fun e w' => e = .returned (.bool (lateB x n)) ∧ Below w.heap.size w w' := by
  have HO : Kp (∀ W, Calls Try.prog 89 #[.agg #[.string x.p, .string x.t, .int .i64 x.out, .int .i64 x.due, .int .i64 x.back]] W fun e w' => e = .returned (.agg #[.int .i64 x.due, .int .i64 (home x)]) ∧ Below W.heap.size W w') := ⟨fun W => daysOverdue_any x W⟩
  have HS : Kp (∀ W, Calls Try.prog 97 #[.agg #[.int .i64 x.due, .int .i64 (home x)], .int .i64 n] W fun e w' => e = .returned (.bool (lateB x n)) ∧ Below W.heap.size W w') := ⟨fun W => has_any _ _ n W⟩
  obtain ⟨H, hH⟩ : ∃ H, home x = H := ⟨_, rfl⟩
  obtain ⟨R, hR⟩ : ∃ R, lateB x n = R := ⟨_, rfl⟩
  rw [hH] at HO HS
  rw [hR] at HS ⊢
  clear hH hR
  obtain ⟨p, t, o, d, b⟩ := x
  simp only at *
  go_enter Try.func70, Try.ntmps70
  go_wp2_with fail
  refine (HO.out _).mono ?_
  rintro en w1 ⟨rfl, hb1⟩
  have HB1 : Kp (Below w.heap.size w w1) := ⟨Below.trans (by repeat (first | refine Below.alloc ?_ (by (try simp) <;> omega) _ | refine bDrewN ?_ _ | refine Below.drew ?_ | refine Below.setCell ?_ (by (try simp) <;> omega) _ | exact Below.refl _ _)) (hb1.mono (by (try simp) <;> omega))⟩
  have hz1_0 : w.heap.size < w1.heap.size := by have := hb1.size; (try simp at this); omega
  obtain ⟨hc, hf⟩ := bcell hb1
  have c1_0_0 : w1.cell? ⟨w.heap.size, 0, none⟩ = some ((.string p)) := (hc _ _ (by (try simp) <;> omega)).trans (by go_simp)
  have c1_0_1 : w1.cell? ⟨w.heap.size, 1, none⟩ = some ((.string t)) := (hc _ _ (by (try simp) <;> omega)).trans (by go_simp)
  have c1_0_2 : w1.cell? ⟨w.heap.size, 2, none⟩ = some (.int .i64 o) := (hc _ _ (by (try simp) <;> omega)).trans (by go_simp)
  have c1_0_3 : w1.cell? ⟨w.heap.size, 3, none⟩ = some (.int .i64 d) := (hc _ _ (by (try simp) <;> omega)).trans (by go_simp)
  have c1_0_4 : w1.cell? ⟨w.heap.size, 4, none⟩ = some (.int .i64 b) := (hc _ _ (by (try simp) <;> omega)).trans (by go_simp)
  have z1_0 : ∀ j, w1.frozen? ⟨w.heap.size, j, none⟩ = false := fun j => (hf _ _ (by (try simp) <;> omega)).trans (by go_simp)
  clear hc hf hb1
  go_wp2_with fail
  refine (HS.out _).mono ?_
  rintro en w2 ⟨rfl, hb2⟩
  have HB2 := Kp.mk (HB1.out.trans (hb2.mono HB1.out.size))
  clear hb2
  go_wp2
  go_ret
  exact ⟨rfl, HB2.out⟩
end Go.Proofs.Ytaofjomocefdkaa.Ln
