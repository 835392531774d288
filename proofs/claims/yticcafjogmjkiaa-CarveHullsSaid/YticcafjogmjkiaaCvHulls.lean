/-
  THE LAW CarveHulls returns true at every input: Hull, Possible and Wrong answer as the reference's for any views, and views are possible exactly if the hull has just these. No conditions.
-/
import Derived.Test.YticcafjogmjkiaaCvHulA
import Derived.Test.YticcafjogmjkiaaCvAwake
import Derived.Test.YticcafjogmjkiaaCvOpen
namespace Go.Proofs.Yticcafjogmjkiaa.Cv
open Go Go.RowKit Go.Sort

def EndsH (w : World) (e : Ending) (w' : World) : Prop := e = .returned (.bool true) ∧ Below w.heap.size w w'
set_option maxRecDepth 100000 in
theorem hl_three (sx sy sz : Int) (g1 g2 g3 : Option Addr) (n1 c1 n2 c2 n3 c3 : Nat) (w : World) (H3 : Kp (∀ W, Calls Try.prog 36 #[.agg #[.int .i64 sx, .slice g1 n1 c1, .int .i64 sy, .slice g2 n2 c2, .int .i64 sz, .slice g3 n3 c3]] W fun e w' => e = .returned (.bool false) ∧ Below W.heap.size W w')) :
    Calls Try.prog 5 #[.agg #[.int .i64 sx, .slice g1 n1 c1, .int .i64 sy, .slice g2 n2 c2, .int .i64 sz, .slice g3 n3 c3]] w (EndsH w) := by
  go_enter Try.func5, Try.ntmps5
  go_wp2_with fail
  refine (H3.out _).mono ?_
  rintro en w1 ⟨rfl, hb1⟩
  have HB1 : Kp (Below w.heap.size w w1) := ⟨Below.trans (by repeat (first | refine Below.alloc ?_ (by (try simp) <;> omega) _ | refine bDrewN ?_ _ | refine Below.drew ?_ | refine Below.setCell ?_ (by (try simp) <;> omega) _ | exact Below.refl _ _)) (hb1.mono (by (try simp) <;> omega))⟩
  have hz1_0 : w.heap.size < w1.heap.size := by have := hb1.size; (try simp at this); omega
  obtain ⟨hc, hf⟩ := bcell hb1
  have c1_0_0 : w1.cell? ⟨w.heap.size, 0, none⟩ = some (.int .i64 sx) := (hc _ _ (by (try simp) <;> omega)).trans (by go_simp)
  have c1_0_1 : w1.cell? ⟨w.heap.size, 1, none⟩ = some ((.slice g1 n1 c1)) := (hc _ _ (by (try simp) <;> omega)).trans (by go_simp)
  have c1_0_2 : w1.cell? ⟨w.heap.size, 2, none⟩ = some (.int .i64 sy) := (hc _ _ (by (try simp) <;> omega)).trans (by go_simp)
  have c1_0_3 : w1.cell? ⟨w.heap.size, 3, none⟩ = some ((.slice g2 n2 c2)) := (hc _ _ (by (try simp) <;> omega)).trans (by go_simp)
  have c1_0_4 : w1.cell? ⟨w.heap.size, 4, none⟩ = some (.int .i64 sz) := (hc _ _ (by (try simp) <;> omega)).trans (by go_simp)
  have c1_0_5 : w1.cell? ⟨w.heap.size, 5, none⟩ = some ((.slice g3 n3 c3)) := (hc _ _ (by (try simp) <;> omega)).trans (by go_simp)
  have z1_0 : ∀ j, w1.frozen? ⟨w.heap.size, j, none⟩ = false := fun j => (hf _ _ (by (try simp) <;> omega)).trans (by go_simp)
  clear hc hf hb1
  go_wp2_with fail
  refine (awake_any _).mono ?_
  rintro en wz ⟨rfl, hbz⟩
  have HBZ : Kp (Below w.heap.size w wz) := ⟨(HB1.out).trans (hbz.mono (HB1.out).size)⟩
  clear hbz
  go_wp2
  go_ret
  exact ⟨rfl, HBZ.out⟩
set_option maxRecDepth 100000 in
set_option maxHeartbeats 4000000 in
theorem hl_bad (sx sy sz hs r1 r2 r3 r4 : Int) (PB : Bool) (g1 g2 g3 : Option Addr) (n1 c1 n2 c2 n3 c3 hl : Nat) (L : List Bool) (w : World) (H3 : Kp (∀ W, Calls Try.prog 36 #[.agg #[.int .i64 sx, .slice g1 n1 c1, .int .i64 sy, .slice g2 n2 c2, .int .i64 sz, .slice g3 n3 c3]] W fun e w' => e = .returned (.bool true) ∧ Below W.heap.size W w')) (HHU : Kp (∀ W, Below w.heap.size w W → Calls Try.prog 37 #[.agg #[.int .i64 sx, .slice g1 n1 c1], .agg #[.int .i64 sy, .slice g2 n2 c2], .agg #[.int .i64 sz, .slice g3 n3 c3]] W fun e w' => ∃ g c, e = .returned (.tuple #[.agg #[.int .i64 hs, .slice g hl c], .int .i64 1]) ∧ LB w' (.slice g hl c) L ∧ Below W.heap.size W w')) (HRH : Kp (∀ W, Below w.heap.size w W → Calls Try.prog 38 #[.agg #[.int .i64 sx, .slice g1 n1 c1], .agg #[.int .i64 sy, .slice g2 n2 c2], .agg #[.int .i64 sz, .slice g3 n3 c3]] W fun e w' => ∃ g c, e = .returned (.tuple #[.agg #[.int .i64 hs, .slice g hl c], .int .i64 1]) ∧ LB w' (.slice g hl c) L ∧ Below W.heap.size W w')) (HPO : Kp (∀ W, Below w.heap.size w W → Calls Try.prog 39 #[.agg #[.int .i64 sx, .slice g1 n1 c1], .agg #[.int .i64 sy, .slice g2 n2 c2], .agg #[.int .i64 sz, .slice g3 n3 c3]] W fun e w' => e = .returned (.tuple #[.bool PB, .int .i64 1]) ∧ Below W.heap.size W w')) (HRP : Kp (∀ W, Below w.heap.size w W → Calls Try.prog 40 #[.agg #[.int .i64 sx, .slice g1 n1 c1], .agg #[.int .i64 sy, .slice g2 n2 c2], .agg #[.int .i64 sz, .slice g3 n3 c3]] W fun e w' => e = .returned (.tuple #[.bool PB, .int .i64 1]) ∧ Below W.heap.size W w')) (HSA : Kp (∀ W g g' c c', LB W (.slice g hl c) L → LB W (.slice g' hl c') L → Calls Try.prog 25 #[.agg #[.int .i64 hs, .slice g hl c], .agg #[.int .i64 hs, .slice g' hl c']] W fun e w' => e = .returned (.bool true) ∧ Below W.heap.size W w')) (HWR : Kp (∀ W, Below w.heap.size w W → Calls Try.prog 41 #[.agg #[.int .i64 sx, .slice g1 n1 c1], .agg #[.int .i64 sy, .slice g2 n2 c2], .agg #[.int .i64 sz, .slice g3 n3 c3]] W fun e w' => e = .returned (.tuple #[.int .i64 r1, .int .i64 r2, .int .i64 r3, .int .i64 r4]) ∧ Below W.heap.size W w')) (HRW : Kp (∀ W, Below w.heap.size w W → Calls Try.prog 42 #[.agg #[.int .i64 sx, .slice g1 n1 c1], .agg #[.int .i64 sy, .slice g2 n2 c2], .agg #[.int .i64 sz, .slice g3 n3 c3]] W fun e w' => e = .returned (.tuple #[.int .i64 r1, .int .i64 r2, .int .i64 r3, .int .i64 r4]) ∧ Below W.heap.size W w')) :
    Calls Try.prog 5 #[.agg #[.int .i64 sx, .slice g1 n1 c1, .int .i64 sy, .slice g2 n2 c2, .int .i64 sz, .slice g3 n3 c3]] w (EndsH w) := by
  have t1 : (r1 != r1) = false := by simp
  have t2 : (r2 != r2) = false := by simp
  have t3 : (r3 != r3) = false := by simp
  have t4 : (r4 != r4) = false := by simp
  have t5 : (PB != PB) = false := by simp
  go_enter Try.func5, Try.ntmps5
  go_wp2_with fail
  refine (H3.out _).mono ?_
  rintro en w1 ⟨rfl, hb1⟩
  have HB1 : Kp (Below w.heap.size w w1) := ⟨Below.trans (by repeat (first | refine Below.alloc ?_ (by (try simp) <;> omega) _ | refine bDrewN ?_ _ | refine Below.drew ?_ | refine Below.setCell ?_ (by (try simp) <;> omega) _ | exact Below.refl _ _)) (hb1.mono (by (try simp) <;> omega))⟩
  have hz1_0 : w.heap.size < w1.heap.size := by have := hb1.size; (try simp at this); omega
  obtain ⟨hc, hf⟩ := bcell hb1
  have c1_0_0 : w1.cell? ⟨w.heap.size, 0, none⟩ = some (.int .i64 sx) := (hc _ _ (by (try simp) <;> omega)).trans (by go_simp)
  have c1_0_1 : w1.cell? ⟨w.heap.size, 1, none⟩ = some ((.slice g1 n1 c1)) := (hc _ _ (by (try simp) <;> omega)).trans (by go_simp)
  have c1_0_2 : w1.cell? ⟨w.heap.size, 2, none⟩ = some (.int .i64 sy) := (hc _ _ (by (try simp) <;> omega)).trans (by go_simp)
  have c1_0_3 : w1.cell? ⟨w.heap.size, 3, none⟩ = some ((.slice g2 n2 c2)) := (hc _ _ (by (try simp) <;> omega)).trans (by go_simp)
  have c1_0_4 : w1.cell? ⟨w.heap.size, 4, none⟩ = some (.int .i64 sz) := (hc _ _ (by (try simp) <;> omega)).trans (by go_simp)
  have c1_0_5 : w1.cell? ⟨w.heap.size, 5, none⟩ = some ((.slice g3 n3 c3)) := (hc _ _ (by (try simp) <;> omega)).trans (by go_simp)
  have z1_0 : ∀ j, w1.frozen? ⟨w.heap.size, j, none⟩ = false := fun j => (hf _ _ (by (try simp) <;> omega)).trans (by go_simp)
  clear hc hf hb1
  go_wp2_with fail
  refine (HHU.out _ HB1.out).mono ?_
  rintro en w2 ⟨gx, cx, rfl, hx, hb2⟩
  have HX := Kp.mk hx
  clear hx
  have HB2 : Kp (Below w.heap.size w w2) := ⟨Below.trans (by repeat (first | refine Below.alloc ?_ (by have := HB1.out.size; (try simp) <;> omega) _ | refine bDrewN ?_ _ | refine Below.drew ?_ | refine Below.setCell ?_ (by have := HB1.out.size; (try simp) <;> omega) _ | exact HB1.out)) (hb2.mono (by have := HB1.out.size; (try simp) <;> omega))⟩
  have hz2_0 : w.heap.size < w2.heap.size := by have := hb2.size; (try simp at this); omega
  obtain ⟨hc, hf⟩ := bcell hb2
  have c2_0_0 : w2.cell? ⟨w.heap.size, 0, none⟩ = some (.int .i64 sx) := (hc _ _ (by (try simp) <;> omega)).trans (by go_simp)
  have c2_0_1 : w2.cell? ⟨w.heap.size, 1, none⟩ = some ((.slice g1 n1 c1)) := (hc _ _ (by (try simp) <;> omega)).trans (by go_simp)
  have c2_0_2 : w2.cell? ⟨w.heap.size, 2, none⟩ = some (.int .i64 sy) := (hc _ _ (by (try simp) <;> omega)).trans (by go_simp)
  have c2_0_3 : w2.cell? ⟨w.heap.size, 3, none⟩ = some ((.slice g2 n2 c2)) := (hc _ _ (by (try simp) <;> omega)).trans (by go_simp)
  have c2_0_4 : w2.cell? ⟨w.heap.size, 4, none⟩ = some (.int .i64 sz) := (hc _ _ (by (try simp) <;> omega)).trans (by go_simp)
  have c2_0_5 : w2.cell? ⟨w.heap.size, 5, none⟩ = some ((.slice g3 n3 c3)) := (hc _ _ (by (try simp) <;> omega)).trans (by go_simp)
  have z2_0 : ∀ j, w2.frozen? ⟨w.heap.size, j, none⟩ = false := fun j => (hf _ _ (by (try simp) <;> omega)).trans (by go_simp)
  clear hc hf hb2 c1_0_0 c1_0_1 c1_0_2 c1_0_3 c1_0_4 c1_0_5 z1_0
  go_wp2_with fail
  refine (HRH.out _ (HB2.out.alloc HB2.out.size _)).mono ?_
  rintro en w3 ⟨gy, cy, rfl, hy, hb3⟩
  have HYY := Kp.mk hy
  have HX := Kp.mk ((HX.out.below ((Below.refl _ _).alloc (Nat.le_refl _) _)).below hb3)
  clear hy
  have HB3 : Kp (Below w.heap.size w w3) := ⟨Below.trans (by repeat (first | refine Below.alloc ?_ (by have := HB2.out.size; (try simp) <;> omega) _ | refine bDrewN ?_ _ | refine Below.drew ?_ | refine Below.setCell ?_ (by have := HB2.out.size; (try simp) <;> omega) _ | exact HB2.out)) (hb3.mono (by have := HB2.out.size; (try simp) <;> omega))⟩
  have hz3_0 : w.heap.size < w3.heap.size := by have := hb3.size; (try simp at this); omega
  have hz3_1 : w2.heap.size < w3.heap.size := by have := hb3.size; (try simp at this); omega
  obtain ⟨hc, hf⟩ := bcell hb3
  have c3_0_0 : w3.cell? ⟨w.heap.size, 0, none⟩ = some (.int .i64 sx) := (hc _ _ (by (try simp) <;> omega)).trans (by go_simp)
  have c3_0_1 : w3.cell? ⟨w.heap.size, 1, none⟩ = some ((.slice g1 n1 c1)) := (hc _ _ (by (try simp) <;> omega)).trans (by go_simp)
  have c3_0_2 : w3.cell? ⟨w.heap.size, 2, none⟩ = some (.int .i64 sy) := (hc _ _ (by (try simp) <;> omega)).trans (by go_simp)
  have c3_0_3 : w3.cell? ⟨w.heap.size, 3, none⟩ = some ((.slice g2 n2 c2)) := (hc _ _ (by (try simp) <;> omega)).trans (by go_simp)
  have c3_0_4 : w3.cell? ⟨w.heap.size, 4, none⟩ = some (.int .i64 sz) := (hc _ _ (by (try simp) <;> omega)).trans (by go_simp)
  have c3_0_5 : w3.cell? ⟨w.heap.size, 5, none⟩ = some ((.slice g3 n3 c3)) := (hc _ _ (by (try simp) <;> omega)).trans (by go_simp)
  have z3_0 : ∀ j, w3.frozen? ⟨w.heap.size, j, none⟩ = false := fun j => (hf _ _ (by (try simp) <;> omega)).trans (by go_simp)
  have c3_1_0 : w3.cell? ⟨w2.heap.size, 0, none⟩ = some (.int .i64 hs) := (hc _ _ (by (try simp) <;> omega)).trans (by go_simp)
  have c3_1_1 : w3.cell? ⟨w2.heap.size, 1, none⟩ = some ((.slice gx hl cx)) := (hc _ _ (by (try simp) <;> omega)).trans (by go_simp)
  have z3_1 : ∀ j, w3.frozen? ⟨w2.heap.size, j, none⟩ = false := fun j => (hf _ _ (by (try simp) <;> omega)).trans (by go_simp)
  clear hc hf hb3 c2_0_0 c2_0_1 c2_0_2 c2_0_3 c2_0_4 c2_0_5 z2_0
  go_wp2_with fail
  refine (HPO.out _ (HB3.out.alloc HB3.out.size _)).mono ?_
  rintro en w4 ⟨rfl, hb4⟩
  have HX := Kp.mk ((HX.out.below ((Below.refl _ _).alloc (Nat.le_refl _) _)).below hb4)
  have HYY := Kp.mk ((HYY.out.below ((Below.refl _ _).alloc (Nat.le_refl _) _)).below hb4)
  have HB4 : Kp (Below w.heap.size w w4) := ⟨Below.trans (by repeat (first | refine Below.alloc ?_ (by have := HB3.out.size; (try simp) <;> omega) _ | refine bDrewN ?_ _ | refine Below.drew ?_ | refine Below.setCell ?_ (by have := HB3.out.size; (try simp) <;> omega) _ | exact HB3.out)) (hb4.mono (by have := HB3.out.size; (try simp) <;> omega))⟩
  have hz4_0 : w.heap.size < w4.heap.size := by have := hb4.size; (try simp at this); omega
  have hz4_1 : w2.heap.size < w4.heap.size := by have := hb4.size; (try simp at this); omega
  have hz4_2 : w3.heap.size < w4.heap.size := by have := hb4.size; (try simp at this); omega
  obtain ⟨hc, hf⟩ := bcell hb4
  have c4_0_0 : w4.cell? ⟨w.heap.size, 0, none⟩ = some (.int .i64 sx) := (hc _ _ (by (try simp) <;> omega)).trans (by go_simp)
  have c4_0_1 : w4.cell? ⟨w.heap.size, 1, none⟩ = some ((.slice g1 n1 c1)) := (hc _ _ (by (try simp) <;> omega)).trans (by go_simp)
  have c4_0_2 : w4.cell? ⟨w.heap.size, 2, none⟩ = some (.int .i64 sy) := (hc _ _ (by (try simp) <;> omega)).trans (by go_simp)
  have c4_0_3 : w4.cell? ⟨w.heap.size, 3, none⟩ = some ((.slice g2 n2 c2)) := (hc _ _ (by (try simp) <;> omega)).trans (by go_simp)
  have c4_0_4 : w4.cell? ⟨w.heap.size, 4, none⟩ = some (.int .i64 sz) := (hc _ _ (by (try simp) <;> omega)).trans (by go_simp)
  have c4_0_5 : w4.cell? ⟨w.heap.size, 5, none⟩ = some ((.slice g3 n3 c3)) := (hc _ _ (by (try simp) <;> omega)).trans (by go_simp)
  have z4_0 : ∀ j, w4.frozen? ⟨w.heap.size, j, none⟩ = false := fun j => (hf _ _ (by (try simp) <;> omega)).trans (by go_simp)
  have c4_1_0 : w4.cell? ⟨w2.heap.size, 0, none⟩ = some (.int .i64 hs) := (hc _ _ (by (try simp) <;> omega)).trans (by go_simp)
  have c4_1_1 : w4.cell? ⟨w2.heap.size, 1, none⟩ = some ((.slice gx hl cx)) := (hc _ _ (by (try simp) <;> omega)).trans (by go_simp)
  have z4_1 : ∀ j, w4.frozen? ⟨w2.heap.size, j, none⟩ = false := fun j => (hf _ _ (by (try simp) <;> omega)).trans (by go_simp)
  have c4_2_0 : w4.cell? ⟨w3.heap.size, 0, none⟩ = some (.int .i64 hs) := (hc _ _ (by (try simp) <;> omega)).trans (by go_simp)
  have c4_2_1 : w4.cell? ⟨w3.heap.size, 1, none⟩ = some ((.slice gy hl cy)) := (hc _ _ (by (try simp) <;> omega)).trans (by go_simp)
  have z4_2 : ∀ j, w4.frozen? ⟨w3.heap.size, j, none⟩ = false := fun j => (hf _ _ (by (try simp) <;> omega)).trans (by go_simp)
  clear hc hf hb4 c3_0_0 c3_0_1 c3_0_2 c3_0_3 c3_0_4 c3_0_5 z3_0 c3_1_0 c3_1_1 z3_1
  go_wp2_with fail
  refine (HRP.out _ HB4.out).mono ?_
  rintro en w5 ⟨rfl, hb5⟩
  have HX := Kp.mk (HX.out.below hb5)
  have HYY := Kp.mk (HYY.out.below hb5)
  have HB5 : Kp (Below w.heap.size w w5) := ⟨Below.trans (by repeat (first | refine Below.alloc ?_ (by have := HB4.out.size; (try simp) <;> omega) _ | refine bDrewN ?_ _ | refine Below.drew ?_ | refine Below.setCell ?_ (by have := HB4.out.size; (try simp) <;> omega) _ | exact HB4.out)) (hb5.mono (by have := HB4.out.size; (try simp) <;> omega))⟩
  have hz5_0 : w.heap.size < w5.heap.size := by have := hb5.size; (try simp at this); omega
  have hz5_1 : w2.heap.size < w5.heap.size := by have := hb5.size; (try simp at this); omega
  have hz5_2 : w3.heap.size < w5.heap.size := by have := hb5.size; (try simp at this); omega
  obtain ⟨hc, hf⟩ := bcell hb5
  have c5_0_0 : w5.cell? ⟨w.heap.size, 0, none⟩ = some (.int .i64 sx) := (hc _ _ (by (try simp) <;> omega)).trans (by go_simp)
  have c5_0_1 : w5.cell? ⟨w.heap.size, 1, none⟩ = some ((.slice g1 n1 c1)) := (hc _ _ (by (try simp) <;> omega)).trans (by go_simp)
  have c5_0_2 : w5.cell? ⟨w.heap.size, 2, none⟩ = some (.int .i64 sy) := (hc _ _ (by (try simp) <;> omega)).trans (by go_simp)
  have c5_0_3 : w5.cell? ⟨w.heap.size, 3, none⟩ = some ((.slice g2 n2 c2)) := (hc _ _ (by (try simp) <;> omega)).trans (by go_simp)
  have c5_0_4 : w5.cell? ⟨w.heap.size, 4, none⟩ = some (.int .i64 sz) := (hc _ _ (by (try simp) <;> omega)).trans (by go_simp)
  have c5_0_5 : w5.cell? ⟨w.heap.size, 5, none⟩ = some ((.slice g3 n3 c3)) := (hc _ _ (by (try simp) <;> omega)).trans (by go_simp)
  have z5_0 : ∀ j, w5.frozen? ⟨w.heap.size, j, none⟩ = false := fun j => (hf _ _ (by (try simp) <;> omega)).trans (by go_simp)
  have c5_1_0 : w5.cell? ⟨w2.heap.size, 0, none⟩ = some (.int .i64 hs) := (hc _ _ (by (try simp) <;> omega)).trans (by go_simp)
  have c5_1_1 : w5.cell? ⟨w2.heap.size, 1, none⟩ = some ((.slice gx hl cx)) := (hc _ _ (by (try simp) <;> omega)).trans (by go_simp)
  have z5_1 : ∀ j, w5.frozen? ⟨w2.heap.size, j, none⟩ = false := fun j => (hf _ _ (by (try simp) <;> omega)).trans (by go_simp)
  have c5_2_0 : w5.cell? ⟨w3.heap.size, 0, none⟩ = some (.int .i64 hs) := (hc _ _ (by (try simp) <;> omega)).trans (by go_simp)
  have c5_2_1 : w5.cell? ⟨w3.heap.size, 1, none⟩ = some ((.slice gy hl cy)) := (hc _ _ (by (try simp) <;> omega)).trans (by go_simp)
  have z5_2 : ∀ j, w5.frozen? ⟨w3.heap.size, j, none⟩ = false := fun j => (hf _ _ (by (try simp) <;> omega)).trans (by go_simp)
  clear hc hf hb5 c4_0_0 c4_0_1 c4_0_2 c4_0_3 c4_0_4 c4_0_5 z4_0 c4_1_0 c4_1_1 z4_1 c4_2_0 c4_2_1 z4_2
  go_wp2_with fail
  refine (HSA.out _ _ _ _ _ HX.out HYY.out).mono ?_
  rintro en w6 ⟨rfl, hb6⟩
  have HX := Kp.mk (HX.out.below hb6)
  have HB6 : Kp (Below w.heap.size w w6) := ⟨Below.trans (by repeat (first | refine Below.alloc ?_ (by have := HB5.out.size; (try simp) <;> omega) _ | refine bDrewN ?_ _ | refine Below.drew ?_ | refine Below.setCell ?_ (by have := HB5.out.size; (try simp) <;> omega) _ | exact HB5.out)) (hb6.mono (by have := HB5.out.size; (try simp) <;> omega))⟩
  have hz6_0 : w.heap.size < w6.heap.size := by have := hb6.size; (try simp at this); omega
  have hz6_1 : w2.heap.size < w6.heap.size := by have := hb6.size; (try simp at this); omega
  obtain ⟨hc, hf⟩ := bcell hb6
  have c6_0_0 : w6.cell? ⟨w.heap.size, 0, none⟩ = some (.int .i64 sx) := (hc _ _ (by (try simp) <;> omega)).trans (by go_simp)
  have c6_0_1 : w6.cell? ⟨w.heap.size, 1, none⟩ = some ((.slice g1 n1 c1)) := (hc _ _ (by (try simp) <;> omega)).trans (by go_simp)
  have c6_0_2 : w6.cell? ⟨w.heap.size, 2, none⟩ = some (.int .i64 sy) := (hc _ _ (by (try simp) <;> omega)).trans (by go_simp)
  have c6_0_3 : w6.cell? ⟨w.heap.size, 3, none⟩ = some ((.slice g2 n2 c2)) := (hc _ _ (by (try simp) <;> omega)).trans (by go_simp)
  have c6_0_4 : w6.cell? ⟨w.heap.size, 4, none⟩ = some (.int .i64 sz) := (hc _ _ (by (try simp) <;> omega)).trans (by go_simp)
  have c6_0_5 : w6.cell? ⟨w.heap.size, 5, none⟩ = some ((.slice g3 n3 c3)) := (hc _ _ (by (try simp) <;> omega)).trans (by go_simp)
  have z6_0 : ∀ j, w6.frozen? ⟨w.heap.size, j, none⟩ = false := fun j => (hf _ _ (by (try simp) <;> omega)).trans (by go_simp)
  have c6_1_0 : w6.cell? ⟨w2.heap.size, 0, none⟩ = some (.int .i64 hs) := (hc _ _ (by (try simp) <;> omega)).trans (by go_simp)
  have c6_1_1 : w6.cell? ⟨w2.heap.size, 1, none⟩ = some ((.slice gx hl cx)) := (hc _ _ (by (try simp) <;> omega)).trans (by go_simp)
  have z6_1 : ∀ j, w6.frozen? ⟨w2.heap.size, j, none⟩ = false := fun j => (hf _ _ (by (try simp) <;> omega)).trans (by go_simp)
  clear hc hf hb6 c5_0_0 c5_0_1 c5_0_2 c5_0_3 c5_0_4 c5_0_5 z5_0 c5_1_0 c5_1_1 z5_1 c5_2_0 c5_2_1 z5_2
  clear HYY
  go_wp2_with fail
  refine (HWR.out _ HB6.out).mono ?_
  rintro en w7 ⟨rfl, hb7⟩
  have HX := Kp.mk (HX.out.below hb7)
  have HB7 : Kp (Below w.heap.size w w7) := ⟨Below.trans (by repeat (first | refine Below.alloc ?_ (by have := HB6.out.size; (try simp) <;> omega) _ | refine bDrewN ?_ _ | refine Below.drew ?_ | refine Below.setCell ?_ (by have := HB6.out.size; (try simp) <;> omega) _ | exact HB6.out)) (hb7.mono (by have := HB6.out.size; (try simp) <;> omega))⟩
  have hz7_0 : w.heap.size < w7.heap.size := by have := hb7.size; (try simp at this); omega
  have hz7_1 : w2.heap.size < w7.heap.size := by have := hb7.size; (try simp at this); omega
  obtain ⟨hc, hf⟩ := bcell hb7
  have c7_0_0 : w7.cell? ⟨w.heap.size, 0, none⟩ = some (.int .i64 sx) := (hc _ _ (by (try simp) <;> omega)).trans (by go_simp)
  have c7_0_1 : w7.cell? ⟨w.heap.size, 1, none⟩ = some ((.slice g1 n1 c1)) := (hc _ _ (by (try simp) <;> omega)).trans (by go_simp)
  have c7_0_2 : w7.cell? ⟨w.heap.size, 2, none⟩ = some (.int .i64 sy) := (hc _ _ (by (try simp) <;> omega)).trans (by go_simp)
  have c7_0_3 : w7.cell? ⟨w.heap.size, 3, none⟩ = some ((.slice g2 n2 c2)) := (hc _ _ (by (try simp) <;> omega)).trans (by go_simp)
  have c7_0_4 : w7.cell? ⟨w.heap.size, 4, none⟩ = some (.int .i64 sz) := (hc _ _ (by (try simp) <;> omega)).trans (by go_simp)
  have c7_0_5 : w7.cell? ⟨w.heap.size, 5, none⟩ = some ((.slice g3 n3 c3)) := (hc _ _ (by (try simp) <;> omega)).trans (by go_simp)
  have z7_0 : ∀ j, w7.frozen? ⟨w.heap.size, j, none⟩ = false := fun j => (hf _ _ (by (try simp) <;> omega)).trans (by go_simp)
  have c7_1_0 : w7.cell? ⟨w2.heap.size, 0, none⟩ = some (.int .i64 hs) := (hc _ _ (by (try simp) <;> omega)).trans (by go_simp)
  have c7_1_1 : w7.cell? ⟨w2.heap.size, 1, none⟩ = some ((.slice gx hl cx)) := (hc _ _ (by (try simp) <;> omega)).trans (by go_simp)
  have z7_1 : ∀ j, w7.frozen? ⟨w2.heap.size, j, none⟩ = false := fun j => (hf _ _ (by (try simp) <;> omega)).trans (by go_simp)
  clear hc hf hb7 c6_0_0 c6_0_1 c6_0_2 c6_0_3 c6_0_4 c6_0_5 z6_0 c6_1_0 c6_1_1 z6_1
  go_wp2_with fail
  refine (HRW.out _ HB7.out).mono ?_
  rintro en w8 ⟨rfl, hb8⟩
  have HX := Kp.mk (HX.out.below hb8)
  have HB8 : Kp (Below w.heap.size w w8) := ⟨Below.trans (by repeat (first | refine Below.alloc ?_ (by have := HB7.out.size; (try simp) <;> omega) _ | refine bDrewN ?_ _ | refine Below.drew ?_ | refine Below.setCell ?_ (by have := HB7.out.size; (try simp) <;> omega) _ | exact HB7.out)) (hb8.mono (by have := HB7.out.size; (try simp) <;> omega))⟩
  have hz8_0 : w.heap.size < w8.heap.size := by have := hb8.size; (try simp at this); omega
  have hz8_1 : w2.heap.size < w8.heap.size := by have := hb8.size; (try simp at this); omega
  obtain ⟨hc, hf⟩ := bcell hb8
  have c8_0_0 : w8.cell? ⟨w.heap.size, 0, none⟩ = some (.int .i64 sx) := (hc _ _ (by (try simp) <;> omega)).trans (by go_simp)
  have c8_0_1 : w8.cell? ⟨w.heap.size, 1, none⟩ = some ((.slice g1 n1 c1)) := (hc _ _ (by (try simp) <;> omega)).trans (by go_simp)
  have c8_0_2 : w8.cell? ⟨w.heap.size, 2, none⟩ = some (.int .i64 sy) := (hc _ _ (by (try simp) <;> omega)).trans (by go_simp)
  have c8_0_3 : w8.cell? ⟨w.heap.size, 3, none⟩ = some ((.slice g2 n2 c2)) := (hc _ _ (by (try simp) <;> omega)).trans (by go_simp)
  have c8_0_4 : w8.cell? ⟨w.heap.size, 4, none⟩ = some (.int .i64 sz) := (hc _ _ (by (try simp) <;> omega)).trans (by go_simp)
  have c8_0_5 : w8.cell? ⟨w.heap.size, 5, none⟩ = some ((.slice g3 n3 c3)) := (hc _ _ (by (try simp) <;> omega)).trans (by go_simp)
  have z8_0 : ∀ j, w8.frozen? ⟨w.heap.size, j, none⟩ = false := fun j => (hf _ _ (by (try simp) <;> omega)).trans (by go_simp)
  have c8_1_0 : w8.cell? ⟨w2.heap.size, 0, none⟩ = some (.int .i64 hs) := (hc _ _ (by (try simp) <;> omega)).trans (by go_simp)
  have c8_1_1 : w8.cell? ⟨w2.heap.size, 1, none⟩ = some ((.slice gx hl cx)) := (hc _ _ (by (try simp) <;> omega)).trans (by go_simp)
  have z8_1 : ∀ j, w8.frozen? ⟨w2.heap.size, j, none⟩ = false := fun j => (hf _ _ (by (try simp) <;> omega)).trans (by go_simp)
  clear hc hf hb8 c7_0_0 c7_0_1 c7_0_2 c7_0_3 c7_0_4 c7_0_5 z7_0 c7_1_0 c7_1_1 z7_1
  go_wp2_with fail
  refine (awake_any _).mono ?_
  rintro en wz ⟨rfl, hbz⟩
  have HBZ : Kp (Below w.heap.size w wz) := ⟨(HB8.out).trans (hbz.mono (HB8.out).size)⟩
  clear hbz
  go_wp2
  go_ret
  exact ⟨rfl, HBZ.out⟩
set_option maxRecDepth 100000 in
set_option maxHeartbeats 4000000 in
theorem hl_0 (s r1 r2 r3 r4 : Int) (g1 g2 g3 : Option Addr) (n c1 c2 c3 hl : Nat) (L V0 V1 V2 : List Bool) (w : World) (hr : (r4 == 8) = false) (H3 : Kp (∀ W, Calls Try.prog 36 #[.agg #[.int .i64 s, .slice g1 n c1, .int .i64 s, .slice g2 n c2, .int .i64 s, .slice g3 n c3]] W fun e w' => e = .returned (.bool true) ∧ Below W.heap.size W w')) (HHU : Kp (∀ W, Below w.heap.size w W → Calls Try.prog 37 #[.agg #[.int .i64 s, .slice g1 n c1], .agg #[.int .i64 s, .slice g2 n c2], .agg #[.int .i64 s, .slice g3 n c3]] W fun e w' => ∃ g c, e = .returned (.tuple #[.agg #[.int .i64 s, .slice g hl c], .int .i64 0]) ∧ LB w' (.slice g hl c) L ∧ Below W.heap.size W w')) (HRH : Kp (∀ W, Below w.heap.size w W → Calls Try.prog 38 #[.agg #[.int .i64 s, .slice g1 n c1], .agg #[.int .i64 s, .slice g2 n c2], .agg #[.int .i64 s, .slice g3 n c3]] W fun e w' => ∃ g c, e = .returned (.tuple #[.agg #[.int .i64 s, .slice g hl c], .int .i64 0]) ∧ LB w' (.slice g hl c) L ∧ Below W.heap.size W w')) (HPO : Kp (∀ W, Below w.heap.size w W → Calls Try.prog 39 #[.agg #[.int .i64 s, .slice g1 n c1], .agg #[.int .i64 s, .slice g2 n c2], .agg #[.int .i64 s, .slice g3 n c3]] W fun e w' => e = .returned (.tuple #[.bool false, .int .i64 0]) ∧ Below W.heap.size W w')) (HRP : Kp (∀ W, Below w.heap.size w W → Calls Try.prog 40 #[.agg #[.int .i64 s, .slice g1 n c1], .agg #[.int .i64 s, .slice g2 n c2], .agg #[.int .i64 s, .slice g3 n c3]] W fun e w' => e = .returned (.tuple #[.bool false, .int .i64 0]) ∧ Below W.heap.size W w')) (HSA : Kp (∀ W g g' c c', LB W (.slice g hl c) L → LB W (.slice g' hl c') L → Calls Try.prog 25 #[.agg #[.int .i64 s, .slice g hl c], .agg #[.int .i64 s, .slice g' hl c']] W fun e w' => e = .returned (.bool true) ∧ Below W.heap.size W w')) (HWR : Kp (∀ W, Below w.heap.size w W → Calls Try.prog 41 #[.agg #[.int .i64 s, .slice g1 n c1], .agg #[.int .i64 s, .slice g2 n c2], .agg #[.int .i64 s, .slice g3 n c3]] W fun e w' => e = .returned (.tuple #[.int .i64 r1, .int .i64 r2, .int .i64 r3, .int .i64 r4]) ∧ Below W.heap.size W w')) (HRW : Kp (∀ W, Below w.heap.size w W → Calls Try.prog 42 #[.agg #[.int .i64 s, .slice g1 n c1], .agg #[.int .i64 s, .slice g2 n c2], .agg #[.int .i64 s, .slice g3 n c3]] W fun e w' => e = .returned (.tuple #[.int .i64 r1, .int .i64 r2, .int .i64 r3, .int .i64 r4]) ∧ Below W.heap.size W w')) (HV0 : Kp (∀ W g c, LB W (.slice g hl c) L → Calls Try.prog 28 #[.agg #[.int .i64 s, .slice g hl c], .int .i64 0] W fun e w' => ∃ g' c', e = .returned (.tuple #[.agg #[.int .i64 s, .slice g' n c'], .int .i64 0]) ∧ LB w' (.slice g' n c') V0 ∧ Below W.heap.size W w')) (HV1 : Kp (∀ W g c, LB W (.slice g hl c) L → Calls Try.prog 28 #[.agg #[.int .i64 s, .slice g hl c], .int .i64 1] W fun e w' => ∃ g' c', e = .returned (.tuple #[.agg #[.int .i64 s, .slice g' n c'], .int .i64 0]) ∧ LB w' (.slice g' n c') V1 ∧ Below W.heap.size W w')) (HV2 : Kp (∀ W g c, LB W (.slice g hl c) L → Calls Try.prog 28 #[.agg #[.int .i64 s, .slice g hl c], .int .i64 2] W fun e w' => ∃ g' c', e = .returned (.tuple #[.agg #[.int .i64 s, .slice g' n c'], .int .i64 0]) ∧ LB w' (.slice g' n c') V2 ∧ Below W.heap.size W w')) (HS0 : Kp (∀ W g c, Below w.heap.size w W → LB W (.slice g n c) V0 → Calls Try.prog 31 #[.agg #[.int .i64 s, .slice g n c], .agg #[.int .i64 s, .slice g1 n c1]] W fun e w' => e = .returned (.bool false) ∧ Below W.heap.size W w')) :
    Calls Try.prog 5 #[.agg #[.int .i64 s, .slice g1 n c1, .int .i64 s, .slice g2 n c2, .int .i64 s, .slice g3 n c3]] w (EndsH w) := by
  have t1 : (r1 != r1) = false := by simp
  have t2 : (r2 != r2) = false := by simp
  have t3 : (r3 != r3) = false := by simp
  have t4 : (r4 != r4) = false := by simp
  go_enter Try.func5, Try.ntmps5
  go_wp2_with fail
  refine (H3.out _).mono ?_
  rintro en w1 ⟨rfl, hb1⟩
  have HB1 : Kp (Below w.heap.size w w1) := ⟨Below.trans (by repeat (first | refine Below.alloc ?_ (by (try simp) <;> omega) _ | refine bDrewN ?_ _ | refine Below.drew ?_ | refine Below.setCell ?_ (by (try simp) <;> omega) _ | exact Below.refl _ _)) (hb1.mono (by (try simp) <;> omega))⟩
  have hz1_0 : w.heap.size < w1.heap.size := by have := hb1.size; (try simp at this); omega
  obtain ⟨hc, hf⟩ := bcell hb1
  have c1_0_0 : w1.cell? ⟨w.heap.size, 0, none⟩ = some (.int .i64 s) := (hc _ _ (by (try simp) <;> omega)).trans (by go_simp)
  have c1_0_1 : w1.cell? ⟨w.heap.size, 1, none⟩ = some ((.slice g1 n c1)) := (hc _ _ (by (try simp) <;> omega)).trans (by go_simp)
  have c1_0_2 : w1.cell? ⟨w.heap.size, 2, none⟩ = some (.int .i64 s) := (hc _ _ (by (try simp) <;> omega)).trans (by go_simp)
  have c1_0_3 : w1.cell? ⟨w.heap.size, 3, none⟩ = some ((.slice g2 n c2)) := (hc _ _ (by (try simp) <;> omega)).trans (by go_simp)
  have c1_0_4 : w1.cell? ⟨w.heap.size, 4, none⟩ = some (.int .i64 s) := (hc _ _ (by (try simp) <;> omega)).trans (by go_simp)
  have c1_0_5 : w1.cell? ⟨w.heap.size, 5, none⟩ = some ((.slice g3 n c3)) := (hc _ _ (by (try simp) <;> omega)).trans (by go_simp)
  have z1_0 : ∀ j, w1.frozen? ⟨w.heap.size, j, none⟩ = false := fun j => (hf _ _ (by (try simp) <;> omega)).trans (by go_simp)
  clear hc hf hb1
  go_wp2_with fail
  refine (HHU.out _ HB1.out).mono ?_
  rintro en w2 ⟨gx, cx, rfl, hx, hb2⟩
  have HX := Kp.mk hx
  clear hx
  have HB2 : Kp (Below w.heap.size w w2) := ⟨Below.trans (by repeat (first | refine Below.alloc ?_ (by have := HB1.out.size; (try simp) <;> omega) _ | refine bDrewN ?_ _ | refine Below.drew ?_ | refine Below.setCell ?_ (by have := HB1.out.size; (try simp) <;> omega) _ | exact HB1.out)) (hb2.mono (by have := HB1.out.size; (try simp) <;> omega))⟩
  have hz2_0 : w.heap.size < w2.heap.size := by have := hb2.size; (try simp at this); omega
  obtain ⟨hc, hf⟩ := bcell hb2
  have c2_0_0 : w2.cell? ⟨w.heap.size, 0, none⟩ = some (.int .i64 s) := (hc _ _ (by (try simp) <;> omega)).trans (by go_simp)
  have c2_0_1 : w2.cell? ⟨w.heap.size, 1, none⟩ = some ((.slice g1 n c1)) := (hc _ _ (by (try simp) <;> omega)).trans (by go_simp)
  have c2_0_2 : w2.cell? ⟨w.heap.size, 2, none⟩ = some (.int .i64 s) := (hc _ _ (by (try simp) <;> omega)).trans (by go_simp)
  have c2_0_3 : w2.cell? ⟨w.heap.size, 3, none⟩ = some ((.slice g2 n c2)) := (hc _ _ (by (try simp) <;> omega)).trans (by go_simp)
  have c2_0_4 : w2.cell? ⟨w.heap.size, 4, none⟩ = some (.int .i64 s) := (hc _ _ (by (try simp) <;> omega)).trans (by go_simp)
  have c2_0_5 : w2.cell? ⟨w.heap.size, 5, none⟩ = some ((.slice g3 n c3)) := (hc _ _ (by (try simp) <;> omega)).trans (by go_simp)
  have z2_0 : ∀ j, w2.frozen? ⟨w.heap.size, j, none⟩ = false := fun j => (hf _ _ (by (try simp) <;> omega)).trans (by go_simp)
  clear hc hf hb2 c1_0_0 c1_0_1 c1_0_2 c1_0_3 c1_0_4 c1_0_5 z1_0
  go_wp2_with fail
  refine (HRH.out _ (HB2.out.alloc HB2.out.size _)).mono ?_
  rintro en w3 ⟨gy, cy, rfl, hy, hb3⟩
  have HYY := Kp.mk hy
  have HX := Kp.mk ((HX.out.below ((Below.refl _ _).alloc (Nat.le_refl _) _)).below hb3)
  clear hy
  have HB3 : Kp (Below w.heap.size w w3) := ⟨Below.trans (by repeat (first | refine Below.alloc ?_ (by have := HB2.out.size; (try simp) <;> omega) _ | refine bDrewN ?_ _ | refine Below.drew ?_ | refine Below.setCell ?_ (by have := HB2.out.size; (try simp) <;> omega) _ | exact HB2.out)) (hb3.mono (by have := HB2.out.size; (try simp) <;> omega))⟩
  have hz3_0 : w.heap.size < w3.heap.size := by have := hb3.size; (try simp at this); omega
  have hz3_1 : w2.heap.size < w3.heap.size := by have := hb3.size; (try simp at this); omega
  obtain ⟨hc, hf⟩ := bcell hb3
  have c3_0_0 : w3.cell? ⟨w.heap.size, 0, none⟩ = some (.int .i64 s) := (hc _ _ (by (try simp) <;> omega)).trans (by go_simp)
  have c3_0_1 : w3.cell? ⟨w.heap.size, 1, none⟩ = some ((.slice g1 n c1)) := (hc _ _ (by (try simp) <;> omega)).trans (by go_simp)
  have c3_0_2 : w3.cell? ⟨w.heap.size, 2, none⟩ = some (.int .i64 s) := (hc _ _ (by (try simp) <;> omega)).trans (by go_simp)
  have c3_0_3 : w3.cell? ⟨w.heap.size, 3, none⟩ = some ((.slice g2 n c2)) := (hc _ _ (by (try simp) <;> omega)).trans (by go_simp)
  have c3_0_4 : w3.cell? ⟨w.heap.size, 4, none⟩ = some (.int .i64 s) := (hc _ _ (by (try simp) <;> omega)).trans (by go_simp)
  have c3_0_5 : w3.cell? ⟨w.heap.size, 5, none⟩ = some ((.slice g3 n c3)) := (hc _ _ (by (try simp) <;> omega)).trans (by go_simp)
  have z3_0 : ∀ j, w3.frozen? ⟨w.heap.size, j, none⟩ = false := fun j => (hf _ _ (by (try simp) <;> omega)).trans (by go_simp)
  have c3_1_0 : w3.cell? ⟨w2.heap.size, 0, none⟩ = some (.int .i64 s) := (hc _ _ (by (try simp) <;> omega)).trans (by go_simp)
  have c3_1_1 : w3.cell? ⟨w2.heap.size, 1, none⟩ = some ((.slice gx hl cx)) := (hc _ _ (by (try simp) <;> omega)).trans (by go_simp)
  have z3_1 : ∀ j, w3.frozen? ⟨w2.heap.size, j, none⟩ = false := fun j => (hf _ _ (by (try simp) <;> omega)).trans (by go_simp)
  clear hc hf hb3 c2_0_0 c2_0_1 c2_0_2 c2_0_3 c2_0_4 c2_0_5 z2_0
  go_wp2_with fail
  refine (HPO.out _ (HB3.out.alloc HB3.out.size _)).mono ?_
  rintro en w4 ⟨rfl, hb4⟩
  have HX := Kp.mk ((HX.out.below ((Below.refl _ _).alloc (Nat.le_refl _) _)).below hb4)
  have HYY := Kp.mk ((HYY.out.below ((Below.refl _ _).alloc (Nat.le_refl _) _)).below hb4)
  have HB4 : Kp (Below w.heap.size w w4) := ⟨Below.trans (by repeat (first | refine Below.alloc ?_ (by have := HB3.out.size; (try simp) <;> omega) _ | refine bDrewN ?_ _ | refine Below.drew ?_ | refine Below.setCell ?_ (by have := HB3.out.size; (try simp) <;> omega) _ | exact HB3.out)) (hb4.mono (by have := HB3.out.size; (try simp) <;> omega))⟩
  have hz4_0 : w.heap.size < w4.heap.size := by have := hb4.size; (try simp at this); omega
  have hz4_1 : w2.heap.size < w4.heap.size := by have := hb4.size; (try simp at this); omega
  have hz4_2 : w3.heap.size < w4.heap.size := by have := hb4.size; (try simp at this); omega
  obtain ⟨hc, hf⟩ := bcell hb4
  have c4_0_0 : w4.cell? ⟨w.heap.size, 0, none⟩ = some (.int .i64 s) := (hc _ _ (by (try simp) <;> omega)).trans (by go_simp)
  have c4_0_1 : w4.cell? ⟨w.heap.size, 1, none⟩ = some ((.slice g1 n c1)) := (hc _ _ (by (try simp) <;> omega)).trans (by go_simp)
  have c4_0_2 : w4.cell? ⟨w.heap.size, 2, none⟩ = some (.int .i64 s) := (hc _ _ (by (try simp) <;> omega)).trans (by go_simp)
  have c4_0_3 : w4.cell? ⟨w.heap.size, 3, none⟩ = some ((.slice g2 n c2)) := (hc _ _ (by (try simp) <;> omega)).trans (by go_simp)
  have c4_0_4 : w4.cell? ⟨w.heap.size, 4, none⟩ = some (.int .i64 s) := (hc _ _ (by (try simp) <;> omega)).trans (by go_simp)
  have c4_0_5 : w4.cell? ⟨w.heap.size, 5, none⟩ = some ((.slice g3 n c3)) := (hc _ _ (by (try simp) <;> omega)).trans (by go_simp)
  have z4_0 : ∀ j, w4.frozen? ⟨w.heap.size, j, none⟩ = false := fun j => (hf _ _ (by (try simp) <;> omega)).trans (by go_simp)
  have c4_1_0 : w4.cell? ⟨w2.heap.size, 0, none⟩ = some (.int .i64 s) := (hc _ _ (by (try simp) <;> omega)).trans (by go_simp)
  have c4_1_1 : w4.cell? ⟨w2.heap.size, 1, none⟩ = some ((.slice gx hl cx)) := (hc _ _ (by (try simp) <;> omega)).trans (by go_simp)
  have z4_1 : ∀ j, w4.frozen? ⟨w2.heap.size, j, none⟩ = false := fun j => (hf _ _ (by (try simp) <;> omega)).trans (by go_simp)
  have c4_2_0 : w4.cell? ⟨w3.heap.size, 0, none⟩ = some (.int .i64 s) := (hc _ _ (by (try simp) <;> omega)).trans (by go_simp)
  have c4_2_1 : w4.cell? ⟨w3.heap.size, 1, none⟩ = some ((.slice gy hl cy)) := (hc _ _ (by (try simp) <;> omega)).trans (by go_simp)
  have z4_2 : ∀ j, w4.frozen? ⟨w3.heap.size, j, none⟩ = false := fun j => (hf _ _ (by (try simp) <;> omega)).trans (by go_simp)
  clear hc hf hb4 c3_0_0 c3_0_1 c3_0_2 c3_0_3 c3_0_4 c3_0_5 z3_0 c3_1_0 c3_1_1 z3_1
  go_wp2_with fail
  refine (HRP.out _ HB4.out).mono ?_
  rintro en w5 ⟨rfl, hb5⟩
  have HX := Kp.mk (HX.out.below hb5)
  have HYY := Kp.mk (HYY.out.below hb5)
  have HB5 : Kp (Below w.heap.size w w5) := ⟨Below.trans (by repeat (first | refine Below.alloc ?_ (by have := HB4.out.size; (try simp) <;> omega) _ | refine bDrewN ?_ _ | refine Below.drew ?_ | refine Below.setCell ?_ (by have := HB4.out.size; (try simp) <;> omega) _ | exact HB4.out)) (hb5.mono (by have := HB4.out.size; (try simp) <;> omega))⟩
  have hz5_0 : w.heap.size < w5.heap.size := by have := hb5.size; (try simp at this); omega
  have hz5_1 : w2.heap.size < w5.heap.size := by have := hb5.size; (try simp at this); omega
  have hz5_2 : w3.heap.size < w5.heap.size := by have := hb5.size; (try simp at this); omega
  obtain ⟨hc, hf⟩ := bcell hb5
  have c5_0_0 : w5.cell? ⟨w.heap.size, 0, none⟩ = some (.int .i64 s) := (hc _ _ (by (try simp) <;> omega)).trans (by go_simp)
  have c5_0_1 : w5.cell? ⟨w.heap.size, 1, none⟩ = some ((.slice g1 n c1)) := (hc _ _ (by (try simp) <;> omega)).trans (by go_simp)
  have c5_0_2 : w5.cell? ⟨w.heap.size, 2, none⟩ = some (.int .i64 s) := (hc _ _ (by (try simp) <;> omega)).trans (by go_simp)
  have c5_0_3 : w5.cell? ⟨w.heap.size, 3, none⟩ = some ((.slice g2 n c2)) := (hc _ _ (by (try simp) <;> omega)).trans (by go_simp)
  have c5_0_4 : w5.cell? ⟨w.heap.size, 4, none⟩ = some (.int .i64 s) := (hc _ _ (by (try simp) <;> omega)).trans (by go_simp)
  have c5_0_5 : w5.cell? ⟨w.heap.size, 5, none⟩ = some ((.slice g3 n c3)) := (hc _ _ (by (try simp) <;> omega)).trans (by go_simp)
  have z5_0 : ∀ j, w5.frozen? ⟨w.heap.size, j, none⟩ = false := fun j => (hf _ _ (by (try simp) <;> omega)).trans (by go_simp)
  have c5_1_0 : w5.cell? ⟨w2.heap.size, 0, none⟩ = some (.int .i64 s) := (hc _ _ (by (try simp) <;> omega)).trans (by go_simp)
  have c5_1_1 : w5.cell? ⟨w2.heap.size, 1, none⟩ = some ((.slice gx hl cx)) := (hc _ _ (by (try simp) <;> omega)).trans (by go_simp)
  have z5_1 : ∀ j, w5.frozen? ⟨w2.heap.size, j, none⟩ = false := fun j => (hf _ _ (by (try simp) <;> omega)).trans (by go_simp)
  have c5_2_0 : w5.cell? ⟨w3.heap.size, 0, none⟩ = some (.int .i64 s) := (hc _ _ (by (try simp) <;> omega)).trans (by go_simp)
  have c5_2_1 : w5.cell? ⟨w3.heap.size, 1, none⟩ = some ((.slice gy hl cy)) := (hc _ _ (by (try simp) <;> omega)).trans (by go_simp)
  have z5_2 : ∀ j, w5.frozen? ⟨w3.heap.size, j, none⟩ = false := fun j => (hf _ _ (by (try simp) <;> omega)).trans (by go_simp)
  clear hc hf hb5 c4_0_0 c4_0_1 c4_0_2 c4_0_3 c4_0_4 c4_0_5 z4_0 c4_1_0 c4_1_1 z4_1 c4_2_0 c4_2_1 z4_2
  go_wp2_with fail
  refine (HSA.out _ _ _ _ _ HX.out HYY.out).mono ?_
  rintro en w6 ⟨rfl, hb6⟩
  have HX := Kp.mk (HX.out.below hb6)
  have HB6 : Kp (Below w.heap.size w w6) := ⟨Below.trans (by repeat (first | refine Below.alloc ?_ (by have := HB5.out.size; (try simp) <;> omega) _ | refine bDrewN ?_ _ | refine Below.drew ?_ | refine Below.setCell ?_ (by have := HB5.out.size; (try simp) <;> omega) _ | exact HB5.out)) (hb6.mono (by have := HB5.out.size; (try simp) <;> omega))⟩
  have hz6_0 : w.heap.size < w6.heap.size := by have := hb6.size; (try simp at this); omega
  have hz6_1 : w2.heap.size < w6.heap.size := by have := hb6.size; (try simp at this); omega
  obtain ⟨hc, hf⟩ := bcell hb6
  have c6_0_0 : w6.cell? ⟨w.heap.size, 0, none⟩ = some (.int .i64 s) := (hc _ _ (by (try simp) <;> omega)).trans (by go_simp)
  have c6_0_1 : w6.cell? ⟨w.heap.size, 1, none⟩ = some ((.slice g1 n c1)) := (hc _ _ (by (try simp) <;> omega)).trans (by go_simp)
  have c6_0_2 : w6.cell? ⟨w.heap.size, 2, none⟩ = some (.int .i64 s) := (hc _ _ (by (try simp) <;> omega)).trans (by go_simp)
  have c6_0_3 : w6.cell? ⟨w.heap.size, 3, none⟩ = some ((.slice g2 n c2)) := (hc _ _ (by (try simp) <;> omega)).trans (by go_simp)
  have c6_0_4 : w6.cell? ⟨w.heap.size, 4, none⟩ = some (.int .i64 s) := (hc _ _ (by (try simp) <;> omega)).trans (by go_simp)
  have c6_0_5 : w6.cell? ⟨w.heap.size, 5, none⟩ = some ((.slice g3 n c3)) := (hc _ _ (by (try simp) <;> omega)).trans (by go_simp)
  have z6_0 : ∀ j, w6.frozen? ⟨w.heap.size, j, none⟩ = false := fun j => (hf _ _ (by (try simp) <;> omega)).trans (by go_simp)
  have c6_1_0 : w6.cell? ⟨w2.heap.size, 0, none⟩ = some (.int .i64 s) := (hc _ _ (by (try simp) <;> omega)).trans (by go_simp)
  have c6_1_1 : w6.cell? ⟨w2.heap.size, 1, none⟩ = some ((.slice gx hl cx)) := (hc _ _ (by (try simp) <;> omega)).trans (by go_simp)
  have z6_1 : ∀ j, w6.frozen? ⟨w2.heap.size, j, none⟩ = false := fun j => (hf _ _ (by (try simp) <;> omega)).trans (by go_simp)
  clear hc hf hb6 c5_0_0 c5_0_1 c5_0_2 c5_0_3 c5_0_4 c5_0_5 z5_0 c5_1_0 c5_1_1 z5_1 c5_2_0 c5_2_1 z5_2
  clear HYY
  go_wp2_with fail
  refine (HWR.out _ HB6.out).mono ?_
  rintro en w7 ⟨rfl, hb7⟩
  have HX := Kp.mk (HX.out.below hb7)
  have HB7 : Kp (Below w.heap.size w w7) := ⟨Below.trans (by repeat (first | refine Below.alloc ?_ (by have := HB6.out.size; (try simp) <;> omega) _ | refine bDrewN ?_ _ | refine Below.drew ?_ | refine Below.setCell ?_ (by have := HB6.out.size; (try simp) <;> omega) _ | exact HB6.out)) (hb7.mono (by have := HB6.out.size; (try simp) <;> omega))⟩
  have hz7_0 : w.heap.size < w7.heap.size := by have := hb7.size; (try simp at this); omega
  have hz7_1 : w2.heap.size < w7.heap.size := by have := hb7.size; (try simp at this); omega
  obtain ⟨hc, hf⟩ := bcell hb7
  have c7_0_0 : w7.cell? ⟨w.heap.size, 0, none⟩ = some (.int .i64 s) := (hc _ _ (by (try simp) <;> omega)).trans (by go_simp)
  have c7_0_1 : w7.cell? ⟨w.heap.size, 1, none⟩ = some ((.slice g1 n c1)) := (hc _ _ (by (try simp) <;> omega)).trans (by go_simp)
  have c7_0_2 : w7.cell? ⟨w.heap.size, 2, none⟩ = some (.int .i64 s) := (hc _ _ (by (try simp) <;> omega)).trans (by go_simp)
  have c7_0_3 : w7.cell? ⟨w.heap.size, 3, none⟩ = some ((.slice g2 n c2)) := (hc _ _ (by (try simp) <;> omega)).trans (by go_simp)
  have c7_0_4 : w7.cell? ⟨w.heap.size, 4, none⟩ = some (.int .i64 s) := (hc _ _ (by (try simp) <;> omega)).trans (by go_simp)
  have c7_0_5 : w7.cell? ⟨w.heap.size, 5, none⟩ = some ((.slice g3 n c3)) := (hc _ _ (by (try simp) <;> omega)).trans (by go_simp)
  have z7_0 : ∀ j, w7.frozen? ⟨w.heap.size, j, none⟩ = false := fun j => (hf _ _ (by (try simp) <;> omega)).trans (by go_simp)
  have c7_1_0 : w7.cell? ⟨w2.heap.size, 0, none⟩ = some (.int .i64 s) := (hc _ _ (by (try simp) <;> omega)).trans (by go_simp)
  have c7_1_1 : w7.cell? ⟨w2.heap.size, 1, none⟩ = some ((.slice gx hl cx)) := (hc _ _ (by (try simp) <;> omega)).trans (by go_simp)
  have z7_1 : ∀ j, w7.frozen? ⟨w2.heap.size, j, none⟩ = false := fun j => (hf _ _ (by (try simp) <;> omega)).trans (by go_simp)
  clear hc hf hb7 c6_0_0 c6_0_1 c6_0_2 c6_0_3 c6_0_4 c6_0_5 z6_0 c6_1_0 c6_1_1 z6_1
  go_wp2_with fail
  refine (HRW.out _ HB7.out).mono ?_
  rintro en w8 ⟨rfl, hb8⟩
  have HX := Kp.mk (HX.out.below hb8)
  have HB8 : Kp (Below w.heap.size w w8) := ⟨Below.trans (by repeat (first | refine Below.alloc ?_ (by have := HB7.out.size; (try simp) <;> omega) _ | refine bDrewN ?_ _ | refine Below.drew ?_ | refine Below.setCell ?_ (by have := HB7.out.size; (try simp) <;> omega) _ | exact HB7.out)) (hb8.mono (by have := HB7.out.size; (try simp) <;> omega))⟩
  have hz8_0 : w.heap.size < w8.heap.size := by have := hb8.size; (try simp at this); omega
  have hz8_1 : w2.heap.size < w8.heap.size := by have := hb8.size; (try simp at this); omega
  obtain ⟨hc, hf⟩ := bcell hb8
  have c8_0_0 : w8.cell? ⟨w.heap.size, 0, none⟩ = some (.int .i64 s) := (hc _ _ (by (try simp) <;> omega)).trans (by go_simp)
  have c8_0_1 : w8.cell? ⟨w.heap.size, 1, none⟩ = some ((.slice g1 n c1)) := (hc _ _ (by (try simp) <;> omega)).trans (by go_simp)
  have c8_0_2 : w8.cell? ⟨w.heap.size, 2, none⟩ = some (.int .i64 s) := (hc _ _ (by (try simp) <;> omega)).trans (by go_simp)
  have c8_0_3 : w8.cell? ⟨w.heap.size, 3, none⟩ = some ((.slice g2 n c2)) := (hc _ _ (by (try simp) <;> omega)).trans (by go_simp)
  have c8_0_4 : w8.cell? ⟨w.heap.size, 4, none⟩ = some (.int .i64 s) := (hc _ _ (by (try simp) <;> omega)).trans (by go_simp)
  have c8_0_5 : w8.cell? ⟨w.heap.size, 5, none⟩ = some ((.slice g3 n c3)) := (hc _ _ (by (try simp) <;> omega)).trans (by go_simp)
  have z8_0 : ∀ j, w8.frozen? ⟨w.heap.size, j, none⟩ = false := fun j => (hf _ _ (by (try simp) <;> omega)).trans (by go_simp)
  have c8_1_0 : w8.cell? ⟨w2.heap.size, 0, none⟩ = some (.int .i64 s) := (hc _ _ (by (try simp) <;> omega)).trans (by go_simp)
  have c8_1_1 : w8.cell? ⟨w2.heap.size, 1, none⟩ = some ((.slice gx hl cx)) := (hc _ _ (by (try simp) <;> omega)).trans (by go_simp)
  have z8_1 : ∀ j, w8.frozen? ⟨w2.heap.size, j, none⟩ = false := fun j => (hf _ _ (by (try simp) <;> omega)).trans (by go_simp)
  clear hc hf hb8 c7_0_0 c7_0_1 c7_0_2 c7_0_3 c7_0_4 c7_0_5 z7_0 c7_1_0 c7_1_1 z7_1
  go_wp2_with fail
  refine (HV0.out _ _ _ HX.out).mono ?_
  rintro en w9 ⟨ga, ca, rfl, ha, hb9⟩
  have HA := Kp.mk ha
  have HX := Kp.mk (HX.out.below hb9)
  clear ha
  have HB9 : Kp (Below w.heap.size w w9) := ⟨Below.trans (by repeat (first | refine Below.alloc ?_ (by have := HB8.out.size; (try simp) <;> omega) _ | refine bDrewN ?_ _ | refine Below.drew ?_ | refine Below.setCell ?_ (by have := HB8.out.size; (try simp) <;> omega) _ | exact HB8.out)) (hb9.mono (by have := HB8.out.size; (try simp) <;> omega))⟩
  have hz9_0 : w.heap.size < w9.heap.size := by have := hb9.size; (try simp at this); omega
  have hz9_1 : w2.heap.size < w9.heap.size := by have := hb9.size; (try simp at this); omega
  obtain ⟨hc, hf⟩ := bcell hb9
  have c9_0_0 : w9.cell? ⟨w.heap.size, 0, none⟩ = some (.int .i64 s) := (hc _ _ (by (try simp) <;> omega)).trans (by go_simp)
  have c9_0_1 : w9.cell? ⟨w.heap.size, 1, none⟩ = some ((.slice g1 n c1)) := (hc _ _ (by (try simp) <;> omega)).trans (by go_simp)
  have c9_0_2 : w9.cell? ⟨w.heap.size, 2, none⟩ = some (.int .i64 s) := (hc _ _ (by (try simp) <;> omega)).trans (by go_simp)
  have c9_0_3 : w9.cell? ⟨w.heap.size, 3, none⟩ = some ((.slice g2 n c2)) := (hc _ _ (by (try simp) <;> omega)).trans (by go_simp)
  have c9_0_4 : w9.cell? ⟨w.heap.size, 4, none⟩ = some (.int .i64 s) := (hc _ _ (by (try simp) <;> omega)).trans (by go_simp)
  have c9_0_5 : w9.cell? ⟨w.heap.size, 5, none⟩ = some ((.slice g3 n c3)) := (hc _ _ (by (try simp) <;> omega)).trans (by go_simp)
  have z9_0 : ∀ j, w9.frozen? ⟨w.heap.size, j, none⟩ = false := fun j => (hf _ _ (by (try simp) <;> omega)).trans (by go_simp)
  have c9_1_0 : w9.cell? ⟨w2.heap.size, 0, none⟩ = some (.int .i64 s) := (hc _ _ (by (try simp) <;> omega)).trans (by go_simp)
  have c9_1_1 : w9.cell? ⟨w2.heap.size, 1, none⟩ = some ((.slice gx hl cx)) := (hc _ _ (by (try simp) <;> omega)).trans (by go_simp)
  have z9_1 : ∀ j, w9.frozen? ⟨w2.heap.size, j, none⟩ = false := fun j => (hf _ _ (by (try simp) <;> omega)).trans (by go_simp)
  clear hc hf hb9 c8_0_0 c8_0_1 c8_0_2 c8_0_3 c8_0_4 c8_0_5 z8_0 c8_1_0 c8_1_1 z8_1
  go_wp2_with fail
  refine (HV1.out _ _ _ (HX.out.below ((Below.refl _ _).alloc (Nat.le_refl _) _))).mono ?_
  rintro en w10 ⟨gb, cb, rfl, ha, hb10⟩
  have HB := Kp.mk ha
  have HA := Kp.mk ((HA.out.below ((Below.refl _ _).alloc (Nat.le_refl _) _)).below hb10)
  have HX := Kp.mk ((HX.out.below ((Below.refl _ _).alloc (Nat.le_refl _) _)).below hb10)
  clear ha
  have HB10 : Kp (Below w.heap.size w w10) := ⟨Below.trans (by repeat (first | refine Below.alloc ?_ (by have := HB9.out.size; (try simp) <;> omega) _ | refine bDrewN ?_ _ | refine Below.drew ?_ | refine Below.setCell ?_ (by have := HB9.out.size; (try simp) <;> omega) _ | exact HB9.out)) (hb10.mono (by have := HB9.out.size; (try simp) <;> omega))⟩
  have hz10_0 : w.heap.size < w10.heap.size := by have := hb10.size; (try simp at this); omega
  have hz10_1 : w2.heap.size < w10.heap.size := by have := hb10.size; (try simp at this); omega
  have hz10_2 : w9.heap.size < w10.heap.size := by have := hb10.size; (try simp at this); omega
  obtain ⟨hc, hf⟩ := bcell hb10
  have c10_0_0 : w10.cell? ⟨w.heap.size, 0, none⟩ = some (.int .i64 s) := (hc _ _ (by (try simp) <;> omega)).trans (by go_simp)
  have c10_0_1 : w10.cell? ⟨w.heap.size, 1, none⟩ = some ((.slice g1 n c1)) := (hc _ _ (by (try simp) <;> omega)).trans (by go_simp)
  have c10_0_2 : w10.cell? ⟨w.heap.size, 2, none⟩ = some (.int .i64 s) := (hc _ _ (by (try simp) <;> omega)).trans (by go_simp)
  have c10_0_3 : w10.cell? ⟨w.heap.size, 3, none⟩ = some ((.slice g2 n c2)) := (hc _ _ (by (try simp) <;> omega)).trans (by go_simp)
  have c10_0_4 : w10.cell? ⟨w.heap.size, 4, none⟩ = some (.int .i64 s) := (hc _ _ (by (try simp) <;> omega)).trans (by go_simp)
  have c10_0_5 : w10.cell? ⟨w.heap.size, 5, none⟩ = some ((.slice g3 n c3)) := (hc _ _ (by (try simp) <;> omega)).trans (by go_simp)
  have z10_0 : ∀ j, w10.frozen? ⟨w.heap.size, j, none⟩ = false := fun j => (hf _ _ (by (try simp) <;> omega)).trans (by go_simp)
  have c10_1_0 : w10.cell? ⟨w2.heap.size, 0, none⟩ = some (.int .i64 s) := (hc _ _ (by (try simp) <;> omega)).trans (by go_simp)
  have c10_1_1 : w10.cell? ⟨w2.heap.size, 1, none⟩ = some ((.slice gx hl cx)) := (hc _ _ (by (try simp) <;> omega)).trans (by go_simp)
  have z10_1 : ∀ j, w10.frozen? ⟨w2.heap.size, j, none⟩ = false := fun j => (hf _ _ (by (try simp) <;> omega)).trans (by go_simp)
  have c10_2_0 : w10.cell? ⟨w9.heap.size, 0, none⟩ = some (.int .i64 s) := (hc _ _ (by (try simp) <;> omega)).trans (by go_simp)
  have c10_2_1 : w10.cell? ⟨w9.heap.size, 1, none⟩ = some ((.slice ga n ca)) := (hc _ _ (by (try simp) <;> omega)).trans (by go_simp)
  have z10_2 : ∀ j, w10.frozen? ⟨w9.heap.size, j, none⟩ = false := fun j => (hf _ _ (by (try simp) <;> omega)).trans (by go_simp)
  clear hc hf hb10 c9_0_0 c9_0_1 c9_0_2 c9_0_3 c9_0_4 c9_0_5 z9_0 c9_1_0 c9_1_1 z9_1
  go_wp2_with fail
  refine (HV2.out _ _ _ (HX.out.below ((Below.refl _ _).alloc (Nat.le_refl _) _))).mono ?_
  rintro en w11 ⟨gc, cc, rfl, ha, hb11⟩
  have HC := Kp.mk ha
  have HA := Kp.mk ((HA.out.below ((Below.refl _ _).alloc (Nat.le_refl _) _)).below hb11)
  have HB := Kp.mk ((HB.out.below ((Below.refl _ _).alloc (Nat.le_refl _) _)).below hb11)
  clear ha
  have HB11 : Kp (Below w.heap.size w w11) := ⟨Below.trans (by repeat (first | refine Below.alloc ?_ (by have := HB10.out.size; (try simp) <;> omega) _ | refine bDrewN ?_ _ | refine Below.drew ?_ | refine Below.setCell ?_ (by have := HB10.out.size; (try simp) <;> omega) _ | exact HB10.out)) (hb11.mono (by have := HB10.out.size; (try simp) <;> omega))⟩
  have hz11_0 : w.heap.size < w11.heap.size := by have := hb11.size; (try simp at this); omega
  have hz11_1 : w9.heap.size < w11.heap.size := by have := hb11.size; (try simp at this); omega
  have hz11_2 : w10.heap.size < w11.heap.size := by have := hb11.size; (try simp at this); omega
  obtain ⟨hc, hf⟩ := bcell hb11
  have c11_0_0 : w11.cell? ⟨w.heap.size, 0, none⟩ = some (.int .i64 s) := (hc _ _ (by (try simp) <;> omega)).trans (by go_simp)
  have c11_0_1 : w11.cell? ⟨w.heap.size, 1, none⟩ = some ((.slice g1 n c1)) := (hc _ _ (by (try simp) <;> omega)).trans (by go_simp)
  have c11_0_2 : w11.cell? ⟨w.heap.size, 2, none⟩ = some (.int .i64 s) := (hc _ _ (by (try simp) <;> omega)).trans (by go_simp)
  have c11_0_3 : w11.cell? ⟨w.heap.size, 3, none⟩ = some ((.slice g2 n c2)) := (hc _ _ (by (try simp) <;> omega)).trans (by go_simp)
  have c11_0_4 : w11.cell? ⟨w.heap.size, 4, none⟩ = some (.int .i64 s) := (hc _ _ (by (try simp) <;> omega)).trans (by go_simp)
  have c11_0_5 : w11.cell? ⟨w.heap.size, 5, none⟩ = some ((.slice g3 n c3)) := (hc _ _ (by (try simp) <;> omega)).trans (by go_simp)
  have z11_0 : ∀ j, w11.frozen? ⟨w.heap.size, j, none⟩ = false := fun j => (hf _ _ (by (try simp) <;> omega)).trans (by go_simp)
  have c11_1_0 : w11.cell? ⟨w9.heap.size, 0, none⟩ = some (.int .i64 s) := (hc _ _ (by (try simp) <;> omega)).trans (by go_simp)
  have c11_1_1 : w11.cell? ⟨w9.heap.size, 1, none⟩ = some ((.slice ga n ca)) := (hc _ _ (by (try simp) <;> omega)).trans (by go_simp)
  have z11_1 : ∀ j, w11.frozen? ⟨w9.heap.size, j, none⟩ = false := fun j => (hf _ _ (by (try simp) <;> omega)).trans (by go_simp)
  have c11_2_0 : w11.cell? ⟨w10.heap.size, 0, none⟩ = some (.int .i64 s) := (hc _ _ (by (try simp) <;> omega)).trans (by go_simp)
  have c11_2_1 : w11.cell? ⟨w10.heap.size, 1, none⟩ = some ((.slice gb n cb)) := (hc _ _ (by (try simp) <;> omega)).trans (by go_simp)
  have z11_2 : ∀ j, w11.frozen? ⟨w10.heap.size, j, none⟩ = false := fun j => (hf _ _ (by (try simp) <;> omega)).trans (by go_simp)
  clear hc hf hb11 c10_0_0 c10_0_1 c10_0_2 c10_0_3 c10_0_4 c10_0_5 z10_0 c10_1_0 c10_1_1 z10_1 c10_2_0 c10_2_1 z10_2
  go_wp2_with fail
  refine (HS0.out _ _ _ (HB11.out.alloc HB11.out.size _) (HA.out.below ((Below.refl _ _).alloc (Nat.le_refl _) _))).mono ?_
  rintro en w12 ⟨rfl, hb12⟩
  have HB := Kp.mk ((HB.out.below ((Below.refl _ _).alloc (Nat.le_refl _) _)).below hb12)
  have HC := Kp.mk ((HC.out.below ((Below.refl _ _).alloc (Nat.le_refl _) _)).below hb12)
  have HB12 : Kp (Below w.heap.size w w12) := ⟨Below.trans (by repeat (first | refine Below.alloc ?_ (by have := HB11.out.size; (try simp) <;> omega) _ | refine bDrewN ?_ _ | refine Below.drew ?_ | refine Below.setCell ?_ (by have := HB11.out.size; (try simp) <;> omega) _ | exact HB11.out)) (hb12.mono (by have := HB11.out.size; (try simp) <;> omega))⟩
  have hz12_0 : w.heap.size < w12.heap.size := by have := hb12.size; (try simp at this); omega
  have hz12_1 : w10.heap.size < w12.heap.size := by have := hb12.size; (try simp at this); omega
  have hz12_2 : w11.heap.size < w12.heap.size := by have := hb12.size; (try simp at this); omega
  obtain ⟨hc, hf⟩ := bcell hb12
  have c12_0_0 : w12.cell? ⟨w.heap.size, 0, none⟩ = some (.int .i64 s) := (hc _ _ (by (try simp) <;> omega)).trans (by go_simp)
  have c12_0_1 : w12.cell? ⟨w.heap.size, 1, none⟩ = some ((.slice g1 n c1)) := (hc _ _ (by (try simp) <;> omega)).trans (by go_simp)
  have c12_0_2 : w12.cell? ⟨w.heap.size, 2, none⟩ = some (.int .i64 s) := (hc _ _ (by (try simp) <;> omega)).trans (by go_simp)
  have c12_0_3 : w12.cell? ⟨w.heap.size, 3, none⟩ = some ((.slice g2 n c2)) := (hc _ _ (by (try simp) <;> omega)).trans (by go_simp)
  have c12_0_4 : w12.cell? ⟨w.heap.size, 4, none⟩ = some (.int .i64 s) := (hc _ _ (by (try simp) <;> omega)).trans (by go_simp)
  have c12_0_5 : w12.cell? ⟨w.heap.size, 5, none⟩ = some ((.slice g3 n c3)) := (hc _ _ (by (try simp) <;> omega)).trans (by go_simp)
  have z12_0 : ∀ j, w12.frozen? ⟨w.heap.size, j, none⟩ = false := fun j => (hf _ _ (by (try simp) <;> omega)).trans (by go_simp)
  have c12_1_0 : w12.cell? ⟨w10.heap.size, 0, none⟩ = some (.int .i64 s) := (hc _ _ (by (try simp) <;> omega)).trans (by go_simp)
  have c12_1_1 : w12.cell? ⟨w10.heap.size, 1, none⟩ = some ((.slice gb n cb)) := (hc _ _ (by (try simp) <;> omega)).trans (by go_simp)
  have z12_1 : ∀ j, w12.frozen? ⟨w10.heap.size, j, none⟩ = false := fun j => (hf _ _ (by (try simp) <;> omega)).trans (by go_simp)
  have c12_2_0 : w12.cell? ⟨w11.heap.size, 0, none⟩ = some (.int .i64 s) := (hc _ _ (by (try simp) <;> omega)).trans (by go_simp)
  have c12_2_1 : w12.cell? ⟨w11.heap.size, 1, none⟩ = some ((.slice gc n cc)) := (hc _ _ (by (try simp) <;> omega)).trans (by go_simp)
  have z12_2 : ∀ j, w12.frozen? ⟨w11.heap.size, j, none⟩ = false := fun j => (hf _ _ (by (try simp) <;> omega)).trans (by go_simp)
  clear hc hf hb12 c11_0_0 c11_0_1 c11_0_2 c11_0_3 c11_0_4 c11_0_5 z11_0 c11_1_0 c11_1_1 z11_1 c11_2_0 c11_2_1 z11_2
  go_wp2_with fail
  refine (awake_any _).mono ?_
  rintro en wz ⟨rfl, hbz⟩
  have HBZ : Kp (Below w.heap.size w wz) := ⟨(HB12.out).trans (hbz.mono (HB12.out).size)⟩
  clear hbz
  go_wp2
  go_ret
  exact ⟨rfl, HBZ.out⟩
set_option maxRecDepth 100000 in
set_option maxHeartbeats 4000000 in
theorem hl_1 (s r1 r2 r3 r4 : Int) (g1 g2 g3 : Option Addr) (n c1 c2 c3 hl : Nat) (L V0 V1 V2 : List Bool) (w : World) (hr : (r4 == 8) = false) (H3 : Kp (∀ W, Calls Try.prog 36 #[.agg #[.int .i64 s, .slice g1 n c1, .int .i64 s, .slice g2 n c2, .int .i64 s, .slice g3 n c3]] W fun e w' => e = .returned (.bool true) ∧ Below W.heap.size W w')) (HHU : Kp (∀ W, Below w.heap.size w W → Calls Try.prog 37 #[.agg #[.int .i64 s, .slice g1 n c1], .agg #[.int .i64 s, .slice g2 n c2], .agg #[.int .i64 s, .slice g3 n c3]] W fun e w' => ∃ g c, e = .returned (.tuple #[.agg #[.int .i64 s, .slice g hl c], .int .i64 0]) ∧ LB w' (.slice g hl c) L ∧ Below W.heap.size W w')) (HRH : Kp (∀ W, Below w.heap.size w W → Calls Try.prog 38 #[.agg #[.int .i64 s, .slice g1 n c1], .agg #[.int .i64 s, .slice g2 n c2], .agg #[.int .i64 s, .slice g3 n c3]] W fun e w' => ∃ g c, e = .returned (.tuple #[.agg #[.int .i64 s, .slice g hl c], .int .i64 0]) ∧ LB w' (.slice g hl c) L ∧ Below W.heap.size W w')) (HPO : Kp (∀ W, Below w.heap.size w W → Calls Try.prog 39 #[.agg #[.int .i64 s, .slice g1 n c1], .agg #[.int .i64 s, .slice g2 n c2], .agg #[.int .i64 s, .slice g3 n c3]] W fun e w' => e = .returned (.tuple #[.bool false, .int .i64 0]) ∧ Below W.heap.size W w')) (HRP : Kp (∀ W, Below w.heap.size w W → Calls Try.prog 40 #[.agg #[.int .i64 s, .slice g1 n c1], .agg #[.int .i64 s, .slice g2 n c2], .agg #[.int .i64 s, .slice g3 n c3]] W fun e w' => e = .returned (.tuple #[.bool false, .int .i64 0]) ∧ Below W.heap.size W w')) (HSA : Kp (∀ W g g' c c', LB W (.slice g hl c) L → LB W (.slice g' hl c') L → Calls Try.prog 25 #[.agg #[.int .i64 s, .slice g hl c], .agg #[.int .i64 s, .slice g' hl c']] W fun e w' => e = .returned (.bool true) ∧ Below W.heap.size W w')) (HWR : Kp (∀ W, Below w.heap.size w W → Calls Try.prog 41 #[.agg #[.int .i64 s, .slice g1 n c1], .agg #[.int .i64 s, .slice g2 n c2], .agg #[.int .i64 s, .slice g3 n c3]] W fun e w' => e = .returned (.tuple #[.int .i64 r1, .int .i64 r2, .int .i64 r3, .int .i64 r4]) ∧ Below W.heap.size W w')) (HRW : Kp (∀ W, Below w.heap.size w W → Calls Try.prog 42 #[.agg #[.int .i64 s, .slice g1 n c1], .agg #[.int .i64 s, .slice g2 n c2], .agg #[.int .i64 s, .slice g3 n c3]] W fun e w' => e = .returned (.tuple #[.int .i64 r1, .int .i64 r2, .int .i64 r3, .int .i64 r4]) ∧ Below W.heap.size W w')) (HV0 : Kp (∀ W g c, LB W (.slice g hl c) L → Calls Try.prog 28 #[.agg #[.int .i64 s, .slice g hl c], .int .i64 0] W fun e w' => ∃ g' c', e = .returned (.tuple #[.agg #[.int .i64 s, .slice g' n c'], .int .i64 0]) ∧ LB w' (.slice g' n c') V0 ∧ Below W.heap.size W w')) (HV1 : Kp (∀ W g c, LB W (.slice g hl c) L → Calls Try.prog 28 #[.agg #[.int .i64 s, .slice g hl c], .int .i64 1] W fun e w' => ∃ g' c', e = .returned (.tuple #[.agg #[.int .i64 s, .slice g' n c'], .int .i64 0]) ∧ LB w' (.slice g' n c') V1 ∧ Below W.heap.size W w')) (HV2 : Kp (∀ W g c, LB W (.slice g hl c) L → Calls Try.prog 28 #[.agg #[.int .i64 s, .slice g hl c], .int .i64 2] W fun e w' => ∃ g' c', e = .returned (.tuple #[.agg #[.int .i64 s, .slice g' n c'], .int .i64 0]) ∧ LB w' (.slice g' n c') V2 ∧ Below W.heap.size W w')) (HS0 : Kp (∀ W g c, Below w.heap.size w W → LB W (.slice g n c) V0 → Calls Try.prog 31 #[.agg #[.int .i64 s, .slice g n c], .agg #[.int .i64 s, .slice g1 n c1]] W fun e w' => e = .returned (.bool true) ∧ Below W.heap.size W w')) (HS1 : Kp (∀ W g c, Below w.heap.size w W → LB W (.slice g n c) V1 → Calls Try.prog 31 #[.agg #[.int .i64 s, .slice g n c], .agg #[.int .i64 s, .slice g2 n c2]] W fun e w' => e = .returned (.bool false) ∧ Below W.heap.size W w')) :
    Calls Try.prog 5 #[.agg #[.int .i64 s, .slice g1 n c1, .int .i64 s, .slice g2 n c2, .int .i64 s, .slice g3 n c3]] w (EndsH w) := by
  have t1 : (r1 != r1) = false := by simp
  have t2 : (r2 != r2) = false := by simp
  have t3 : (r3 != r3) = false := by simp
  have t4 : (r4 != r4) = false := by simp
  go_enter Try.func5, Try.ntmps5
  go_wp2_with fail
  refine (H3.out _).mono ?_
  rintro en w1 ⟨rfl, hb1⟩
  have HB1 : Kp (Below w.heap.size w w1) := ⟨Below.trans (by repeat (first | refine Below.alloc ?_ (by (try simp) <;> omega) _ | refine bDrewN ?_ _ | refine Below.drew ?_ | refine Below.setCell ?_ (by (try simp) <;> omega) _ | exact Below.refl _ _)) (hb1.mono (by (try simp) <;> omega))⟩
  have hz1_0 : w.heap.size < w1.heap.size := by have := hb1.size; (try simp at this); omega
  obtain ⟨hc, hf⟩ := bcell hb1
  have c1_0_0 : w1.cell? ⟨w.heap.size, 0, none⟩ = some (.int .i64 s) := (hc _ _ (by (try simp) <;> omega)).trans (by go_simp)
  have c1_0_1 : w1.cell? ⟨w.heap.size, 1, none⟩ = some ((.slice g1 n c1)) := (hc _ _ (by (try simp) <;> omega)).trans (by go_simp)
  have c1_0_2 : w1.cell? ⟨w.heap.size, 2, none⟩ = some (.int .i64 s) := (hc _ _ (by (try simp) <;> omega)).trans (by go_simp)
  have c1_0_3 : w1.cell? ⟨w.heap.size, 3, none⟩ = some ((.slice g2 n c2)) := (hc _ _ (by (try simp) <;> omega)).trans (by go_simp)
  have c1_0_4 : w1.cell? ⟨w.heap.size, 4, none⟩ = some (.int .i64 s) := (hc _ _ (by (try simp) <;> omega)).trans (by go_simp)
  have c1_0_5 : w1.cell? ⟨w.heap.size, 5, none⟩ = some ((.slice g3 n c3)) := (hc _ _ (by (try simp) <;> omega)).trans (by go_simp)
  have z1_0 : ∀ j, w1.frozen? ⟨w.heap.size, j, none⟩ = false := fun j => (hf _ _ (by (try simp) <;> omega)).trans (by go_simp)
  clear hc hf hb1
  go_wp2_with fail
  refine (HHU.out _ HB1.out).mono ?_
  rintro en w2 ⟨gx, cx, rfl, hx, hb2⟩
  have HX := Kp.mk hx
  clear hx
  have HB2 : Kp (Below w.heap.size w w2) := ⟨Below.trans (by repeat (first | refine Below.alloc ?_ (by have := HB1.out.size; (try simp) <;> omega) _ | refine bDrewN ?_ _ | refine Below.drew ?_ | refine Below.setCell ?_ (by have := HB1.out.size; (try simp) <;> omega) _ | exact HB1.out)) (hb2.mono (by have := HB1.out.size; (try simp) <;> omega))⟩
  have hz2_0 : w.heap.size < w2.heap.size := by have := hb2.size; (try simp at this); omega
  obtain ⟨hc, hf⟩ := bcell hb2
  have c2_0_0 : w2.cell? ⟨w.heap.size, 0, none⟩ = some (.int .i64 s) := (hc _ _ (by (try simp) <;> omega)).trans (by go_simp)
  have c2_0_1 : w2.cell? ⟨w.heap.size, 1, none⟩ = some ((.slice g1 n c1)) := (hc _ _ (by (try simp) <;> omega)).trans (by go_simp)
  have c2_0_2 : w2.cell? ⟨w.heap.size, 2, none⟩ = some (.int .i64 s) := (hc _ _ (by (try simp) <;> omega)).trans (by go_simp)
  have c2_0_3 : w2.cell? ⟨w.heap.size, 3, none⟩ = some ((.slice g2 n c2)) := (hc _ _ (by (try simp) <;> omega)).trans (by go_simp)
  have c2_0_4 : w2.cell? ⟨w.heap.size, 4, none⟩ = some (.int .i64 s) := (hc _ _ (by (try simp) <;> omega)).trans (by go_simp)
  have c2_0_5 : w2.cell? ⟨w.heap.size, 5, none⟩ = some ((.slice g3 n c3)) := (hc _ _ (by (try simp) <;> omega)).trans (by go_simp)
  have z2_0 : ∀ j, w2.frozen? ⟨w.heap.size, j, none⟩ = false := fun j => (hf _ _ (by (try simp) <;> omega)).trans (by go_simp)
  clear hc hf hb2 c1_0_0 c1_0_1 c1_0_2 c1_0_3 c1_0_4 c1_0_5 z1_0
  go_wp2_with fail
  refine (HRH.out _ (HB2.out.alloc HB2.out.size _)).mono ?_
  rintro en w3 ⟨gy, cy, rfl, hy, hb3⟩
  have HYY := Kp.mk hy
  have HX := Kp.mk ((HX.out.below ((Below.refl _ _).alloc (Nat.le_refl _) _)).below hb3)
  clear hy
  have HB3 : Kp (Below w.heap.size w w3) := ⟨Below.trans (by repeat (first | refine Below.alloc ?_ (by have := HB2.out.size; (try simp) <;> omega) _ | refine bDrewN ?_ _ | refine Below.drew ?_ | refine Below.setCell ?_ (by have := HB2.out.size; (try simp) <;> omega) _ | exact HB2.out)) (hb3.mono (by have := HB2.out.size; (try simp) <;> omega))⟩
  have hz3_0 : w.heap.size < w3.heap.size := by have := hb3.size; (try simp at this); omega
  have hz3_1 : w2.heap.size < w3.heap.size := by have := hb3.size; (try simp at this); omega
  obtain ⟨hc, hf⟩ := bcell hb3
  have c3_0_0 : w3.cell? ⟨w.heap.size, 0, none⟩ = some (.int .i64 s) := (hc _ _ (by (try simp) <;> omega)).trans (by go_simp)
  have c3_0_1 : w3.cell? ⟨w.heap.size, 1, none⟩ = some ((.slice g1 n c1)) := (hc _ _ (by (try simp) <;> omega)).trans (by go_simp)
  have c3_0_2 : w3.cell? ⟨w.heap.size, 2, none⟩ = some (.int .i64 s) := (hc _ _ (by (try simp) <;> omega)).trans (by go_simp)
  have c3_0_3 : w3.cell? ⟨w.heap.size, 3, none⟩ = some ((.slice g2 n c2)) := (hc _ _ (by (try simp) <;> omega)).trans (by go_simp)
  have c3_0_4 : w3.cell? ⟨w.heap.size, 4, none⟩ = some (.int .i64 s) := (hc _ _ (by (try simp) <;> omega)).trans (by go_simp)
  have c3_0_5 : w3.cell? ⟨w.heap.size, 5, none⟩ = some ((.slice g3 n c3)) := (hc _ _ (by (try simp) <;> omega)).trans (by go_simp)
  have z3_0 : ∀ j, w3.frozen? ⟨w.heap.size, j, none⟩ = false := fun j => (hf _ _ (by (try simp) <;> omega)).trans (by go_simp)
  have c3_1_0 : w3.cell? ⟨w2.heap.size, 0, none⟩ = some (.int .i64 s) := (hc _ _ (by (try simp) <;> omega)).trans (by go_simp)
  have c3_1_1 : w3.cell? ⟨w2.heap.size, 1, none⟩ = some ((.slice gx hl cx)) := (hc _ _ (by (try simp) <;> omega)).trans (by go_simp)
  have z3_1 : ∀ j, w3.frozen? ⟨w2.heap.size, j, none⟩ = false := fun j => (hf _ _ (by (try simp) <;> omega)).trans (by go_simp)
  clear hc hf hb3 c2_0_0 c2_0_1 c2_0_2 c2_0_3 c2_0_4 c2_0_5 z2_0
  go_wp2_with fail
  refine (HPO.out _ (HB3.out.alloc HB3.out.size _)).mono ?_
  rintro en w4 ⟨rfl, hb4⟩
  have HX := Kp.mk ((HX.out.below ((Below.refl _ _).alloc (Nat.le_refl _) _)).below hb4)
  have HYY := Kp.mk ((HYY.out.below ((Below.refl _ _).alloc (Nat.le_refl _) _)).below hb4)
  have HB4 : Kp (Below w.heap.size w w4) := ⟨Below.trans (by repeat (first | refine Below.alloc ?_ (by have := HB3.out.size; (try simp) <;> omega) _ | refine bDrewN ?_ _ | refine Below.drew ?_ | refine Below.setCell ?_ (by have := HB3.out.size; (try simp) <;> omega) _ | exact HB3.out)) (hb4.mono (by have := HB3.out.size; (try simp) <;> omega))⟩
  have hz4_0 : w.heap.size < w4.heap.size := by have := hb4.size; (try simp at this); omega
  have hz4_1 : w2.heap.size < w4.heap.size := by have := hb4.size; (try simp at this); omega
  have hz4_2 : w3.heap.size < w4.heap.size := by have := hb4.size; (try simp at this); omega
  obtain ⟨hc, hf⟩ := bcell hb4
  have c4_0_0 : w4.cell? ⟨w.heap.size, 0, none⟩ = some (.int .i64 s) := (hc _ _ (by (try simp) <;> omega)).trans (by go_simp)
  have c4_0_1 : w4.cell? ⟨w.heap.size, 1, none⟩ = some ((.slice g1 n c1)) := (hc _ _ (by (try simp) <;> omega)).trans (by go_simp)
  have c4_0_2 : w4.cell? ⟨w.heap.size, 2, none⟩ = some (.int .i64 s) := (hc _ _ (by (try simp) <;> omega)).trans (by go_simp)
  have c4_0_3 : w4.cell? ⟨w.heap.size, 3, none⟩ = some ((.slice g2 n c2)) := (hc _ _ (by (try simp) <;> omega)).trans (by go_simp)
  have c4_0_4 : w4.cell? ⟨w.heap.size, 4, none⟩ = some (.int .i64 s) := (hc _ _ (by (try simp) <;> omega)).trans (by go_simp)
  have c4_0_5 : w4.cell? ⟨w.heap.size, 5, none⟩ = some ((.slice g3 n c3)) := (hc _ _ (by (try simp) <;> omega)).trans (by go_simp)
  have z4_0 : ∀ j, w4.frozen? ⟨w.heap.size, j, none⟩ = false := fun j => (hf _ _ (by (try simp) <;> omega)).trans (by go_simp)
  have c4_1_0 : w4.cell? ⟨w2.heap.size, 0, none⟩ = some (.int .i64 s) := (hc _ _ (by (try simp) <;> omega)).trans (by go_simp)
  have c4_1_1 : w4.cell? ⟨w2.heap.size, 1, none⟩ = some ((.slice gx hl cx)) := (hc _ _ (by (try simp) <;> omega)).trans (by go_simp)
  have z4_1 : ∀ j, w4.frozen? ⟨w2.heap.size, j, none⟩ = false := fun j => (hf _ _ (by (try simp) <;> omega)).trans (by go_simp)
  have c4_2_0 : w4.cell? ⟨w3.heap.size, 0, none⟩ = some (.int .i64 s) := (hc _ _ (by (try simp) <;> omega)).trans (by go_simp)
  have c4_2_1 : w4.cell? ⟨w3.heap.size, 1, none⟩ = some ((.slice gy hl cy)) := (hc _ _ (by (try simp) <;> omega)).trans (by go_simp)
  have z4_2 : ∀ j, w4.frozen? ⟨w3.heap.size, j, none⟩ = false := fun j => (hf _ _ (by (try simp) <;> omega)).trans (by go_simp)
  clear hc hf hb4 c3_0_0 c3_0_1 c3_0_2 c3_0_3 c3_0_4 c3_0_5 z3_0 c3_1_0 c3_1_1 z3_1
  go_wp2_with fail
  refine (HRP.out _ HB4.out).mono ?_
  rintro en w5 ⟨rfl, hb5⟩
  have HX := Kp.mk (HX.out.below hb5)
  have HYY := Kp.mk (HYY.out.below hb5)
  have HB5 : Kp (Below w.heap.size w w5) := ⟨Below.trans (by repeat (first | refine Below.alloc ?_ (by have := HB4.out.size; (try simp) <;> omega) _ | refine bDrewN ?_ _ | refine Below.drew ?_ | refine Below.setCell ?_ (by have := HB4.out.size; (try simp) <;> omega) _ | exact HB4.out)) (hb5.mono (by have := HB4.out.size; (try simp) <;> omega))⟩
  have hz5_0 : w.heap.size < w5.heap.size := by have := hb5.size; (try simp at this); omega
  have hz5_1 : w2.heap.size < w5.heap.size := by have := hb5.size; (try simp at this); omega
  have hz5_2 : w3.heap.size < w5.heap.size := by have := hb5.size; (try simp at this); omega
  obtain ⟨hc, hf⟩ := bcell hb5
  have c5_0_0 : w5.cell? ⟨w.heap.size, 0, none⟩ = some (.int .i64 s) := (hc _ _ (by (try simp) <;> omega)).trans (by go_simp)
  have c5_0_1 : w5.cell? ⟨w.heap.size, 1, none⟩ = some ((.slice g1 n c1)) := (hc _ _ (by (try simp) <;> omega)).trans (by go_simp)
  have c5_0_2 : w5.cell? ⟨w.heap.size, 2, none⟩ = some (.int .i64 s) := (hc _ _ (by (try simp) <;> omega)).trans (by go_simp)
  have c5_0_3 : w5.cell? ⟨w.heap.size, 3, none⟩ = some ((.slice g2 n c2)) := (hc _ _ (by (try simp) <;> omega)).trans (by go_simp)
  have c5_0_4 : w5.cell? ⟨w.heap.size, 4, none⟩ = some (.int .i64 s) := (hc _ _ (by (try simp) <;> omega)).trans (by go_simp)
  have c5_0_5 : w5.cell? ⟨w.heap.size, 5, none⟩ = some ((.slice g3 n c3)) := (hc _ _ (by (try simp) <;> omega)).trans (by go_simp)
  have z5_0 : ∀ j, w5.frozen? ⟨w.heap.size, j, none⟩ = false := fun j => (hf _ _ (by (try simp) <;> omega)).trans (by go_simp)
  have c5_1_0 : w5.cell? ⟨w2.heap.size, 0, none⟩ = some (.int .i64 s) := (hc _ _ (by (try simp) <;> omega)).trans (by go_simp)
  have c5_1_1 : w5.cell? ⟨w2.heap.size, 1, none⟩ = some ((.slice gx hl cx)) := (hc _ _ (by (try simp) <;> omega)).trans (by go_simp)
  have z5_1 : ∀ j, w5.frozen? ⟨w2.heap.size, j, none⟩ = false := fun j => (hf _ _ (by (try simp) <;> omega)).trans (by go_simp)
  have c5_2_0 : w5.cell? ⟨w3.heap.size, 0, none⟩ = some (.int .i64 s) := (hc _ _ (by (try simp) <;> omega)).trans (by go_simp)
  have c5_2_1 : w5.cell? ⟨w3.heap.size, 1, none⟩ = some ((.slice gy hl cy)) := (hc _ _ (by (try simp) <;> omega)).trans (by go_simp)
  have z5_2 : ∀ j, w5.frozen? ⟨w3.heap.size, j, none⟩ = false := fun j => (hf _ _ (by (try simp) <;> omega)).trans (by go_simp)
  clear hc hf hb5 c4_0_0 c4_0_1 c4_0_2 c4_0_3 c4_0_4 c4_0_5 z4_0 c4_1_0 c4_1_1 z4_1 c4_2_0 c4_2_1 z4_2
  go_wp2_with fail
  refine (HSA.out _ _ _ _ _ HX.out HYY.out).mono ?_
  rintro en w6 ⟨rfl, hb6⟩
  have HX := Kp.mk (HX.out.below hb6)
  have HB6 : Kp (Below w.heap.size w w6) := ⟨Below.trans (by repeat (first | refine Below.alloc ?_ (by have := HB5.out.size; (try simp) <;> omega) _ | refine bDrewN ?_ _ | refine Below.drew ?_ | refine Below.setCell ?_ (by have := HB5.out.size; (try simp) <;> omega) _ | exact HB5.out)) (hb6.mono (by have := HB5.out.size; (try simp) <;> omega))⟩
  have hz6_0 : w.heap.size < w6.heap.size := by have := hb6.size; (try simp at this); omega
  have hz6_1 : w2.heap.size < w6.heap.size := by have := hb6.size; (try simp at this); omega
  obtain ⟨hc, hf⟩ := bcell hb6
  have c6_0_0 : w6.cell? ⟨w.heap.size, 0, none⟩ = some (.int .i64 s) := (hc _ _ (by (try simp) <;> omega)).trans (by go_simp)
  have c6_0_1 : w6.cell? ⟨w.heap.size, 1, none⟩ = some ((.slice g1 n c1)) := (hc _ _ (by (try simp) <;> omega)).trans (by go_simp)
  have c6_0_2 : w6.cell? ⟨w.heap.size, 2, none⟩ = some (.int .i64 s) := (hc _ _ (by (try simp) <;> omega)).trans (by go_simp)
  have c6_0_3 : w6.cell? ⟨w.heap.size, 3, none⟩ = some ((.slice g2 n c2)) := (hc _ _ (by (try simp) <;> omega)).trans (by go_simp)
  have c6_0_4 : w6.cell? ⟨w.heap.size, 4, none⟩ = some (.int .i64 s) := (hc _ _ (by (try simp) <;> omega)).trans (by go_simp)
  have c6_0_5 : w6.cell? ⟨w.heap.size, 5, none⟩ = some ((.slice g3 n c3)) := (hc _ _ (by (try simp) <;> omega)).trans (by go_simp)
  have z6_0 : ∀ j, w6.frozen? ⟨w.heap.size, j, none⟩ = false := fun j => (hf _ _ (by (try simp) <;> omega)).trans (by go_simp)
  have c6_1_0 : w6.cell? ⟨w2.heap.size, 0, none⟩ = some (.int .i64 s) := (hc _ _ (by (try simp) <;> omega)).trans (by go_simp)
  have c6_1_1 : w6.cell? ⟨w2.heap.size, 1, none⟩ = some ((.slice gx hl cx)) := (hc _ _ (by (try simp) <;> omega)).trans (by go_simp)
  have z6_1 : ∀ j, w6.frozen? ⟨w2.heap.size, j, none⟩ = false := fun j => (hf _ _ (by (try simp) <;> omega)).trans (by go_simp)
  clear hc hf hb6 c5_0_0 c5_0_1 c5_0_2 c5_0_3 c5_0_4 c5_0_5 z5_0 c5_1_0 c5_1_1 z5_1 c5_2_0 c5_2_1 z5_2
  clear HYY
  go_wp2_with fail
  refine (HWR.out _ HB6.out).mono ?_
  rintro en w7 ⟨rfl, hb7⟩
  have HX := Kp.mk (HX.out.below hb7)
  have HB7 : Kp (Below w.heap.size w w7) := ⟨Below.trans (by repeat (first | refine Below.alloc ?_ (by have := HB6.out.size; (try simp) <;> omega) _ | refine bDrewN ?_ _ | refine Below.drew ?_ | refine Below.setCell ?_ (by have := HB6.out.size; (try simp) <;> omega) _ | exact HB6.out)) (hb7.mono (by have := HB6.out.size; (try simp) <;> omega))⟩
  have hz7_0 : w.heap.size < w7.heap.size := by have := hb7.size; (try simp at this); omega
  have hz7_1 : w2.heap.size < w7.heap.size := by have := hb7.size; (try simp at this); omega
  obtain ⟨hc, hf⟩ := bcell hb7
  have c7_0_0 : w7.cell? ⟨w.heap.size, 0, none⟩ = some (.int .i64 s) := (hc _ _ (by (try simp) <;> omega)).trans (by go_simp)
  have c7_0_1 : w7.cell? ⟨w.heap.size, 1, none⟩ = some ((.slice g1 n c1)) := (hc _ _ (by (try simp) <;> omega)).trans (by go_simp)
  have c7_0_2 : w7.cell? ⟨w.heap.size, 2, none⟩ = some (.int .i64 s) := (hc _ _ (by (try simp) <;> omega)).trans (by go_simp)
  have c7_0_3 : w7.cell? ⟨w.heap.size, 3, none⟩ = some ((.slice g2 n c2)) := (hc _ _ (by (try simp) <;> omega)).trans (by go_simp)
  have c7_0_4 : w7.cell? ⟨w.heap.size, 4, none⟩ = some (.int .i64 s) := (hc _ _ (by (try simp) <;> omega)).trans (by go_simp)
  have c7_0_5 : w7.cell? ⟨w.heap.size, 5, none⟩ = some ((.slice g3 n c3)) := (hc _ _ (by (try simp) <;> omega)).trans (by go_simp)
  have z7_0 : ∀ j, w7.frozen? ⟨w.heap.size, j, none⟩ = false := fun j => (hf _ _ (by (try simp) <;> omega)).trans (by go_simp)
  have c7_1_0 : w7.cell? ⟨w2.heap.size, 0, none⟩ = some (.int .i64 s) := (hc _ _ (by (try simp) <;> omega)).trans (by go_simp)
  have c7_1_1 : w7.cell? ⟨w2.heap.size, 1, none⟩ = some ((.slice gx hl cx)) := (hc _ _ (by (try simp) <;> omega)).trans (by go_simp)
  have z7_1 : ∀ j, w7.frozen? ⟨w2.heap.size, j, none⟩ = false := fun j => (hf _ _ (by (try simp) <;> omega)).trans (by go_simp)
  clear hc hf hb7 c6_0_0 c6_0_1 c6_0_2 c6_0_3 c6_0_4 c6_0_5 z6_0 c6_1_0 c6_1_1 z6_1
  go_wp2_with fail
  refine (HRW.out _ HB7.out).mono ?_
  rintro en w8 ⟨rfl, hb8⟩
  have HX := Kp.mk (HX.out.below hb8)
  have HB8 : Kp (Below w.heap.size w w8) := ⟨Below.trans (by repeat (first | refine Below.alloc ?_ (by have := HB7.out.size; (try simp) <;> omega) _ | refine bDrewN ?_ _ | refine Below.drew ?_ | refine Below.setCell ?_ (by have := HB7.out.size; (try simp) <;> omega) _ | exact HB7.out)) (hb8.mono (by have := HB7.out.size; (try simp) <;> omega))⟩
  have hz8_0 : w.heap.size < w8.heap.size := by have := hb8.size; (try simp at this); omega
  have hz8_1 : w2.heap.size < w8.heap.size := by have := hb8.size; (try simp at this); omega
  obtain ⟨hc, hf⟩ := bcell hb8
  have c8_0_0 : w8.cell? ⟨w.heap.size, 0, none⟩ = some (.int .i64 s) := (hc _ _ (by (try simp) <;> omega)).trans (by go_simp)
  have c8_0_1 : w8.cell? ⟨w.heap.size, 1, none⟩ = some ((.slice g1 n c1)) := (hc _ _ (by (try simp) <;> omega)).trans (by go_simp)
  have c8_0_2 : w8.cell? ⟨w.heap.size, 2, none⟩ = some (.int .i64 s) := (hc _ _ (by (try simp) <;> omega)).trans (by go_simp)
  have c8_0_3 : w8.cell? ⟨w.heap.size, 3, none⟩ = some ((.slice g2 n c2)) := (hc _ _ (by (try simp) <;> omega)).trans (by go_simp)
  have c8_0_4 : w8.cell? ⟨w.heap.size, 4, none⟩ = some (.int .i64 s) := (hc _ _ (by (try simp) <;> omega)).trans (by go_simp)
  have c8_0_5 : w8.cell? ⟨w.heap.size, 5, none⟩ = some ((.slice g3 n c3)) := (hc _ _ (by (try simp) <;> omega)).trans (by go_simp)
  have z8_0 : ∀ j, w8.frozen? ⟨w.heap.size, j, none⟩ = false := fun j => (hf _ _ (by (try simp) <;> omega)).trans (by go_simp)
  have c8_1_0 : w8.cell? ⟨w2.heap.size, 0, none⟩ = some (.int .i64 s) := (hc _ _ (by (try simp) <;> omega)).trans (by go_simp)
  have c8_1_1 : w8.cell? ⟨w2.heap.size, 1, none⟩ = some ((.slice gx hl cx)) := (hc _ _ (by (try simp) <;> omega)).trans (by go_simp)
  have z8_1 : ∀ j, w8.frozen? ⟨w2.heap.size, j, none⟩ = false := fun j => (hf _ _ (by (try simp) <;> omega)).trans (by go_simp)
  clear hc hf hb8 c7_0_0 c7_0_1 c7_0_2 c7_0_3 c7_0_4 c7_0_5 z7_0 c7_1_0 c7_1_1 z7_1
  go_wp2_with fail
  refine (HV0.out _ _ _ HX.out).mono ?_
  rintro en w9 ⟨ga, ca, rfl, ha, hb9⟩
  have HA := Kp.mk ha
  have HX := Kp.mk (HX.out.below hb9)
  clear ha
  have HB9 : Kp (Below w.heap.size w w9) := ⟨Below.trans (by repeat (first | refine Below.alloc ?_ (by have := HB8.out.size; (try simp) <;> omega) _ | refine bDrewN ?_ _ | refine Below.drew ?_ | refine Below.setCell ?_ (by have := HB8.out.size; (try simp) <;> omega) _ | exact HB8.out)) (hb9.mono (by have := HB8.out.size; (try simp) <;> omega))⟩
  have hz9_0 : w.heap.size < w9.heap.size := by have := hb9.size; (try simp at this); omega
  have hz9_1 : w2.heap.size < w9.heap.size := by have := hb9.size; (try simp at this); omega
  obtain ⟨hc, hf⟩ := bcell hb9
  have c9_0_0 : w9.cell? ⟨w.heap.size, 0, none⟩ = some (.int .i64 s) := (hc _ _ (by (try simp) <;> omega)).trans (by go_simp)
  have c9_0_1 : w9.cell? ⟨w.heap.size, 1, none⟩ = some ((.slice g1 n c1)) := (hc _ _ (by (try simp) <;> omega)).trans (by go_simp)
  have c9_0_2 : w9.cell? ⟨w.heap.size, 2, none⟩ = some (.int .i64 s) := (hc _ _ (by (try simp) <;> omega)).trans (by go_simp)
  have c9_0_3 : w9.cell? ⟨w.heap.size, 3, none⟩ = some ((.slice g2 n c2)) := (hc _ _ (by (try simp) <;> omega)).trans (by go_simp)
  have c9_0_4 : w9.cell? ⟨w.heap.size, 4, none⟩ = some (.int .i64 s) := (hc _ _ (by (try simp) <;> omega)).trans (by go_simp)
  have c9_0_5 : w9.cell? ⟨w.heap.size, 5, none⟩ = some ((.slice g3 n c3)) := (hc _ _ (by (try simp) <;> omega)).trans (by go_simp)
  have z9_0 : ∀ j, w9.frozen? ⟨w.heap.size, j, none⟩ = false := fun j => (hf _ _ (by (try simp) <;> omega)).trans (by go_simp)
  have c9_1_0 : w9.cell? ⟨w2.heap.size, 0, none⟩ = some (.int .i64 s) := (hc _ _ (by (try simp) <;> omega)).trans (by go_simp)
  have c9_1_1 : w9.cell? ⟨w2.heap.size, 1, none⟩ = some ((.slice gx hl cx)) := (hc _ _ (by (try simp) <;> omega)).trans (by go_simp)
  have z9_1 : ∀ j, w9.frozen? ⟨w2.heap.size, j, none⟩ = false := fun j => (hf _ _ (by (try simp) <;> omega)).trans (by go_simp)
  clear hc hf hb9 c8_0_0 c8_0_1 c8_0_2 c8_0_3 c8_0_4 c8_0_5 z8_0 c8_1_0 c8_1_1 z8_1
  go_wp2_with fail
  refine (HV1.out _ _ _ (HX.out.below ((Below.refl _ _).alloc (Nat.le_refl _) _))).mono ?_
  rintro en w10 ⟨gb, cb, rfl, ha, hb10⟩
  have HB := Kp.mk ha
  have HA := Kp.mk ((HA.out.below ((Below.refl _ _).alloc (Nat.le_refl _) _)).below hb10)
  have HX := Kp.mk ((HX.out.below ((Below.refl _ _).alloc (Nat.le_refl _) _)).below hb10)
  clear ha
  have HB10 : Kp (Below w.heap.size w w10) := ⟨Below.trans (by repeat (first | refine Below.alloc ?_ (by have := HB9.out.size; (try simp) <;> omega) _ | refine bDrewN ?_ _ | refine Below.drew ?_ | refine Below.setCell ?_ (by have := HB9.out.size; (try simp) <;> omega) _ | exact HB9.out)) (hb10.mono (by have := HB9.out.size; (try simp) <;> omega))⟩
  have hz10_0 : w.heap.size < w10.heap.size := by have := hb10.size; (try simp at this); omega
  have hz10_1 : w2.heap.size < w10.heap.size := by have := hb10.size; (try simp at this); omega
  have hz10_2 : w9.heap.size < w10.heap.size := by have := hb10.size; (try simp at this); omega
  obtain ⟨hc, hf⟩ := bcell hb10
  have c10_0_0 : w10.cell? ⟨w.heap.size, 0, none⟩ = some (.int .i64 s) := (hc _ _ (by (try simp) <;> omega)).trans (by go_simp)
  have c10_0_1 : w10.cell? ⟨w.heap.size, 1, none⟩ = some ((.slice g1 n c1)) := (hc _ _ (by (try simp) <;> omega)).trans (by go_simp)
  have c10_0_2 : w10.cell? ⟨w.heap.size, 2, none⟩ = some (.int .i64 s) := (hc _ _ (by (try simp) <;> omega)).trans (by go_simp)
  have c10_0_3 : w10.cell? ⟨w.heap.size, 3, none⟩ = some ((.slice g2 n c2)) := (hc _ _ (by (try simp) <;> omega)).trans (by go_simp)
  have c10_0_4 : w10.cell? ⟨w.heap.size, 4, none⟩ = some (.int .i64 s) := (hc _ _ (by (try simp) <;> omega)).trans (by go_simp)
  have c10_0_5 : w10.cell? ⟨w.heap.size, 5, none⟩ = some ((.slice g3 n c3)) := (hc _ _ (by (try simp) <;> omega)).trans (by go_simp)
  have z10_0 : ∀ j, w10.frozen? ⟨w.heap.size, j, none⟩ = false := fun j => (hf _ _ (by (try simp) <;> omega)).trans (by go_simp)
  have c10_1_0 : w10.cell? ⟨w2.heap.size, 0, none⟩ = some (.int .i64 s) := (hc _ _ (by (try simp) <;> omega)).trans (by go_simp)
  have c10_1_1 : w10.cell? ⟨w2.heap.size, 1, none⟩ = some ((.slice gx hl cx)) := (hc _ _ (by (try simp) <;> omega)).trans (by go_simp)
  have z10_1 : ∀ j, w10.frozen? ⟨w2.heap.size, j, none⟩ = false := fun j => (hf _ _ (by (try simp) <;> omega)).trans (by go_simp)
  have c10_2_0 : w10.cell? ⟨w9.heap.size, 0, none⟩ = some (.int .i64 s) := (hc _ _ (by (try simp) <;> omega)).trans (by go_simp)
  have c10_2_1 : w10.cell? ⟨w9.heap.size, 1, none⟩ = some ((.slice ga n ca)) := (hc _ _ (by (try simp) <;> omega)).trans (by go_simp)
  have z10_2 : ∀ j, w10.frozen? ⟨w9.heap.size, j, none⟩ = false := fun j => (hf _ _ (by (try simp) <;> omega)).trans (by go_simp)
  clear hc hf hb10 c9_0_0 c9_0_1 c9_0_2 c9_0_3 c9_0_4 c9_0_5 z9_0 c9_1_0 c9_1_1 z9_1
  go_wp2_with fail
  refine (HV2.out _ _ _ (HX.out.below ((Below.refl _ _).alloc (Nat.le_refl _) _))).mono ?_
  rintro en w11 ⟨gc, cc, rfl, ha, hb11⟩
  have HC := Kp.mk ha
  have HA := Kp.mk ((HA.out.below ((Below.refl _ _).alloc (Nat.le_refl _) _)).below hb11)
  have HB := Kp.mk ((HB.out.below ((Below.refl _ _).alloc (Nat.le_refl _) _)).below hb11)
  clear ha
  have HB11 : Kp (Below w.heap.size w w11) := ⟨Below.trans (by repeat (first | refine Below.alloc ?_ (by have := HB10.out.size; (try simp) <;> omega) _ | refine bDrewN ?_ _ | refine Below.drew ?_ | refine Below.setCell ?_ (by have := HB10.out.size; (try simp) <;> omega) _ | exact HB10.out)) (hb11.mono (by have := HB10.out.size; (try simp) <;> omega))⟩
  have hz11_0 : w.heap.size < w11.heap.size := by have := hb11.size; (try simp at this); omega
  have hz11_1 : w9.heap.size < w11.heap.size := by have := hb11.size; (try simp at this); omega
  have hz11_2 : w10.heap.size < w11.heap.size := by have := hb11.size; (try simp at this); omega
  obtain ⟨hc, hf⟩ := bcell hb11
  have c11_0_0 : w11.cell? ⟨w.heap.size, 0, none⟩ = some (.int .i64 s) := (hc _ _ (by (try simp) <;> omega)).trans (by go_simp)
  have c11_0_1 : w11.cell? ⟨w.heap.size, 1, none⟩ = some ((.slice g1 n c1)) := (hc _ _ (by (try simp) <;> omega)).trans (by go_simp)
  have c11_0_2 : w11.cell? ⟨w.heap.size, 2, none⟩ = some (.int .i64 s) := (hc _ _ (by (try simp) <;> omega)).trans (by go_simp)
  have c11_0_3 : w11.cell? ⟨w.heap.size, 3, none⟩ = some ((.slice g2 n c2)) := (hc _ _ (by (try simp) <;> omega)).trans (by go_simp)
  have c11_0_4 : w11.cell? ⟨w.heap.size, 4, none⟩ = some (.int .i64 s) := (hc _ _ (by (try simp) <;> omega)).trans (by go_simp)
  have c11_0_5 : w11.cell? ⟨w.heap.size, 5, none⟩ = some ((.slice g3 n c3)) := (hc _ _ (by (try simp) <;> omega)).trans (by go_simp)
  have z11_0 : ∀ j, w11.frozen? ⟨w.heap.size, j, none⟩ = false := fun j => (hf _ _ (by (try simp) <;> omega)).trans (by go_simp)
  have c11_1_0 : w11.cell? ⟨w9.heap.size, 0, none⟩ = some (.int .i64 s) := (hc _ _ (by (try simp) <;> omega)).trans (by go_simp)
  have c11_1_1 : w11.cell? ⟨w9.heap.size, 1, none⟩ = some ((.slice ga n ca)) := (hc _ _ (by (try simp) <;> omega)).trans (by go_simp)
  have z11_1 : ∀ j, w11.frozen? ⟨w9.heap.size, j, none⟩ = false := fun j => (hf _ _ (by (try simp) <;> omega)).trans (by go_simp)
  have c11_2_0 : w11.cell? ⟨w10.heap.size, 0, none⟩ = some (.int .i64 s) := (hc _ _ (by (try simp) <;> omega)).trans (by go_simp)
  have c11_2_1 : w11.cell? ⟨w10.heap.size, 1, none⟩ = some ((.slice gb n cb)) := (hc _ _ (by (try simp) <;> omega)).trans (by go_simp)
  have z11_2 : ∀ j, w11.frozen? ⟨w10.heap.size, j, none⟩ = false := fun j => (hf _ _ (by (try simp) <;> omega)).trans (by go_simp)
  clear hc hf hb11 c10_0_0 c10_0_1 c10_0_2 c10_0_3 c10_0_4 c10_0_5 z10_0 c10_1_0 c10_1_1 z10_1 c10_2_0 c10_2_1 z10_2
  go_wp2_with fail
  refine (HS0.out _ _ _ (HB11.out.alloc HB11.out.size _) (HA.out.below ((Below.refl _ _).alloc (Nat.le_refl _) _))).mono ?_
  rintro en w12 ⟨rfl, hb12⟩
  have HB := Kp.mk ((HB.out.below ((Below.refl _ _).alloc (Nat.le_refl _) _)).below hb12)
  have HC := Kp.mk ((HC.out.below ((Below.refl _ _).alloc (Nat.le_refl _) _)).below hb12)
  have HB12 : Kp (Below w.heap.size w w12) := ⟨Below.trans (by repeat (first | refine Below.alloc ?_ (by have := HB11.out.size; (try simp) <;> omega) _ | refine bDrewN ?_ _ | refine Below.drew ?_ | refine Below.setCell ?_ (by have := HB11.out.size; (try simp) <;> omega) _ | exact HB11.out)) (hb12.mono (by have := HB11.out.size; (try simp) <;> omega))⟩
  have hz12_0 : w.heap.size < w12.heap.size := by have := hb12.size; (try simp at this); omega
  have hz12_1 : w10.heap.size < w12.heap.size := by have := hb12.size; (try simp at this); omega
  have hz12_2 : w11.heap.size < w12.heap.size := by have := hb12.size; (try simp at this); omega
  obtain ⟨hc, hf⟩ := bcell hb12
  have c12_0_0 : w12.cell? ⟨w.heap.size, 0, none⟩ = some (.int .i64 s) := (hc _ _ (by (try simp) <;> omega)).trans (by go_simp)
  have c12_0_1 : w12.cell? ⟨w.heap.size, 1, none⟩ = some ((.slice g1 n c1)) := (hc _ _ (by (try simp) <;> omega)).trans (by go_simp)
  have c12_0_2 : w12.cell? ⟨w.heap.size, 2, none⟩ = some (.int .i64 s) := (hc _ _ (by (try simp) <;> omega)).trans (by go_simp)
  have c12_0_3 : w12.cell? ⟨w.heap.size, 3, none⟩ = some ((.slice g2 n c2)) := (hc _ _ (by (try simp) <;> omega)).trans (by go_simp)
  have c12_0_4 : w12.cell? ⟨w.heap.size, 4, none⟩ = some (.int .i64 s) := (hc _ _ (by (try simp) <;> omega)).trans (by go_simp)
  have c12_0_5 : w12.cell? ⟨w.heap.size, 5, none⟩ = some ((.slice g3 n c3)) := (hc _ _ (by (try simp) <;> omega)).trans (by go_simp)
  have z12_0 : ∀ j, w12.frozen? ⟨w.heap.size, j, none⟩ = false := fun j => (hf _ _ (by (try simp) <;> omega)).trans (by go_simp)
  have c12_1_0 : w12.cell? ⟨w10.heap.size, 0, none⟩ = some (.int .i64 s) := (hc _ _ (by (try simp) <;> omega)).trans (by go_simp)
  have c12_1_1 : w12.cell? ⟨w10.heap.size, 1, none⟩ = some ((.slice gb n cb)) := (hc _ _ (by (try simp) <;> omega)).trans (by go_simp)
  have z12_1 : ∀ j, w12.frozen? ⟨w10.heap.size, j, none⟩ = false := fun j => (hf _ _ (by (try simp) <;> omega)).trans (by go_simp)
  have c12_2_0 : w12.cell? ⟨w11.heap.size, 0, none⟩ = some (.int .i64 s) := (hc _ _ (by (try simp) <;> omega)).trans (by go_simp)
  have c12_2_1 : w12.cell? ⟨w11.heap.size, 1, none⟩ = some ((.slice gc n cc)) := (hc _ _ (by (try simp) <;> omega)).trans (by go_simp)
  have z12_2 : ∀ j, w12.frozen? ⟨w11.heap.size, j, none⟩ = false := fun j => (hf _ _ (by (try simp) <;> omega)).trans (by go_simp)
  clear hc hf hb12 c11_0_0 c11_0_1 c11_0_2 c11_0_3 c11_0_4 c11_0_5 z11_0 c11_1_0 c11_1_1 z11_1 c11_2_0 c11_2_1 z11_2
  go_wp2_with fail
  refine (HS1.out _ _ _ HB12.out HB.out).mono ?_
  rintro en w13 ⟨rfl, hb13⟩
  have HC := Kp.mk (HC.out.below hb13)
  have HB13 : Kp (Below w.heap.size w w13) := ⟨Below.trans (by repeat (first | refine Below.alloc ?_ (by have := HB12.out.size; (try simp) <;> omega) _ | refine bDrewN ?_ _ | refine Below.drew ?_ | refine Below.setCell ?_ (by have := HB12.out.size; (try simp) <;> omega) _ | exact HB12.out)) (hb13.mono (by have := HB12.out.size; (try simp) <;> omega))⟩
  have hz13_0 : w.heap.size < w13.heap.size := by have := hb13.size; (try simp at this); omega
  have hz13_1 : w11.heap.size < w13.heap.size := by have := hb13.size; (try simp at this); omega
  obtain ⟨hc, hf⟩ := bcell hb13
  have c13_0_0 : w13.cell? ⟨w.heap.size, 0, none⟩ = some (.int .i64 s) := (hc _ _ (by (try simp) <;> omega)).trans (by go_simp)
  have c13_0_1 : w13.cell? ⟨w.heap.size, 1, none⟩ = some ((.slice g1 n c1)) := (hc _ _ (by (try simp) <;> omega)).trans (by go_simp)
  have c13_0_2 : w13.cell? ⟨w.heap.size, 2, none⟩ = some (.int .i64 s) := (hc _ _ (by (try simp) <;> omega)).trans (by go_simp)
  have c13_0_3 : w13.cell? ⟨w.heap.size, 3, none⟩ = some ((.slice g2 n c2)) := (hc _ _ (by (try simp) <;> omega)).trans (by go_simp)
  have c13_0_4 : w13.cell? ⟨w.heap.size, 4, none⟩ = some (.int .i64 s) := (hc _ _ (by (try simp) <;> omega)).trans (by go_simp)
  have c13_0_5 : w13.cell? ⟨w.heap.size, 5, none⟩ = some ((.slice g3 n c3)) := (hc _ _ (by (try simp) <;> omega)).trans (by go_simp)
  have z13_0 : ∀ j, w13.frozen? ⟨w.heap.size, j, none⟩ = false := fun j => (hf _ _ (by (try simp) <;> omega)).trans (by go_simp)
  have c13_1_0 : w13.cell? ⟨w11.heap.size, 0, none⟩ = some (.int .i64 s) := (hc _ _ (by (try simp) <;> omega)).trans (by go_simp)
  have c13_1_1 : w13.cell? ⟨w11.heap.size, 1, none⟩ = some ((.slice gc n cc)) := (hc _ _ (by (try simp) <;> omega)).trans (by go_simp)
  have z13_1 : ∀ j, w13.frozen? ⟨w11.heap.size, j, none⟩ = false := fun j => (hf _ _ (by (try simp) <;> omega)).trans (by go_simp)
  clear hc hf hb13 c12_0_0 c12_0_1 c12_0_2 c12_0_3 c12_0_4 c12_0_5 z12_0 c12_1_0 c12_1_1 z12_1 c12_2_0 c12_2_1 z12_2
  go_wp2_with fail
  refine (awake_any _).mono ?_
  rintro en wz ⟨rfl, hbz⟩
  have HBZ : Kp (Below w.heap.size w wz) := ⟨(HB13.out).trans (hbz.mono (HB13.out).size)⟩
  clear hbz
  go_wp2
  go_ret
  exact ⟨rfl, HBZ.out⟩
set_option maxRecDepth 100000 in
set_option maxHeartbeats 4000000 in
theorem hl_2 (s r1 r2 r3 r4 : Int) (g1 g2 g3 : Option Addr) (n c1 c2 c3 hl : Nat) (L V0 V1 V2 : List Bool) (w : World) (hr : (r4 == 8) = false) (H3 : Kp (∀ W, Calls Try.prog 36 #[.agg #[.int .i64 s, .slice g1 n c1, .int .i64 s, .slice g2 n c2, .int .i64 s, .slice g3 n c3]] W fun e w' => e = .returned (.bool true) ∧ Below W.heap.size W w')) (HHU : Kp (∀ W, Below w.heap.size w W → Calls Try.prog 37 #[.agg #[.int .i64 s, .slice g1 n c1], .agg #[.int .i64 s, .slice g2 n c2], .agg #[.int .i64 s, .slice g3 n c3]] W fun e w' => ∃ g c, e = .returned (.tuple #[.agg #[.int .i64 s, .slice g hl c], .int .i64 0]) ∧ LB w' (.slice g hl c) L ∧ Below W.heap.size W w')) (HRH : Kp (∀ W, Below w.heap.size w W → Calls Try.prog 38 #[.agg #[.int .i64 s, .slice g1 n c1], .agg #[.int .i64 s, .slice g2 n c2], .agg #[.int .i64 s, .slice g3 n c3]] W fun e w' => ∃ g c, e = .returned (.tuple #[.agg #[.int .i64 s, .slice g hl c], .int .i64 0]) ∧ LB w' (.slice g hl c) L ∧ Below W.heap.size W w')) (HPO : Kp (∀ W, Below w.heap.size w W → Calls Try.prog 39 #[.agg #[.int .i64 s, .slice g1 n c1], .agg #[.int .i64 s, .slice g2 n c2], .agg #[.int .i64 s, .slice g3 n c3]] W fun e w' => e = .returned (.tuple #[.bool false, .int .i64 0]) ∧ Below W.heap.size W w')) (HRP : Kp (∀ W, Below w.heap.size w W → Calls Try.prog 40 #[.agg #[.int .i64 s, .slice g1 n c1], .agg #[.int .i64 s, .slice g2 n c2], .agg #[.int .i64 s, .slice g3 n c3]] W fun e w' => e = .returned (.tuple #[.bool false, .int .i64 0]) ∧ Below W.heap.size W w')) (HSA : Kp (∀ W g g' c c', LB W (.slice g hl c) L → LB W (.slice g' hl c') L → Calls Try.prog 25 #[.agg #[.int .i64 s, .slice g hl c], .agg #[.int .i64 s, .slice g' hl c']] W fun e w' => e = .returned (.bool true) ∧ Below W.heap.size W w')) (HWR : Kp (∀ W, Below w.heap.size w W → Calls Try.prog 41 #[.agg #[.int .i64 s, .slice g1 n c1], .agg #[.int .i64 s, .slice g2 n c2], .agg #[.int .i64 s, .slice g3 n c3]] W fun e w' => e = .returned (.tuple #[.int .i64 r1, .int .i64 r2, .int .i64 r3, .int .i64 r4]) ∧ Below W.heap.size W w')) (HRW : Kp (∀ W, Below w.heap.size w W → Calls Try.prog 42 #[.agg #[.int .i64 s, .slice g1 n c1], .agg #[.int .i64 s, .slice g2 n c2], .agg #[.int .i64 s, .slice g3 n c3]] W fun e w' => e = .returned (.tuple #[.int .i64 r1, .int .i64 r2, .int .i64 r3, .int .i64 r4]) ∧ Below W.heap.size W w')) (HV0 : Kp (∀ W g c, LB W (.slice g hl c) L → Calls Try.prog 28 #[.agg #[.int .i64 s, .slice g hl c], .int .i64 0] W fun e w' => ∃ g' c', e = .returned (.tuple #[.agg #[.int .i64 s, .slice g' n c'], .int .i64 0]) ∧ LB w' (.slice g' n c') V0 ∧ Below W.heap.size W w')) (HV1 : Kp (∀ W g c, LB W (.slice g hl c) L → Calls Try.prog 28 #[.agg #[.int .i64 s, .slice g hl c], .int .i64 1] W fun e w' => ∃ g' c', e = .returned (.tuple #[.agg #[.int .i64 s, .slice g' n c'], .int .i64 0]) ∧ LB w' (.slice g' n c') V1 ∧ Below W.heap.size W w')) (HV2 : Kp (∀ W g c, LB W (.slice g hl c) L → Calls Try.prog 28 #[.agg #[.int .i64 s, .slice g hl c], .int .i64 2] W fun e w' => ∃ g' c', e = .returned (.tuple #[.agg #[.int .i64 s, .slice g' n c'], .int .i64 0]) ∧ LB w' (.slice g' n c') V2 ∧ Below W.heap.size W w')) (HS0 : Kp (∀ W g c, Below w.heap.size w W → LB W (.slice g n c) V0 → Calls Try.prog 31 #[.agg #[.int .i64 s, .slice g n c], .agg #[.int .i64 s, .slice g1 n c1]] W fun e w' => e = .returned (.bool true) ∧ Below W.heap.size W w')) (HS1 : Kp (∀ W g c, Below w.heap.size w W → LB W (.slice g n c) V1 → Calls Try.prog 31 #[.agg #[.int .i64 s, .slice g n c], .agg #[.int .i64 s, .slice g2 n c2]] W fun e w' => e = .returned (.bool true) ∧ Below W.heap.size W w')) (HS2 : Kp (∀ W g c, Below w.heap.size w W → LB W (.slice g n c) V2 → Calls Try.prog 31 #[.agg #[.int .i64 s, .slice g n c], .agg #[.int .i64 s, .slice g3 n c3]] W fun e w' => e = .returned (.bool false) ∧ Below W.heap.size W w')) :
    Calls Try.prog 5 #[.agg #[.int .i64 s, .slice g1 n c1, .int .i64 s, .slice g2 n c2, .int .i64 s, .slice g3 n c3]] w (EndsH w) := by
  have t1 : (r1 != r1) = false := by simp
  have t2 : (r2 != r2) = false := by simp
  have t3 : (r3 != r3) = false := by simp
  have t4 : (r4 != r4) = false := by simp
  go_enter Try.func5, Try.ntmps5
  go_wp2_with fail
  refine (H3.out _).mono ?_
  rintro en w1 ⟨rfl, hb1⟩
  have HB1 : Kp (Below w.heap.size w w1) := ⟨Below.trans (by repeat (first | refine Below.alloc ?_ (by (try simp) <;> omega) _ | refine bDrewN ?_ _ | refine Below.drew ?_ | refine Below.setCell ?_ (by (try simp) <;> omega) _ | exact Below.refl _ _)) (hb1.mono (by (try simp) <;> omega))⟩
  have hz1_0 : w.heap.size < w1.heap.size := by have := hb1.size; (try simp at this); omega
  obtain ⟨hc, hf⟩ := bcell hb1
  have c1_0_0 : w1.cell? ⟨w.heap.size, 0, none⟩ = some (.int .i64 s) := (hc _ _ (by (try simp) <;> omega)).trans (by go_simp)
  have c1_0_1 : w1.cell? ⟨w.heap.size, 1, none⟩ = some ((.slice g1 n c1)) := (hc _ _ (by (try simp) <;> omega)).trans (by go_simp)
  have c1_0_2 : w1.cell? ⟨w.heap.size, 2, none⟩ = some (.int .i64 s) := (hc _ _ (by (try simp) <;> omega)).trans (by go_simp)
  have c1_0_3 : w1.cell? ⟨w.heap.size, 3, none⟩ = some ((.slice g2 n c2)) := (hc _ _ (by (try simp) <;> omega)).trans (by go_simp)
  have c1_0_4 : w1.cell? ⟨w.heap.size, 4, none⟩ = some (.int .i64 s) := (hc _ _ (by (try simp) <;> omega)).trans (by go_simp)
  have c1_0_5 : w1.cell? ⟨w.heap.size, 5, none⟩ = some ((.slice g3 n c3)) := (hc _ _ (by (try simp) <;> omega)).trans (by go_simp)
  have z1_0 : ∀ j, w1.frozen? ⟨w.heap.size, j, none⟩ = false := fun j => (hf _ _ (by (try simp) <;> omega)).trans (by go_simp)
  clear hc hf hb1
  go_wp2_with fail
  refine (HHU.out _ HB1.out).mono ?_
  rintro en w2 ⟨gx, cx, rfl, hx, hb2⟩
  have HX := Kp.mk hx
  clear hx
  have HB2 : Kp (Below w.heap.size w w2) := ⟨Below.trans (by repeat (first | refine Below.alloc ?_ (by have := HB1.out.size; (try simp) <;> omega) _ | refine bDrewN ?_ _ | refine Below.drew ?_ | refine Below.setCell ?_ (by have := HB1.out.size; (try simp) <;> omega) _ | exact HB1.out)) (hb2.mono (by have := HB1.out.size; (try simp) <;> omega))⟩
  have hz2_0 : w.heap.size < w2.heap.size := by have := hb2.size; (try simp at this); omega
  obtain ⟨hc, hf⟩ := bcell hb2
  have c2_0_0 : w2.cell? ⟨w.heap.size, 0, none⟩ = some (.int .i64 s) := (hc _ _ (by (try simp) <;> omega)).trans (by go_simp)
  have c2_0_1 : w2.cell? ⟨w.heap.size, 1, none⟩ = some ((.slice g1 n c1)) := (hc _ _ (by (try simp) <;> omega)).trans (by go_simp)
  have c2_0_2 : w2.cell? ⟨w.heap.size, 2, none⟩ = some (.int .i64 s) := (hc _ _ (by (try simp) <;> omega)).trans (by go_simp)
  have c2_0_3 : w2.cell? ⟨w.heap.size, 3, none⟩ = some ((.slice g2 n c2)) := (hc _ _ (by (try simp) <;> omega)).trans (by go_simp)
  have c2_0_4 : w2.cell? ⟨w.heap.size, 4, none⟩ = some (.int .i64 s) := (hc _ _ (by (try simp) <;> omega)).trans (by go_simp)
  have c2_0_5 : w2.cell? ⟨w.heap.size, 5, none⟩ = some ((.slice g3 n c3)) := (hc _ _ (by (try simp) <;> omega)).trans (by go_simp)
  have z2_0 : ∀ j, w2.frozen? ⟨w.heap.size, j, none⟩ = false := fun j => (hf _ _ (by (try simp) <;> omega)).trans (by go_simp)
  clear hc hf hb2 c1_0_0 c1_0_1 c1_0_2 c1_0_3 c1_0_4 c1_0_5 z1_0
  go_wp2_with fail
  refine (HRH.out _ (HB2.out.alloc HB2.out.size _)).mono ?_
  rintro en w3 ⟨gy, cy, rfl, hy, hb3⟩
  have HYY := Kp.mk hy
  have HX := Kp.mk ((HX.out.below ((Below.refl _ _).alloc (Nat.le_refl _) _)).below hb3)
  clear hy
  have HB3 : Kp (Below w.heap.size w w3) := ⟨Below.trans (by repeat (first | refine Below.alloc ?_ (by have := HB2.out.size; (try simp) <;> omega) _ | refine bDrewN ?_ _ | refine Below.drew ?_ | refine Below.setCell ?_ (by have := HB2.out.size; (try simp) <;> omega) _ | exact HB2.out)) (hb3.mono (by have := HB2.out.size; (try simp) <;> omega))⟩
  have hz3_0 : w.heap.size < w3.heap.size := by have := hb3.size; (try simp at this); omega
  have hz3_1 : w2.heap.size < w3.heap.size := by have := hb3.size; (try simp at this); omega
  obtain ⟨hc, hf⟩ := bcell hb3
  have c3_0_0 : w3.cell? ⟨w.heap.size, 0, none⟩ = some (.int .i64 s) := (hc _ _ (by (try simp) <;> omega)).trans (by go_simp)
  have c3_0_1 : w3.cell? ⟨w.heap.size, 1, none⟩ = some ((.slice g1 n c1)) := (hc _ _ (by (try simp) <;> omega)).trans (by go_simp)
  have c3_0_2 : w3.cell? ⟨w.heap.size, 2, none⟩ = some (.int .i64 s) := (hc _ _ (by (try simp) <;> omega)).trans (by go_simp)
  have c3_0_3 : w3.cell? ⟨w.heap.size, 3, none⟩ = some ((.slice g2 n c2)) := (hc _ _ (by (try simp) <;> omega)).trans (by go_simp)
  have c3_0_4 : w3.cell? ⟨w.heap.size, 4, none⟩ = some (.int .i64 s) := (hc _ _ (by (try simp) <;> omega)).trans (by go_simp)
  have c3_0_5 : w3.cell? ⟨w.heap.size, 5, none⟩ = some ((.slice g3 n c3)) := (hc _ _ (by (try simp) <;> omega)).trans (by go_simp)
  have z3_0 : ∀ j, w3.frozen? ⟨w.heap.size, j, none⟩ = false := fun j => (hf _ _ (by (try simp) <;> omega)).trans (by go_simp)
  have c3_1_0 : w3.cell? ⟨w2.heap.size, 0, none⟩ = some (.int .i64 s) := (hc _ _ (by (try simp) <;> omega)).trans (by go_simp)
  have c3_1_1 : w3.cell? ⟨w2.heap.size, 1, none⟩ = some ((.slice gx hl cx)) := (hc _ _ (by (try simp) <;> omega)).trans (by go_simp)
  have z3_1 : ∀ j, w3.frozen? ⟨w2.heap.size, j, none⟩ = false := fun j => (hf _ _ (by (try simp) <;> omega)).trans (by go_simp)
  clear hc hf hb3 c2_0_0 c2_0_1 c2_0_2 c2_0_3 c2_0_4 c2_0_5 z2_0
  go_wp2_with fail
  refine (HPO.out _ (HB3.out.alloc HB3.out.size _)).mono ?_
  rintro en w4 ⟨rfl, hb4⟩
  have HX := Kp.mk ((HX.out.below ((Below.refl _ _).alloc (Nat.le_refl _) _)).below hb4)
  have HYY := Kp.mk ((HYY.out.below ((Below.refl _ _).alloc (Nat.le_refl _) _)).below hb4)
  have HB4 : Kp (Below w.heap.size w w4) := ⟨Below.trans (by repeat (first | refine Below.alloc ?_ (by have := HB3.out.size; (try simp) <;> omega) _ | refine bDrewN ?_ _ | refine Below.drew ?_ | refine Below.setCell ?_ (by have := HB3.out.size; (try simp) <;> omega) _ | exact HB3.out)) (hb4.mono (by have := HB3.out.size; (try simp) <;> omega))⟩
  have hz4_0 : w.heap.size < w4.heap.size := by have := hb4.size; (try simp at this); omega
  have hz4_1 : w2.heap.size < w4.heap.size := by have := hb4.size; (try simp at this); omega
  have hz4_2 : w3.heap.size < w4.heap.size := by have := hb4.size; (try simp at this); omega
  obtain ⟨hc, hf⟩ := bcell hb4
  have c4_0_0 : w4.cell? ⟨w.heap.size, 0, none⟩ = some (.int .i64 s) := (hc _ _ (by (try simp) <;> omega)).trans (by go_simp)
  have c4_0_1 : w4.cell? ⟨w.heap.size, 1, none⟩ = some ((.slice g1 n c1)) := (hc _ _ (by (try simp) <;> omega)).trans (by go_simp)
  have c4_0_2 : w4.cell? ⟨w.heap.size, 2, none⟩ = some (.int .i64 s) := (hc _ _ (by (try simp) <;> omega)).trans (by go_simp)
  have c4_0_3 : w4.cell? ⟨w.heap.size, 3, none⟩ = some ((.slice g2 n c2)) := (hc _ _ (by (try simp) <;> omega)).trans (by go_simp)
  have c4_0_4 : w4.cell? ⟨w.heap.size, 4, none⟩ = some (.int .i64 s) := (hc _ _ (by (try simp) <;> omega)).trans (by go_simp)
  have c4_0_5 : w4.cell? ⟨w.heap.size, 5, none⟩ = some ((.slice g3 n c3)) := (hc _ _ (by (try simp) <;> omega)).trans (by go_simp)
  have z4_0 : ∀ j, w4.frozen? ⟨w.heap.size, j, none⟩ = false := fun j => (hf _ _ (by (try simp) <;> omega)).trans (by go_simp)
  have c4_1_0 : w4.cell? ⟨w2.heap.size, 0, none⟩ = some (.int .i64 s) := (hc _ _ (by (try simp) <;> omega)).trans (by go_simp)
  have c4_1_1 : w4.cell? ⟨w2.heap.size, 1, none⟩ = some ((.slice gx hl cx)) := (hc _ _ (by (try simp) <;> omega)).trans (by go_simp)
  have z4_1 : ∀ j, w4.frozen? ⟨w2.heap.size, j, none⟩ = false := fun j => (hf _ _ (by (try simp) <;> omega)).trans (by go_simp)
  have c4_2_0 : w4.cell? ⟨w3.heap.size, 0, none⟩ = some (.int .i64 s) := (hc _ _ (by (try simp) <;> omega)).trans (by go_simp)
  have c4_2_1 : w4.cell? ⟨w3.heap.size, 1, none⟩ = some ((.slice gy hl cy)) := (hc _ _ (by (try simp) <;> omega)).trans (by go_simp)
  have z4_2 : ∀ j, w4.frozen? ⟨w3.heap.size, j, none⟩ = false := fun j => (hf _ _ (by (try simp) <;> omega)).trans (by go_simp)
  clear hc hf hb4 c3_0_0 c3_0_1 c3_0_2 c3_0_3 c3_0_4 c3_0_5 z3_0 c3_1_0 c3_1_1 z3_1
  go_wp2_with fail
  refine (HRP.out _ HB4.out).mono ?_
  rintro en w5 ⟨rfl, hb5⟩
  have HX := Kp.mk (HX.out.below hb5)
  have HYY := Kp.mk (HYY.out.below hb5)
  have HB5 : Kp (Below w.heap.size w w5) := ⟨Below.trans (by repeat (first | refine Below.alloc ?_ (by have := HB4.out.size; (try simp) <;> omega) _ | refine bDrewN ?_ _ | refine Below.drew ?_ | refine Below.setCell ?_ (by have := HB4.out.size; (try simp) <;> omega) _ | exact HB4.out)) (hb5.mono (by have := HB4.out.size; (try simp) <;> omega))⟩
  have hz5_0 : w.heap.size < w5.heap.size := by have := hb5.size; (try simp at this); omega
  have hz5_1 : w2.heap.size < w5.heap.size := by have := hb5.size; (try simp at this); omega
  have hz5_2 : w3.heap.size < w5.heap.size := by have := hb5.size; (try simp at this); omega
  obtain ⟨hc, hf⟩ := bcell hb5
  have c5_0_0 : w5.cell? ⟨w.heap.size, 0, none⟩ = some (.int .i64 s) := (hc _ _ (by (try simp) <;> omega)).trans (by go_simp)
  have c5_0_1 : w5.cell? ⟨w.heap.size, 1, none⟩ = some ((.slice g1 n c1)) := (hc _ _ (by (try simp) <;> omega)).trans (by go_simp)
  have c5_0_2 : w5.cell? ⟨w.heap.size, 2, none⟩ = some (.int .i64 s) := (hc _ _ (by (try simp) <;> omega)).trans (by go_simp)
  have c5_0_3 : w5.cell? ⟨w.heap.size, 3, none⟩ = some ((.slice g2 n c2)) := (hc _ _ (by (try simp) <;> omega)).trans (by go_simp)
  have c5_0_4 : w5.cell? ⟨w.heap.size, 4, none⟩ = some (.int .i64 s) := (hc _ _ (by (try simp) <;> omega)).trans (by go_simp)
  have c5_0_5 : w5.cell? ⟨w.heap.size, 5, none⟩ = some ((.slice g3 n c3)) := (hc _ _ (by (try simp) <;> omega)).trans (by go_simp)
  have z5_0 : ∀ j, w5.frozen? ⟨w.heap.size, j, none⟩ = false := fun j => (hf _ _ (by (try simp) <;> omega)).trans (by go_simp)
  have c5_1_0 : w5.cell? ⟨w2.heap.size, 0, none⟩ = some (.int .i64 s) := (hc _ _ (by (try simp) <;> omega)).trans (by go_simp)
  have c5_1_1 : w5.cell? ⟨w2.heap.size, 1, none⟩ = some ((.slice gx hl cx)) := (hc _ _ (by (try simp) <;> omega)).trans (by go_simp)
  have z5_1 : ∀ j, w5.frozen? ⟨w2.heap.size, j, none⟩ = false := fun j => (hf _ _ (by (try simp) <;> omega)).trans (by go_simp)
  have c5_2_0 : w5.cell? ⟨w3.heap.size, 0, none⟩ = some (.int .i64 s) := (hc _ _ (by (try simp) <;> omega)).trans (by go_simp)
  have c5_2_1 : w5.cell? ⟨w3.heap.size, 1, none⟩ = some ((.slice gy hl cy)) := (hc _ _ (by (try simp) <;> omega)).trans (by go_simp)
  have z5_2 : ∀ j, w5.frozen? ⟨w3.heap.size, j, none⟩ = false := fun j => (hf _ _ (by (try simp) <;> omega)).trans (by go_simp)
  clear hc hf hb5 c4_0_0 c4_0_1 c4_0_2 c4_0_3 c4_0_4 c4_0_5 z4_0 c4_1_0 c4_1_1 z4_1 c4_2_0 c4_2_1 z4_2
  go_wp2_with fail
  refine (HSA.out _ _ _ _ _ HX.out HYY.out).mono ?_
  rintro en w6 ⟨rfl, hb6⟩
  have HX := Kp.mk (HX.out.below hb6)
  have HB6 : Kp (Below w.heap.size w w6) := ⟨Below.trans (by repeat (first | refine Below.alloc ?_ (by have := HB5.out.size; (try simp) <;> omega) _ | refine bDrewN ?_ _ | refine Below.drew ?_ | refine Below.setCell ?_ (by have := HB5.out.size; (try simp) <;> omega) _ | exact HB5.out)) (hb6.mono (by have := HB5.out.size; (try simp) <;> omega))⟩
  have hz6_0 : w.heap.size < w6.heap.size := by have := hb6.size; (try simp at this); omega
  have hz6_1 : w2.heap.size < w6.heap.size := by have := hb6.size; (try simp at this); omega
  obtain ⟨hc, hf⟩ := bcell hb6
  have c6_0_0 : w6.cell? ⟨w.heap.size, 0, none⟩ = some (.int .i64 s) := (hc _ _ (by (try simp) <;> omega)).trans (by go_simp)
  have c6_0_1 : w6.cell? ⟨w.heap.size, 1, none⟩ = some ((.slice g1 n c1)) := (hc _ _ (by (try simp) <;> omega)).trans (by go_simp)
  have c6_0_2 : w6.cell? ⟨w.heap.size, 2, none⟩ = some (.int .i64 s) := (hc _ _ (by (try simp) <;> omega)).trans (by go_simp)
  have c6_0_3 : w6.cell? ⟨w.heap.size, 3, none⟩ = some ((.slice g2 n c2)) := (hc _ _ (by (try simp) <;> omega)).trans (by go_simp)
  have c6_0_4 : w6.cell? ⟨w.heap.size, 4, none⟩ = some (.int .i64 s) := (hc _ _ (by (try simp) <;> omega)).trans (by go_simp)
  have c6_0_5 : w6.cell? ⟨w.heap.size, 5, none⟩ = some ((.slice g3 n c3)) := (hc _ _ (by (try simp) <;> omega)).trans (by go_simp)
  have z6_0 : ∀ j, w6.frozen? ⟨w.heap.size, j, none⟩ = false := fun j => (hf _ _ (by (try simp) <;> omega)).trans (by go_simp)
  have c6_1_0 : w6.cell? ⟨w2.heap.size, 0, none⟩ = some (.int .i64 s) := (hc _ _ (by (try simp) <;> omega)).trans (by go_simp)
  have c6_1_1 : w6.cell? ⟨w2.heap.size, 1, none⟩ = some ((.slice gx hl cx)) := (hc _ _ (by (try simp) <;> omega)).trans (by go_simp)
  have z6_1 : ∀ j, w6.frozen? ⟨w2.heap.size, j, none⟩ = false := fun j => (hf _ _ (by (try simp) <;> omega)).trans (by go_simp)
  clear hc hf hb6 c5_0_0 c5_0_1 c5_0_2 c5_0_3 c5_0_4 c5_0_5 z5_0 c5_1_0 c5_1_1 z5_1 c5_2_0 c5_2_1 z5_2
  clear HYY
  go_wp2_with fail
  refine (HWR.out _ HB6.out).mono ?_
  rintro en w7 ⟨rfl, hb7⟩
  have HX := Kp.mk (HX.out.below hb7)
  have HB7 : Kp (Below w.heap.size w w7) := ⟨Below.trans (by repeat (first | refine Below.alloc ?_ (by have := HB6.out.size; (try simp) <;> omega) _ | refine bDrewN ?_ _ | refine Below.drew ?_ | refine Below.setCell ?_ (by have := HB6.out.size; (try simp) <;> omega) _ | exact HB6.out)) (hb7.mono (by have := HB6.out.size; (try simp) <;> omega))⟩
  have hz7_0 : w.heap.size < w7.heap.size := by have := hb7.size; (try simp at this); omega
  have hz7_1 : w2.heap.size < w7.heap.size := by have := hb7.size; (try simp at this); omega
  obtain ⟨hc, hf⟩ := bcell hb7
  have c7_0_0 : w7.cell? ⟨w.heap.size, 0, none⟩ = some (.int .i64 s) := (hc _ _ (by (try simp) <;> omega)).trans (by go_simp)
  have c7_0_1 : w7.cell? ⟨w.heap.size, 1, none⟩ = some ((.slice g1 n c1)) := (hc _ _ (by (try simp) <;> omega)).trans (by go_simp)
  have c7_0_2 : w7.cell? ⟨w.heap.size, 2, none⟩ = some (.int .i64 s) := (hc _ _ (by (try simp) <;> omega)).trans (by go_simp)
  have c7_0_3 : w7.cell? ⟨w.heap.size, 3, none⟩ = some ((.slice g2 n c2)) := (hc _ _ (by (try simp) <;> omega)).trans (by go_simp)
  have c7_0_4 : w7.cell? ⟨w.heap.size, 4, none⟩ = some (.int .i64 s) := (hc _ _ (by (try simp) <;> omega)).trans (by go_simp)
  have c7_0_5 : w7.cell? ⟨w.heap.size, 5, none⟩ = some ((.slice g3 n c3)) := (hc _ _ (by (try simp) <;> omega)).trans (by go_simp)
  have z7_0 : ∀ j, w7.frozen? ⟨w.heap.size, j, none⟩ = false := fun j => (hf _ _ (by (try simp) <;> omega)).trans (by go_simp)
  have c7_1_0 : w7.cell? ⟨w2.heap.size, 0, none⟩ = some (.int .i64 s) := (hc _ _ (by (try simp) <;> omega)).trans (by go_simp)
  have c7_1_1 : w7.cell? ⟨w2.heap.size, 1, none⟩ = some ((.slice gx hl cx)) := (hc _ _ (by (try simp) <;> omega)).trans (by go_simp)
  have z7_1 : ∀ j, w7.frozen? ⟨w2.heap.size, j, none⟩ = false := fun j => (hf _ _ (by (try simp) <;> omega)).trans (by go_simp)
  clear hc hf hb7 c6_0_0 c6_0_1 c6_0_2 c6_0_3 c6_0_4 c6_0_5 z6_0 c6_1_0 c6_1_1 z6_1
  go_wp2_with fail
  refine (HRW.out _ HB7.out).mono ?_
  rintro en w8 ⟨rfl, hb8⟩
  have HX := Kp.mk (HX.out.below hb8)
  have HB8 : Kp (Below w.heap.size w w8) := ⟨Below.trans (by repeat (first | refine Below.alloc ?_ (by have := HB7.out.size; (try simp) <;> omega) _ | refine bDrewN ?_ _ | refine Below.drew ?_ | refine Below.setCell ?_ (by have := HB7.out.size; (try simp) <;> omega) _ | exact HB7.out)) (hb8.mono (by have := HB7.out.size; (try simp) <;> omega))⟩
  have hz8_0 : w.heap.size < w8.heap.size := by have := hb8.size; (try simp at this); omega
  have hz8_1 : w2.heap.size < w8.heap.size := by have := hb8.size; (try simp at this); omega
  obtain ⟨hc, hf⟩ := bcell hb8
  have c8_0_0 : w8.cell? ⟨w.heap.size, 0, none⟩ = some (.int .i64 s) := (hc _ _ (by (try simp) <;> omega)).trans (by go_simp)
  have c8_0_1 : w8.cell? ⟨w.heap.size, 1, none⟩ = some ((.slice g1 n c1)) := (hc _ _ (by (try simp) <;> omega)).trans (by go_simp)
  have c8_0_2 : w8.cell? ⟨w.heap.size, 2, none⟩ = some (.int .i64 s) := (hc _ _ (by (try simp) <;> omega)).trans (by go_simp)
  have c8_0_3 : w8.cell? ⟨w.heap.size, 3, none⟩ = some ((.slice g2 n c2)) := (hc _ _ (by (try simp) <;> omega)).trans (by go_simp)
  have c8_0_4 : w8.cell? ⟨w.heap.size, 4, none⟩ = some (.int .i64 s) := (hc _ _ (by (try simp) <;> omega)).trans (by go_simp)
  have c8_0_5 : w8.cell? ⟨w.heap.size, 5, none⟩ = some ((.slice g3 n c3)) := (hc _ _ (by (try simp) <;> omega)).trans (by go_simp)
  have z8_0 : ∀ j, w8.frozen? ⟨w.heap.size, j, none⟩ = false := fun j => (hf _ _ (by (try simp) <;> omega)).trans (by go_simp)
  have c8_1_0 : w8.cell? ⟨w2.heap.size, 0, none⟩ = some (.int .i64 s) := (hc _ _ (by (try simp) <;> omega)).trans (by go_simp)
  have c8_1_1 : w8.cell? ⟨w2.heap.size, 1, none⟩ = some ((.slice gx hl cx)) := (hc _ _ (by (try simp) <;> omega)).trans (by go_simp)
  have z8_1 : ∀ j, w8.frozen? ⟨w2.heap.size, j, none⟩ = false := fun j => (hf _ _ (by (try simp) <;> omega)).trans (by go_simp)
  clear hc hf hb8 c7_0_0 c7_0_1 c7_0_2 c7_0_3 c7_0_4 c7_0_5 z7_0 c7_1_0 c7_1_1 z7_1
  go_wp2_with fail
  refine (HV0.out _ _ _ HX.out).mono ?_
  rintro en w9 ⟨ga, ca, rfl, ha, hb9⟩
  have HA := Kp.mk ha
  have HX := Kp.mk (HX.out.below hb9)
  clear ha
  have HB9 : Kp (Below w.heap.size w w9) := ⟨Below.trans (by repeat (first | refine Below.alloc ?_ (by have := HB8.out.size; (try simp) <;> omega) _ | refine bDrewN ?_ _ | refine Below.drew ?_ | refine Below.setCell ?_ (by have := HB8.out.size; (try simp) <;> omega) _ | exact HB8.out)) (hb9.mono (by have := HB8.out.size; (try simp) <;> omega))⟩
  have hz9_0 : w.heap.size < w9.heap.size := by have := hb9.size; (try simp at this); omega
  have hz9_1 : w2.heap.size < w9.heap.size := by have := hb9.size; (try simp at this); omega
  obtain ⟨hc, hf⟩ := bcell hb9
  have c9_0_0 : w9.cell? ⟨w.heap.size, 0, none⟩ = some (.int .i64 s) := (hc _ _ (by (try simp) <;> omega)).trans (by go_simp)
  have c9_0_1 : w9.cell? ⟨w.heap.size, 1, none⟩ = some ((.slice g1 n c1)) := (hc _ _ (by (try simp) <;> omega)).trans (by go_simp)
  have c9_0_2 : w9.cell? ⟨w.heap.size, 2, none⟩ = some (.int .i64 s) := (hc _ _ (by (try simp) <;> omega)).trans (by go_simp)
  have c9_0_3 : w9.cell? ⟨w.heap.size, 3, none⟩ = some ((.slice g2 n c2)) := (hc _ _ (by (try simp) <;> omega)).trans (by go_simp)
  have c9_0_4 : w9.cell? ⟨w.heap.size, 4, none⟩ = some (.int .i64 s) := (hc _ _ (by (try simp) <;> omega)).trans (by go_simp)
  have c9_0_5 : w9.cell? ⟨w.heap.size, 5, none⟩ = some ((.slice g3 n c3)) := (hc _ _ (by (try simp) <;> omega)).trans (by go_simp)
  have z9_0 : ∀ j, w9.frozen? ⟨w.heap.size, j, none⟩ = false := fun j => (hf _ _ (by (try simp) <;> omega)).trans (by go_simp)
  have c9_1_0 : w9.cell? ⟨w2.heap.size, 0, none⟩ = some (.int .i64 s) := (hc _ _ (by (try simp) <;> omega)).trans (by go_simp)
  have c9_1_1 : w9.cell? ⟨w2.heap.size, 1, none⟩ = some ((.slice gx hl cx)) := (hc _ _ (by (try simp) <;> omega)).trans (by go_simp)
  have z9_1 : ∀ j, w9.frozen? ⟨w2.heap.size, j, none⟩ = false := fun j => (hf _ _ (by (try simp) <;> omega)).trans (by go_simp)
  clear hc hf hb9 c8_0_0 c8_0_1 c8_0_2 c8_0_3 c8_0_4 c8_0_5 z8_0 c8_1_0 c8_1_1 z8_1
  go_wp2_with fail
  refine (HV1.out _ _ _ (HX.out.below ((Below.refl _ _).alloc (Nat.le_refl _) _))).mono ?_
  rintro en w10 ⟨gb, cb, rfl, ha, hb10⟩
  have HB := Kp.mk ha
  have HA := Kp.mk ((HA.out.below ((Below.refl _ _).alloc (Nat.le_refl _) _)).below hb10)
  have HX := Kp.mk ((HX.out.below ((Below.refl _ _).alloc (Nat.le_refl _) _)).below hb10)
  clear ha
  have HB10 : Kp (Below w.heap.size w w10) := ⟨Below.trans (by repeat (first | refine Below.alloc ?_ (by have := HB9.out.size; (try simp) <;> omega) _ | refine bDrewN ?_ _ | refine Below.drew ?_ | refine Below.setCell ?_ (by have := HB9.out.size; (try simp) <;> omega) _ | exact HB9.out)) (hb10.mono (by have := HB9.out.size; (try simp) <;> omega))⟩
  have hz10_0 : w.heap.size < w10.heap.size := by have := hb10.size; (try simp at this); omega
  have hz10_1 : w2.heap.size < w10.heap.size := by have := hb10.size; (try simp at this); omega
  have hz10_2 : w9.heap.size < w10.heap.size := by have := hb10.size; (try simp at this); omega
  obtain ⟨hc, hf⟩ := bcell hb10
  have c10_0_0 : w10.cell? ⟨w.heap.size, 0, none⟩ = some (.int .i64 s) := (hc _ _ (by (try simp) <;> omega)).trans (by go_simp)
  have c10_0_1 : w10.cell? ⟨w.heap.size, 1, none⟩ = some ((.slice g1 n c1)) := (hc _ _ (by (try simp) <;> omega)).trans (by go_simp)
  have c10_0_2 : w10.cell? ⟨w.heap.size, 2, none⟩ = some (.int .i64 s) := (hc _ _ (by (try simp) <;> omega)).trans (by go_simp)
  have c10_0_3 : w10.cell? ⟨w.heap.size, 3, none⟩ = some ((.slice g2 n c2)) := (hc _ _ (by (try simp) <;> omega)).trans (by go_simp)
  have c10_0_4 : w10.cell? ⟨w.heap.size, 4, none⟩ = some (.int .i64 s) := (hc _ _ (by (try simp) <;> omega)).trans (by go_simp)
  have c10_0_5 : w10.cell? ⟨w.heap.size, 5, none⟩ = some ((.slice g3 n c3)) := (hc _ _ (by (try simp) <;> omega)).trans (by go_simp)
  have z10_0 : ∀ j, w10.frozen? ⟨w.heap.size, j, none⟩ = false := fun j => (hf _ _ (by (try simp) <;> omega)).trans (by go_simp)
  have c10_1_0 : w10.cell? ⟨w2.heap.size, 0, none⟩ = some (.int .i64 s) := (hc _ _ (by (try simp) <;> omega)).trans (by go_simp)
  have c10_1_1 : w10.cell? ⟨w2.heap.size, 1, none⟩ = some ((.slice gx hl cx)) := (hc _ _ (by (try simp) <;> omega)).trans (by go_simp)
  have z10_1 : ∀ j, w10.frozen? ⟨w2.heap.size, j, none⟩ = false := fun j => (hf _ _ (by (try simp) <;> omega)).trans (by go_simp)
  have c10_2_0 : w10.cell? ⟨w9.heap.size, 0, none⟩ = some (.int .i64 s) := (hc _ _ (by (try simp) <;> omega)).trans (by go_simp)
  have c10_2_1 : w10.cell? ⟨w9.heap.size, 1, none⟩ = some ((.slice ga n ca)) := (hc _ _ (by (try simp) <;> omega)).trans (by go_simp)
  have z10_2 : ∀ j, w10.frozen? ⟨w9.heap.size, j, none⟩ = false := fun j => (hf _ _ (by (try simp) <;> omega)).trans (by go_simp)
  clear hc hf hb10 c9_0_0 c9_0_1 c9_0_2 c9_0_3 c9_0_4 c9_0_5 z9_0 c9_1_0 c9_1_1 z9_1
  go_wp2_with fail
  refine (HV2.out _ _ _ (HX.out.below ((Below.refl _ _).alloc (Nat.le_refl _) _))).mono ?_
  rintro en w11 ⟨gc, cc, rfl, ha, hb11⟩
  have HC := Kp.mk ha
  have HA := Kp.mk ((HA.out.below ((Below.refl _ _).alloc (Nat.le_refl _) _)).below hb11)
  have HB := Kp.mk ((HB.out.below ((Below.refl _ _).alloc (Nat.le_refl _) _)).below hb11)
  clear ha
  have HB11 : Kp (Below w.heap.size w w11) := ⟨Below.trans (by repeat (first | refine Below.alloc ?_ (by have := HB10.out.size; (try simp) <;> omega) _ | refine bDrewN ?_ _ | refine Below.drew ?_ | refine Below.setCell ?_ (by have := HB10.out.size; (try simp) <;> omega) _ | exact HB10.out)) (hb11.mono (by have := HB10.out.size; (try simp) <;> omega))⟩
  have hz11_0 : w.heap.size < w11.heap.size := by have := hb11.size; (try simp at this); omega
  have hz11_1 : w9.heap.size < w11.heap.size := by have := hb11.size; (try simp at this); omega
  have hz11_2 : w10.heap.size < w11.heap.size := by have := hb11.size; (try simp at this); omega
  obtain ⟨hc, hf⟩ := bcell hb11
  have c11_0_0 : w11.cell? ⟨w.heap.size, 0, none⟩ = some (.int .i64 s) := (hc _ _ (by (try simp) <;> omega)).trans (by go_simp)
  have c11_0_1 : w11.cell? ⟨w.heap.size, 1, none⟩ = some ((.slice g1 n c1)) := (hc _ _ (by (try simp) <;> omega)).trans (by go_simp)
  have c11_0_2 : w11.cell? ⟨w.heap.size, 2, none⟩ = some (.int .i64 s) := (hc _ _ (by (try simp) <;> omega)).trans (by go_simp)
  have c11_0_3 : w11.cell? ⟨w.heap.size, 3, none⟩ = some ((.slice g2 n c2)) := (hc _ _ (by (try simp) <;> omega)).trans (by go_simp)
  have c11_0_4 : w11.cell? ⟨w.heap.size, 4, none⟩ = some (.int .i64 s) := (hc _ _ (by (try simp) <;> omega)).trans (by go_simp)
  have c11_0_5 : w11.cell? ⟨w.heap.size, 5, none⟩ = some ((.slice g3 n c3)) := (hc _ _ (by (try simp) <;> omega)).trans (by go_simp)
  have z11_0 : ∀ j, w11.frozen? ⟨w.heap.size, j, none⟩ = false := fun j => (hf _ _ (by (try simp) <;> omega)).trans (by go_simp)
  have c11_1_0 : w11.cell? ⟨w9.heap.size, 0, none⟩ = some (.int .i64 s) := (hc _ _ (by (try simp) <;> omega)).trans (by go_simp)
  have c11_1_1 : w11.cell? ⟨w9.heap.size, 1, none⟩ = some ((.slice ga n ca)) := (hc _ _ (by (try simp) <;> omega)).trans (by go_simp)
  have z11_1 : ∀ j, w11.frozen? ⟨w9.heap.size, j, none⟩ = false := fun j => (hf _ _ (by (try simp) <;> omega)).trans (by go_simp)
  have c11_2_0 : w11.cell? ⟨w10.heap.size, 0, none⟩ = some (.int .i64 s) := (hc _ _ (by (try simp) <;> omega)).trans (by go_simp)
  have c11_2_1 : w11.cell? ⟨w10.heap.size, 1, none⟩ = some ((.slice gb n cb)) := (hc _ _ (by (try simp) <;> omega)).trans (by go_simp)
  have z11_2 : ∀ j, w11.frozen? ⟨w10.heap.size, j, none⟩ = false := fun j => (hf _ _ (by (try simp) <;> omega)).trans (by go_simp)
  clear hc hf hb11 c10_0_0 c10_0_1 c10_0_2 c10_0_3 c10_0_4 c10_0_5 z10_0 c10_1_0 c10_1_1 z10_1 c10_2_0 c10_2_1 z10_2
  go_wp2_with fail
  refine (HS0.out _ _ _ (HB11.out.alloc HB11.out.size _) (HA.out.below ((Below.refl _ _).alloc (Nat.le_refl _) _))).mono ?_
  rintro en w12 ⟨rfl, hb12⟩
  have HB := Kp.mk ((HB.out.below ((Below.refl _ _).alloc (Nat.le_refl _) _)).below hb12)
  have HC := Kp.mk ((HC.out.below ((Below.refl _ _).alloc (Nat.le_refl _) _)).below hb12)
  have HB12 : Kp (Below w.heap.size w w12) := ⟨Below.trans (by repeat (first | refine Below.alloc ?_ (by have := HB11.out.size; (try simp) <;> omega) _ | refine bDrewN ?_ _ | refine Below.drew ?_ | refine Below.setCell ?_ (by have := HB11.out.size; (try simp) <;> omega) _ | exact HB11.out)) (hb12.mono (by have := HB11.out.size; (try simp) <;> omega))⟩
  have hz12_0 : w.heap.size < w12.heap.size := by have := hb12.size; (try simp at this); omega
  have hz12_1 : w10.heap.size < w12.heap.size := by have := hb12.size; (try simp at this); omega
  have hz12_2 : w11.heap.size < w12.heap.size := by have := hb12.size; (try simp at this); omega
  obtain ⟨hc, hf⟩ := bcell hb12
  have c12_0_0 : w12.cell? ⟨w.heap.size, 0, none⟩ = some (.int .i64 s) := (hc _ _ (by (try simp) <;> omega)).trans (by go_simp)
  have c12_0_1 : w12.cell? ⟨w.heap.size, 1, none⟩ = some ((.slice g1 n c1)) := (hc _ _ (by (try simp) <;> omega)).trans (by go_simp)
  have c12_0_2 : w12.cell? ⟨w.heap.size, 2, none⟩ = some (.int .i64 s) := (hc _ _ (by (try simp) <;> omega)).trans (by go_simp)
  have c12_0_3 : w12.cell? ⟨w.heap.size, 3, none⟩ = some ((.slice g2 n c2)) := (hc _ _ (by (try simp) <;> omega)).trans (by go_simp)
  have c12_0_4 : w12.cell? ⟨w.heap.size, 4, none⟩ = some (.int .i64 s) := (hc _ _ (by (try simp) <;> omega)).trans (by go_simp)
  have c12_0_5 : w12.cell? ⟨w.heap.size, 5, none⟩ = some ((.slice g3 n c3)) := (hc _ _ (by (try simp) <;> omega)).trans (by go_simp)
  have z12_0 : ∀ j, w12.frozen? ⟨w.heap.size, j, none⟩ = false := fun j => (hf _ _ (by (try simp) <;> omega)).trans (by go_simp)
  have c12_1_0 : w12.cell? ⟨w10.heap.size, 0, none⟩ = some (.int .i64 s) := (hc _ _ (by (try simp) <;> omega)).trans (by go_simp)
  have c12_1_1 : w12.cell? ⟨w10.heap.size, 1, none⟩ = some ((.slice gb n cb)) := (hc _ _ (by (try simp) <;> omega)).trans (by go_simp)
  have z12_1 : ∀ j, w12.frozen? ⟨w10.heap.size, j, none⟩ = false := fun j => (hf _ _ (by (try simp) <;> omega)).trans (by go_simp)
  have c12_2_0 : w12.cell? ⟨w11.heap.size, 0, none⟩ = some (.int .i64 s) := (hc _ _ (by (try simp) <;> omega)).trans (by go_simp)
  have c12_2_1 : w12.cell? ⟨w11.heap.size, 1, none⟩ = some ((.slice gc n cc)) := (hc _ _ (by (try simp) <;> omega)).trans (by go_simp)
  have z12_2 : ∀ j, w12.frozen? ⟨w11.heap.size, j, none⟩ = false := fun j => (hf _ _ (by (try simp) <;> omega)).trans (by go_simp)
  clear hc hf hb12 c11_0_0 c11_0_1 c11_0_2 c11_0_3 c11_0_4 c11_0_5 z11_0 c11_1_0 c11_1_1 z11_1 c11_2_0 c11_2_1 z11_2
  go_wp2_with fail
  refine (HS1.out _ _ _ HB12.out HB.out).mono ?_
  rintro en w13 ⟨rfl, hb13⟩
  have HC := Kp.mk (HC.out.below hb13)
  have HB13 : Kp (Below w.heap.size w w13) := ⟨Below.trans (by repeat (first | refine Below.alloc ?_ (by have := HB12.out.size; (try simp) <;> omega) _ | refine bDrewN ?_ _ | refine Below.drew ?_ | refine Below.setCell ?_ (by have := HB12.out.size; (try simp) <;> omega) _ | exact HB12.out)) (hb13.mono (by have := HB12.out.size; (try simp) <;> omega))⟩
  have hz13_0 : w.heap.size < w13.heap.size := by have := hb13.size; (try simp at this); omega
  have hz13_1 : w11.heap.size < w13.heap.size := by have := hb13.size; (try simp at this); omega
  obtain ⟨hc, hf⟩ := bcell hb13
  have c13_0_0 : w13.cell? ⟨w.heap.size, 0, none⟩ = some (.int .i64 s) := (hc _ _ (by (try simp) <;> omega)).trans (by go_simp)
  have c13_0_1 : w13.cell? ⟨w.heap.size, 1, none⟩ = some ((.slice g1 n c1)) := (hc _ _ (by (try simp) <;> omega)).trans (by go_simp)
  have c13_0_2 : w13.cell? ⟨w.heap.size, 2, none⟩ = some (.int .i64 s) := (hc _ _ (by (try simp) <;> omega)).trans (by go_simp)
  have c13_0_3 : w13.cell? ⟨w.heap.size, 3, none⟩ = some ((.slice g2 n c2)) := (hc _ _ (by (try simp) <;> omega)).trans (by go_simp)
  have c13_0_4 : w13.cell? ⟨w.heap.size, 4, none⟩ = some (.int .i64 s) := (hc _ _ (by (try simp) <;> omega)).trans (by go_simp)
  have c13_0_5 : w13.cell? ⟨w.heap.size, 5, none⟩ = some ((.slice g3 n c3)) := (hc _ _ (by (try simp) <;> omega)).trans (by go_simp)
  have z13_0 : ∀ j, w13.frozen? ⟨w.heap.size, j, none⟩ = false := fun j => (hf _ _ (by (try simp) <;> omega)).trans (by go_simp)
  have c13_1_0 : w13.cell? ⟨w11.heap.size, 0, none⟩ = some (.int .i64 s) := (hc _ _ (by (try simp) <;> omega)).trans (by go_simp)
  have c13_1_1 : w13.cell? ⟨w11.heap.size, 1, none⟩ = some ((.slice gc n cc)) := (hc _ _ (by (try simp) <;> omega)).trans (by go_simp)
  have z13_1 : ∀ j, w13.frozen? ⟨w11.heap.size, j, none⟩ = false := fun j => (hf _ _ (by (try simp) <;> omega)).trans (by go_simp)
  clear hc hf hb13 c12_0_0 c12_0_1 c12_0_2 c12_0_3 c12_0_4 c12_0_5 z12_0 c12_1_0 c12_1_1 z12_1 c12_2_0 c12_2_1 z12_2
  go_wp2_with fail
  refine (HS2.out _ _ _ HB13.out HC.out).mono ?_
  rintro en w14 ⟨rfl, hb14⟩
  have HB14 : Kp (Below w.heap.size w w14) := ⟨HB13.out.trans (hb14.mono HB13.out.size)⟩
  clear hb14
  go_wp2_with fail
  refine (awake_any _).mono ?_
  rintro en wz ⟨rfl, hbz⟩
  have HBZ : Kp (Below w.heap.size w wz) := ⟨(HB14.out).trans (hbz.mono (HB14.out).size)⟩
  clear hbz
  go_wp2
  go_ret
  exact ⟨rfl, HBZ.out⟩
set_option maxRecDepth 100000 in
set_option maxHeartbeats 4000000 in
theorem hl_3 (s r1 r2 r3 r4 : Int) (g1 g2 g3 : Option Addr) (n c1 c2 c3 hl : Nat) (L V0 V1 V2 : List Bool) (w : World) (hr : (r4 == 8) = true) (H3 : Kp (∀ W, Calls Try.prog 36 #[.agg #[.int .i64 s, .slice g1 n c1, .int .i64 s, .slice g2 n c2, .int .i64 s, .slice g3 n c3]] W fun e w' => e = .returned (.bool true) ∧ Below W.heap.size W w')) (HHU : Kp (∀ W, Below w.heap.size w W → Calls Try.prog 37 #[.agg #[.int .i64 s, .slice g1 n c1], .agg #[.int .i64 s, .slice g2 n c2], .agg #[.int .i64 s, .slice g3 n c3]] W fun e w' => ∃ g c, e = .returned (.tuple #[.agg #[.int .i64 s, .slice g hl c], .int .i64 0]) ∧ LB w' (.slice g hl c) L ∧ Below W.heap.size W w')) (HRH : Kp (∀ W, Below w.heap.size w W → Calls Try.prog 38 #[.agg #[.int .i64 s, .slice g1 n c1], .agg #[.int .i64 s, .slice g2 n c2], .agg #[.int .i64 s, .slice g3 n c3]] W fun e w' => ∃ g c, e = .returned (.tuple #[.agg #[.int .i64 s, .slice g hl c], .int .i64 0]) ∧ LB w' (.slice g hl c) L ∧ Below W.heap.size W w')) (HPO : Kp (∀ W, Below w.heap.size w W → Calls Try.prog 39 #[.agg #[.int .i64 s, .slice g1 n c1], .agg #[.int .i64 s, .slice g2 n c2], .agg #[.int .i64 s, .slice g3 n c3]] W fun e w' => e = .returned (.tuple #[.bool true, .int .i64 0]) ∧ Below W.heap.size W w')) (HRP : Kp (∀ W, Below w.heap.size w W → Calls Try.prog 40 #[.agg #[.int .i64 s, .slice g1 n c1], .agg #[.int .i64 s, .slice g2 n c2], .agg #[.int .i64 s, .slice g3 n c3]] W fun e w' => e = .returned (.tuple #[.bool true, .int .i64 0]) ∧ Below W.heap.size W w')) (HSA : Kp (∀ W g g' c c', LB W (.slice g hl c) L → LB W (.slice g' hl c') L → Calls Try.prog 25 #[.agg #[.int .i64 s, .slice g hl c], .agg #[.int .i64 s, .slice g' hl c']] W fun e w' => e = .returned (.bool true) ∧ Below W.heap.size W w')) (HWR : Kp (∀ W, Below w.heap.size w W → Calls Try.prog 41 #[.agg #[.int .i64 s, .slice g1 n c1], .agg #[.int .i64 s, .slice g2 n c2], .agg #[.int .i64 s, .slice g3 n c3]] W fun e w' => e = .returned (.tuple #[.int .i64 r1, .int .i64 r2, .int .i64 r3, .int .i64 r4]) ∧ Below W.heap.size W w')) (HRW : Kp (∀ W, Below w.heap.size w W → Calls Try.prog 42 #[.agg #[.int .i64 s, .slice g1 n c1], .agg #[.int .i64 s, .slice g2 n c2], .agg #[.int .i64 s, .slice g3 n c3]] W fun e w' => e = .returned (.tuple #[.int .i64 r1, .int .i64 r2, .int .i64 r3, .int .i64 r4]) ∧ Below W.heap.size W w')) (HV0 : Kp (∀ W g c, LB W (.slice g hl c) L → Calls Try.prog 28 #[.agg #[.int .i64 s, .slice g hl c], .int .i64 0] W fun e w' => ∃ g' c', e = .returned (.tuple #[.agg #[.int .i64 s, .slice g' n c'], .int .i64 0]) ∧ LB w' (.slice g' n c') V0 ∧ Below W.heap.size W w')) (HV1 : Kp (∀ W g c, LB W (.slice g hl c) L → Calls Try.prog 28 #[.agg #[.int .i64 s, .slice g hl c], .int .i64 1] W fun e w' => ∃ g' c', e = .returned (.tuple #[.agg #[.int .i64 s, .slice g' n c'], .int .i64 0]) ∧ LB w' (.slice g' n c') V1 ∧ Below W.heap.size W w')) (HV2 : Kp (∀ W g c, LB W (.slice g hl c) L → Calls Try.prog 28 #[.agg #[.int .i64 s, .slice g hl c], .int .i64 2] W fun e w' => ∃ g' c', e = .returned (.tuple #[.agg #[.int .i64 s, .slice g' n c'], .int .i64 0]) ∧ LB w' (.slice g' n c') V2 ∧ Below W.heap.size W w')) (HS0 : Kp (∀ W g c, Below w.heap.size w W → LB W (.slice g n c) V0 → Calls Try.prog 31 #[.agg #[.int .i64 s, .slice g n c], .agg #[.int .i64 s, .slice g1 n c1]] W fun e w' => e = .returned (.bool true) ∧ Below W.heap.size W w')) (HS1 : Kp (∀ W g c, Below w.heap.size w W → LB W (.slice g n c) V1 → Calls Try.prog 31 #[.agg #[.int .i64 s, .slice g n c], .agg #[.int .i64 s, .slice g2 n c2]] W fun e w' => e = .returned (.bool true) ∧ Below W.heap.size W w')) (HS2 : Kp (∀ W g c, Below w.heap.size w W → LB W (.slice g n c) V2 → Calls Try.prog 31 #[.agg #[.int .i64 s, .slice g n c], .agg #[.int .i64 s, .slice g3 n c3]] W fun e w' => e = .returned (.bool true) ∧ Below W.heap.size W w')) :
    Calls Try.prog 5 #[.agg #[.int .i64 s, .slice g1 n c1, .int .i64 s, .slice g2 n c2, .int .i64 s, .slice g3 n c3]] w (EndsH w) := by
  have t1 : (r1 != r1) = false := by simp
  have t2 : (r2 != r2) = false := by simp
  have t3 : (r3 != r3) = false := by simp
  have t4 : (r4 != r4) = false := by simp
  go_enter Try.func5, Try.ntmps5
  go_wp2_with fail
  refine (H3.out _).mono ?_
  rintro en w1 ⟨rfl, hb1⟩
  have HB1 : Kp (Below w.heap.size w w1) := ⟨Below.trans (by repeat (first | refine Below.alloc ?_ (by (try simp) <;> omega) _ | refine bDrewN ?_ _ | refine Below.drew ?_ | refine Below.setCell ?_ (by (try simp) <;> omega) _ | exact Below.refl _ _)) (hb1.mono (by (try simp) <;> omega))⟩
  have hz1_0 : w.heap.size < w1.heap.size := by have := hb1.size; (try simp at this); omega
  obtain ⟨hc, hf⟩ := bcell hb1
  have c1_0_0 : w1.cell? ⟨w.heap.size, 0, none⟩ = some (.int .i64 s) := (hc _ _ (by (try simp) <;> omega)).trans (by go_simp)
  have c1_0_1 : w1.cell? ⟨w.heap.size, 1, none⟩ = some ((.slice g1 n c1)) := (hc _ _ (by (try simp) <;> omega)).trans (by go_simp)
  have c1_0_2 : w1.cell? ⟨w.heap.size, 2, none⟩ = some (.int .i64 s) := (hc _ _ (by (try simp) <;> omega)).trans (by go_simp)
  have c1_0_3 : w1.cell? ⟨w.heap.size, 3, none⟩ = some ((.slice g2 n c2)) := (hc _ _ (by (try simp) <;> omega)).trans (by go_simp)
  have c1_0_4 : w1.cell? ⟨w.heap.size, 4, none⟩ = some (.int .i64 s) := (hc _ _ (by (try simp) <;> omega)).trans (by go_simp)
  have c1_0_5 : w1.cell? ⟨w.heap.size, 5, none⟩ = some ((.slice g3 n c3)) := (hc _ _ (by (try simp) <;> omega)).trans (by go_simp)
  have z1_0 : ∀ j, w1.frozen? ⟨w.heap.size, j, none⟩ = false := fun j => (hf _ _ (by (try simp) <;> omega)).trans (by go_simp)
  clear hc hf hb1
  go_wp2_with fail
  refine (HHU.out _ HB1.out).mono ?_
  rintro en w2 ⟨gx, cx, rfl, hx, hb2⟩
  have HX := Kp.mk hx
  clear hx
  have HB2 : Kp (Below w.heap.size w w2) := ⟨Below.trans (by repeat (first | refine Below.alloc ?_ (by have := HB1.out.size; (try simp) <;> omega) _ | refine bDrewN ?_ _ | refine Below.drew ?_ | refine Below.setCell ?_ (by have := HB1.out.size; (try simp) <;> omega) _ | exact HB1.out)) (hb2.mono (by have := HB1.out.size; (try simp) <;> omega))⟩
  have hz2_0 : w.heap.size < w2.heap.size := by have := hb2.size; (try simp at this); omega
  obtain ⟨hc, hf⟩ := bcell hb2
  have c2_0_0 : w2.cell? ⟨w.heap.size, 0, none⟩ = some (.int .i64 s) := (hc _ _ (by (try simp) <;> omega)).trans (by go_simp)
  have c2_0_1 : w2.cell? ⟨w.heap.size, 1, none⟩ = some ((.slice g1 n c1)) := (hc _ _ (by (try simp) <;> omega)).trans (by go_simp)
  have c2_0_2 : w2.cell? ⟨w.heap.size, 2, none⟩ = some (.int .i64 s) := (hc _ _ (by (try simp) <;> omega)).trans (by go_simp)
  have c2_0_3 : w2.cell? ⟨w.heap.size, 3, none⟩ = some ((.slice g2 n c2)) := (hc _ _ (by (try simp) <;> omega)).trans (by go_simp)
  have c2_0_4 : w2.cell? ⟨w.heap.size, 4, none⟩ = some (.int .i64 s) := (hc _ _ (by (try simp) <;> omega)).trans (by go_simp)
  have c2_0_5 : w2.cell? ⟨w.heap.size, 5, none⟩ = some ((.slice g3 n c3)) := (hc _ _ (by (try simp) <;> omega)).trans (by go_simp)
  have z2_0 : ∀ j, w2.frozen? ⟨w.heap.size, j, none⟩ = false := fun j => (hf _ _ (by (try simp) <;> omega)).trans (by go_simp)
  clear hc hf hb2
  go_wp2_with fail
  refine (HRH.out _ (HB2.out.alloc HB2.out.size _)).mono ?_
  rintro en w3 ⟨gy, cy, rfl, hy, hb3⟩
  have HYY := Kp.mk hy
  have HX := Kp.mk ((HX.out.below ((Below.refl _ _).alloc (Nat.le_refl _) _)).below hb3)
  clear hy
  have HB3 : Kp (Below w.heap.size w w3) := ⟨Below.trans (by repeat (first | refine Below.alloc ?_ (by have := HB2.out.size; (try simp) <;> omega) _ | refine bDrewN ?_ _ | refine Below.drew ?_ | refine Below.setCell ?_ (by have := HB2.out.size; (try simp) <;> omega) _ | exact HB2.out)) (hb3.mono (by have := HB2.out.size; (try simp) <;> omega))⟩
  have hz3_0 : w.heap.size < w3.heap.size := by have := hb3.size; (try simp at this); omega
  have hz3_1 : w2.heap.size < w3.heap.size := by have := hb3.size; (try simp at this); omega
  obtain ⟨hc, hf⟩ := bcell hb3
  have c3_0_0 : w3.cell? ⟨w.heap.size, 0, none⟩ = some (.int .i64 s) := (hc _ _ (by (try simp) <;> omega)).trans (by go_simp)
  have c3_0_1 : w3.cell? ⟨w.heap.size, 1, none⟩ = some ((.slice g1 n c1)) := (hc _ _ (by (try simp) <;> omega)).trans (by go_simp)
  have c3_0_2 : w3.cell? ⟨w.heap.size, 2, none⟩ = some (.int .i64 s) := (hc _ _ (by (try simp) <;> omega)).trans (by go_simp)
  have c3_0_3 : w3.cell? ⟨w.heap.size, 3, none⟩ = some ((.slice g2 n c2)) := (hc _ _ (by (try simp) <;> omega)).trans (by go_simp)
  have c3_0_4 : w3.cell? ⟨w.heap.size, 4, none⟩ = some (.int .i64 s) := (hc _ _ (by (try simp) <;> omega)).trans (by go_simp)
  have c3_0_5 : w3.cell? ⟨w.heap.size, 5, none⟩ = some ((.slice g3 n c3)) := (hc _ _ (by (try simp) <;> omega)).trans (by go_simp)
  have z3_0 : ∀ j, w3.frozen? ⟨w.heap.size, j, none⟩ = false := fun j => (hf _ _ (by (try simp) <;> omega)).trans (by go_simp)
  have c3_1_0 : w3.cell? ⟨w2.heap.size, 0, none⟩ = some (.int .i64 s) := (hc _ _ (by (try simp) <;> omega)).trans (by go_simp)
  have c3_1_1 : w3.cell? ⟨w2.heap.size, 1, none⟩ = some ((.slice gx hl cx)) := (hc _ _ (by (try simp) <;> omega)).trans (by go_simp)
  have z3_1 : ∀ j, w3.frozen? ⟨w2.heap.size, j, none⟩ = false := fun j => (hf _ _ (by (try simp) <;> omega)).trans (by go_simp)
  clear hc hf hb3
  go_wp2_with fail
  refine (HPO.out _ (HB3.out.alloc HB3.out.size _)).mono ?_
  rintro en w4 ⟨rfl, hb4⟩
  have HX := Kp.mk ((HX.out.below ((Below.refl _ _).alloc (Nat.le_refl _) _)).below hb4)
  have HYY := Kp.mk ((HYY.out.below ((Below.refl _ _).alloc (Nat.le_refl _) _)).below hb4)
  have HB4 : Kp (Below w.heap.size w w4) := ⟨Below.trans (by repeat (first | refine Below.alloc ?_ (by have := HB3.out.size; (try simp) <;> omega) _ | refine bDrewN ?_ _ | refine Below.drew ?_ | refine Below.setCell ?_ (by have := HB3.out.size; (try simp) <;> omega) _ | exact HB3.out)) (hb4.mono (by have := HB3.out.size; (try simp) <;> omega))⟩
  have hz4_0 : w.heap.size < w4.heap.size := by have := hb4.size; (try simp at this); omega
  have hz4_1 : w2.heap.size < w4.heap.size := by have := hb4.size; (try simp at this); omega
  have hz4_2 : w3.heap.size < w4.heap.size := by have := hb4.size; (try simp at this); omega
  obtain ⟨hc, hf⟩ := bcell hb4
  have c4_0_0 : w4.cell? ⟨w.heap.size, 0, none⟩ = some (.int .i64 s) := (hc _ _ (by (try simp) <;> omega)).trans (by go_simp)
  have c4_0_1 : w4.cell? ⟨w.heap.size, 1, none⟩ = some ((.slice g1 n c1)) := (hc _ _ (by (try simp) <;> omega)).trans (by go_simp)
  have c4_0_2 : w4.cell? ⟨w.heap.size, 2, none⟩ = some (.int .i64 s) := (hc _ _ (by (try simp) <;> omega)).trans (by go_simp)
  have c4_0_3 : w4.cell? ⟨w.heap.size, 3, none⟩ = some ((.slice g2 n c2)) := (hc _ _ (by (try simp) <;> omega)).trans (by go_simp)
  have c4_0_4 : w4.cell? ⟨w.heap.size, 4, none⟩ = some (.int .i64 s) := (hc _ _ (by (try simp) <;> omega)).trans (by go_simp)
  have c4_0_5 : w4.cell? ⟨w.heap.size, 5, none⟩ = some ((.slice g3 n c3)) := (hc _ _ (by (try simp) <;> omega)).trans (by go_simp)
  have z4_0 : ∀ j, w4.frozen? ⟨w.heap.size, j, none⟩ = false := fun j => (hf _ _ (by (try simp) <;> omega)).trans (by go_simp)
  have c4_1_0 : w4.cell? ⟨w2.heap.size, 0, none⟩ = some (.int .i64 s) := (hc _ _ (by (try simp) <;> omega)).trans (by go_simp)
  have c4_1_1 : w4.cell? ⟨w2.heap.size, 1, none⟩ = some ((.slice gx hl cx)) := (hc _ _ (by (try simp) <;> omega)).trans (by go_simp)
  have z4_1 : ∀ j, w4.frozen? ⟨w2.heap.size, j, none⟩ = false := fun j => (hf _ _ (by (try simp) <;> omega)).trans (by go_simp)
  have c4_2_0 : w4.cell? ⟨w3.heap.size, 0, none⟩ = some (.int .i64 s) := (hc _ _ (by (try simp) <;> omega)).trans (by go_simp)
  have c4_2_1 : w4.cell? ⟨w3.heap.size, 1, none⟩ = some ((.slice gy hl cy)) := (hc _ _ (by (try simp) <;> omega)).trans (by go_simp)
  have z4_2 : ∀ j, w4.frozen? ⟨w3.heap.size, j, none⟩ = false := fun j => (hf _ _ (by (try simp) <;> omega)).trans (by go_simp)
  clear hc hf hb4
  go_wp2_with fail
  refine (HRP.out _ HB4.out).mono ?_
  rintro en w5 ⟨rfl, hb5⟩
  have HX := Kp.mk (HX.out.below hb5)
  have HYY := Kp.mk (HYY.out.below hb5)
  have HB5 : Kp (Below w.heap.size w w5) := ⟨Below.trans (by repeat (first | refine Below.alloc ?_ (by have := HB4.out.size; (try simp) <;> omega) _ | refine bDrewN ?_ _ | refine Below.drew ?_ | refine Below.setCell ?_ (by have := HB4.out.size; (try simp) <;> omega) _ | exact HB4.out)) (hb5.mono (by have := HB4.out.size; (try simp) <;> omega))⟩
  have hz5_0 : w.heap.size < w5.heap.size := by have := hb5.size; (try simp at this); omega
  have hz5_1 : w2.heap.size < w5.heap.size := by have := hb5.size; (try simp at this); omega
  have hz5_2 : w3.heap.size < w5.heap.size := by have := hb5.size; (try simp at this); omega
  obtain ⟨hc, hf⟩ := bcell hb5
  have c5_0_0 : w5.cell? ⟨w.heap.size, 0, none⟩ = some (.int .i64 s) := (hc _ _ (by (try simp) <;> omega)).trans (by go_simp)
  have c5_0_1 : w5.cell? ⟨w.heap.size, 1, none⟩ = some ((.slice g1 n c1)) := (hc _ _ (by (try simp) <;> omega)).trans (by go_simp)
  have c5_0_2 : w5.cell? ⟨w.heap.size, 2, none⟩ = some (.int .i64 s) := (hc _ _ (by (try simp) <;> omega)).trans (by go_simp)
  have c5_0_3 : w5.cell? ⟨w.heap.size, 3, none⟩ = some ((.slice g2 n c2)) := (hc _ _ (by (try simp) <;> omega)).trans (by go_simp)
  have c5_0_4 : w5.cell? ⟨w.heap.size, 4, none⟩ = some (.int .i64 s) := (hc _ _ (by (try simp) <;> omega)).trans (by go_simp)
  have c5_0_5 : w5.cell? ⟨w.heap.size, 5, none⟩ = some ((.slice g3 n c3)) := (hc _ _ (by (try simp) <;> omega)).trans (by go_simp)
  have z5_0 : ∀ j, w5.frozen? ⟨w.heap.size, j, none⟩ = false := fun j => (hf _ _ (by (try simp) <;> omega)).trans (by go_simp)
  have c5_1_0 : w5.cell? ⟨w2.heap.size, 0, none⟩ = some (.int .i64 s) := (hc _ _ (by (try simp) <;> omega)).trans (by go_simp)
  have c5_1_1 : w5.cell? ⟨w2.heap.size, 1, none⟩ = some ((.slice gx hl cx)) := (hc _ _ (by (try simp) <;> omega)).trans (by go_simp)
  have z5_1 : ∀ j, w5.frozen? ⟨w2.heap.size, j, none⟩ = false := fun j => (hf _ _ (by (try simp) <;> omega)).trans (by go_simp)
  have c5_2_0 : w5.cell? ⟨w3.heap.size, 0, none⟩ = some (.int .i64 s) := (hc _ _ (by (try simp) <;> omega)).trans (by go_simp)
  have c5_2_1 : w5.cell? ⟨w3.heap.size, 1, none⟩ = some ((.slice gy hl cy)) := (hc _ _ (by (try simp) <;> omega)).trans (by go_simp)
  have z5_2 : ∀ j, w5.frozen? ⟨w3.heap.size, j, none⟩ = false := fun j => (hf _ _ (by (try simp) <;> omega)).trans (by go_simp)
  clear hc hf hb5
  go_wp2_with fail
  refine (HSA.out _ _ _ _ _ HX.out HYY.out).mono ?_
  rintro en w6 ⟨rfl, hb6⟩
  have HX := Kp.mk (HX.out.below hb6)
  have HB6 : Kp (Below w.heap.size w w6) := ⟨Below.trans (by repeat (first | refine Below.alloc ?_ (by have := HB5.out.size; (try simp) <;> omega) _ | refine bDrewN ?_ _ | refine Below.drew ?_ | refine Below.setCell ?_ (by have := HB5.out.size; (try simp) <;> omega) _ | exact HB5.out)) (hb6.mono (by have := HB5.out.size; (try simp) <;> omega))⟩
  have hz6_0 : w.heap.size < w6.heap.size := by have := hb6.size; (try simp at this); omega
  have hz6_1 : w2.heap.size < w6.heap.size := by have := hb6.size; (try simp at this); omega
  obtain ⟨hc, hf⟩ := bcell hb6
  have c6_0_0 : w6.cell? ⟨w.heap.size, 0, none⟩ = some (.int .i64 s) := (hc _ _ (by (try simp) <;> omega)).trans (by go_simp)
  have c6_0_1 : w6.cell? ⟨w.heap.size, 1, none⟩ = some ((.slice g1 n c1)) := (hc _ _ (by (try simp) <;> omega)).trans (by go_simp)
  have c6_0_2 : w6.cell? ⟨w.heap.size, 2, none⟩ = some (.int .i64 s) := (hc _ _ (by (try simp) <;> omega)).trans (by go_simp)
  have c6_0_3 : w6.cell? ⟨w.heap.size, 3, none⟩ = some ((.slice g2 n c2)) := (hc _ _ (by (try simp) <;> omega)).trans (by go_simp)
  have c6_0_4 : w6.cell? ⟨w.heap.size, 4, none⟩ = some (.int .i64 s) := (hc _ _ (by (try simp) <;> omega)).trans (by go_simp)
  have c6_0_5 : w6.cell? ⟨w.heap.size, 5, none⟩ = some ((.slice g3 n c3)) := (hc _ _ (by (try simp) <;> omega)).trans (by go_simp)
  have z6_0 : ∀ j, w6.frozen? ⟨w.heap.size, j, none⟩ = false := fun j => (hf _ _ (by (try simp) <;> omega)).trans (by go_simp)
  have c6_1_0 : w6.cell? ⟨w2.heap.size, 0, none⟩ = some (.int .i64 s) := (hc _ _ (by (try simp) <;> omega)).trans (by go_simp)
  have c6_1_1 : w6.cell? ⟨w2.heap.size, 1, none⟩ = some ((.slice gx hl cx)) := (hc _ _ (by (try simp) <;> omega)).trans (by go_simp)
  have z6_1 : ∀ j, w6.frozen? ⟨w2.heap.size, j, none⟩ = false := fun j => (hf _ _ (by (try simp) <;> omega)).trans (by go_simp)
  clear hc hf hb6
  clear HYY
  go_wp2_with fail
  refine (HWR.out _ HB6.out).mono ?_
  rintro en w7 ⟨rfl, hb7⟩
  have HX := Kp.mk (HX.out.below hb7)
  have HB7 : Kp (Below w.heap.size w w7) := ⟨Below.trans (by repeat (first | refine Below.alloc ?_ (by have := HB6.out.size; (try simp) <;> omega) _ | refine bDrewN ?_ _ | refine Below.drew ?_ | refine Below.setCell ?_ (by have := HB6.out.size; (try simp) <;> omega) _ | exact HB6.out)) (hb7.mono (by have := HB6.out.size; (try simp) <;> omega))⟩
  have hz7_0 : w.heap.size < w7.heap.size := by have := hb7.size; (try simp at this); omega
  have hz7_1 : w2.heap.size < w7.heap.size := by have := hb7.size; (try simp at this); omega
  obtain ⟨hc, hf⟩ := bcell hb7
  have c7_0_0 : w7.cell? ⟨w.heap.size, 0, none⟩ = some (.int .i64 s) := (hc _ _ (by (try simp) <;> omega)).trans (by go_simp)
  have c7_0_1 : w7.cell? ⟨w.heap.size, 1, none⟩ = some ((.slice g1 n c1)) := (hc _ _ (by (try simp) <;> omega)).trans (by go_simp)
  have c7_0_2 : w7.cell? ⟨w.heap.size, 2, none⟩ = some (.int .i64 s) := (hc _ _ (by (try simp) <;> omega)).trans (by go_simp)
  have c7_0_3 : w7.cell? ⟨w.heap.size, 3, none⟩ = some ((.slice g2 n c2)) := (hc _ _ (by (try simp) <;> omega)).trans (by go_simp)
  have c7_0_4 : w7.cell? ⟨w.heap.size, 4, none⟩ = some (.int .i64 s) := (hc _ _ (by (try simp) <;> omega)).trans (by go_simp)
  have c7_0_5 : w7.cell? ⟨w.heap.size, 5, none⟩ = some ((.slice g3 n c3)) := (hc _ _ (by (try simp) <;> omega)).trans (by go_simp)
  have z7_0 : ∀ j, w7.frozen? ⟨w.heap.size, j, none⟩ = false := fun j => (hf _ _ (by (try simp) <;> omega)).trans (by go_simp)
  have c7_1_0 : w7.cell? ⟨w2.heap.size, 0, none⟩ = some (.int .i64 s) := (hc _ _ (by (try simp) <;> omega)).trans (by go_simp)
  have c7_1_1 : w7.cell? ⟨w2.heap.size, 1, none⟩ = some ((.slice gx hl cx)) := (hc _ _ (by (try simp) <;> omega)).trans (by go_simp)
  have z7_1 : ∀ j, w7.frozen? ⟨w2.heap.size, j, none⟩ = false := fun j => (hf _ _ (by (try simp) <;> omega)).trans (by go_simp)
  clear hc hf hb7
  go_wp2_with fail
  refine (HRW.out _ HB7.out).mono ?_
  rintro en w8 ⟨rfl, hb8⟩
  have HX := Kp.mk (HX.out.below hb8)
  have HB8 : Kp (Below w.heap.size w w8) := ⟨Below.trans (by repeat (first | refine Below.alloc ?_ (by have := HB7.out.size; (try simp) <;> omega) _ | refine bDrewN ?_ _ | refine Below.drew ?_ | refine Below.setCell ?_ (by have := HB7.out.size; (try simp) <;> omega) _ | exact HB7.out)) (hb8.mono (by have := HB7.out.size; (try simp) <;> omega))⟩
  have hz8_0 : w.heap.size < w8.heap.size := by have := hb8.size; (try simp at this); omega
  have hz8_1 : w2.heap.size < w8.heap.size := by have := hb8.size; (try simp at this); omega
  obtain ⟨hc, hf⟩ := bcell hb8
  have c8_0_0 : w8.cell? ⟨w.heap.size, 0, none⟩ = some (.int .i64 s) := (hc _ _ (by (try simp) <;> omega)).trans (by go_simp)
  have c8_0_1 : w8.cell? ⟨w.heap.size, 1, none⟩ = some ((.slice g1 n c1)) := (hc _ _ (by (try simp) <;> omega)).trans (by go_simp)
  have c8_0_2 : w8.cell? ⟨w.heap.size, 2, none⟩ = some (.int .i64 s) := (hc _ _ (by (try simp) <;> omega)).trans (by go_simp)
  have c8_0_3 : w8.cell? ⟨w.heap.size, 3, none⟩ = some ((.slice g2 n c2)) := (hc _ _ (by (try simp) <;> omega)).trans (by go_simp)
  have c8_0_4 : w8.cell? ⟨w.heap.size, 4, none⟩ = some (.int .i64 s) := (hc _ _ (by (try simp) <;> omega)).trans (by go_simp)
  have c8_0_5 : w8.cell? ⟨w.heap.size, 5, none⟩ = some ((.slice g3 n c3)) := (hc _ _ (by (try simp) <;> omega)).trans (by go_simp)
  have z8_0 : ∀ j, w8.frozen? ⟨w.heap.size, j, none⟩ = false := fun j => (hf _ _ (by (try simp) <;> omega)).trans (by go_simp)
  have c8_1_0 : w8.cell? ⟨w2.heap.size, 0, none⟩ = some (.int .i64 s) := (hc _ _ (by (try simp) <;> omega)).trans (by go_simp)
  have c8_1_1 : w8.cell? ⟨w2.heap.size, 1, none⟩ = some ((.slice gx hl cx)) := (hc _ _ (by (try simp) <;> omega)).trans (by go_simp)
  have z8_1 : ∀ j, w8.frozen? ⟨w2.heap.size, j, none⟩ = false := fun j => (hf _ _ (by (try simp) <;> omega)).trans (by go_simp)
  clear hc hf hb8
  go_wp2_with fail
  refine (HV0.out _ _ _ HX.out).mono ?_
  rintro en w9 ⟨ga, ca, rfl, ha, hb9⟩
  have HA := Kp.mk ha
  have HX := Kp.mk (HX.out.below hb9)
  clear ha
  have HB9 : Kp (Below w.heap.size w w9) := ⟨Below.trans (by repeat (first | refine Below.alloc ?_ (by have := HB8.out.size; (try simp) <;> omega) _ | refine bDrewN ?_ _ | refine Below.drew ?_ | refine Below.setCell ?_ (by have := HB8.out.size; (try simp) <;> omega) _ | exact HB8.out)) (hb9.mono (by have := HB8.out.size; (try simp) <;> omega))⟩
  have hz9_0 : w.heap.size < w9.heap.size := by have := hb9.size; (try simp at this); omega
  have hz9_1 : w2.heap.size < w9.heap.size := by have := hb9.size; (try simp at this); omega
  obtain ⟨hc, hf⟩ := bcell hb9
  have c9_0_0 : w9.cell? ⟨w.heap.size, 0, none⟩ = some (.int .i64 s) := (hc _ _ (by (try simp) <;> omega)).trans (by go_simp)
  have c9_0_1 : w9.cell? ⟨w.heap.size, 1, none⟩ = some ((.slice g1 n c1)) := (hc _ _ (by (try simp) <;> omega)).trans (by go_simp)
  have c9_0_2 : w9.cell? ⟨w.heap.size, 2, none⟩ = some (.int .i64 s) := (hc _ _ (by (try simp) <;> omega)).trans (by go_simp)
  have c9_0_3 : w9.cell? ⟨w.heap.size, 3, none⟩ = some ((.slice g2 n c2)) := (hc _ _ (by (try simp) <;> omega)).trans (by go_simp)
  have c9_0_4 : w9.cell? ⟨w.heap.size, 4, none⟩ = some (.int .i64 s) := (hc _ _ (by (try simp) <;> omega)).trans (by go_simp)
  have c9_0_5 : w9.cell? ⟨w.heap.size, 5, none⟩ = some ((.slice g3 n c3)) := (hc _ _ (by (try simp) <;> omega)).trans (by go_simp)
  have z9_0 : ∀ j, w9.frozen? ⟨w.heap.size, j, none⟩ = false := fun j => (hf _ _ (by (try simp) <;> omega)).trans (by go_simp)
  have c9_1_0 : w9.cell? ⟨w2.heap.size, 0, none⟩ = some (.int .i64 s) := (hc _ _ (by (try simp) <;> omega)).trans (by go_simp)
  have c9_1_1 : w9.cell? ⟨w2.heap.size, 1, none⟩ = some ((.slice gx hl cx)) := (hc _ _ (by (try simp) <;> omega)).trans (by go_simp)
  have z9_1 : ∀ j, w9.frozen? ⟨w2.heap.size, j, none⟩ = false := fun j => (hf _ _ (by (try simp) <;> omega)).trans (by go_simp)
  clear hc hf hb9
  go_wp2_with fail
  refine (HV1.out _ _ _ (HX.out.below ((Below.refl _ _).alloc (Nat.le_refl _) _))).mono ?_
  rintro en w10 ⟨gb, cb, rfl, ha, hb10⟩
  have HB := Kp.mk ha
  have HA := Kp.mk ((HA.out.below ((Below.refl _ _).alloc (Nat.le_refl _) _)).below hb10)
  have HX := Kp.mk ((HX.out.below ((Below.refl _ _).alloc (Nat.le_refl _) _)).below hb10)
  clear ha
  have HB10 : Kp (Below w.heap.size w w10) := ⟨Below.trans (by repeat (first | refine Below.alloc ?_ (by have := HB9.out.size; (try simp) <;> omega) _ | refine bDrewN ?_ _ | refine Below.drew ?_ | refine Below.setCell ?_ (by have := HB9.out.size; (try simp) <;> omega) _ | exact HB9.out)) (hb10.mono (by have := HB9.out.size; (try simp) <;> omega))⟩
  have hz10_0 : w.heap.size < w10.heap.size := by have := hb10.size; (try simp at this); omega
  have hz10_1 : w2.heap.size < w10.heap.size := by have := hb10.size; (try simp at this); omega
  have hz10_2 : w9.heap.size < w10.heap.size := by have := hb10.size; (try simp at this); omega
  obtain ⟨hc, hf⟩ := bcell hb10
  have c10_0_0 : w10.cell? ⟨w.heap.size, 0, none⟩ = some (.int .i64 s) := (hc _ _ (by (try simp) <;> omega)).trans (by go_simp)
  have c10_0_1 : w10.cell? ⟨w.heap.size, 1, none⟩ = some ((.slice g1 n c1)) := (hc _ _ (by (try simp) <;> omega)).trans (by go_simp)
  have c10_0_2 : w10.cell? ⟨w.heap.size, 2, none⟩ = some (.int .i64 s) := (hc _ _ (by (try simp) <;> omega)).trans (by go_simp)
  have c10_0_3 : w10.cell? ⟨w.heap.size, 3, none⟩ = some ((.slice g2 n c2)) := (hc _ _ (by (try simp) <;> omega)).trans (by go_simp)
  have c10_0_4 : w10.cell? ⟨w.heap.size, 4, none⟩ = some (.int .i64 s) := (hc _ _ (by (try simp) <;> omega)).trans (by go_simp)
  have c10_0_5 : w10.cell? ⟨w.heap.size, 5, none⟩ = some ((.slice g3 n c3)) := (hc _ _ (by (try simp) <;> omega)).trans (by go_simp)
  have z10_0 : ∀ j, w10.frozen? ⟨w.heap.size, j, none⟩ = false := fun j => (hf _ _ (by (try simp) <;> omega)).trans (by go_simp)
  have c10_1_0 : w10.cell? ⟨w2.heap.size, 0, none⟩ = some (.int .i64 s) := (hc _ _ (by (try simp) <;> omega)).trans (by go_simp)
  have c10_1_1 : w10.cell? ⟨w2.heap.size, 1, none⟩ = some ((.slice gx hl cx)) := (hc _ _ (by (try simp) <;> omega)).trans (by go_simp)
  have z10_1 : ∀ j, w10.frozen? ⟨w2.heap.size, j, none⟩ = false := fun j => (hf _ _ (by (try simp) <;> omega)).trans (by go_simp)
  have c10_2_0 : w10.cell? ⟨w9.heap.size, 0, none⟩ = some (.int .i64 s) := (hc _ _ (by (try simp) <;> omega)).trans (by go_simp)
  have c10_2_1 : w10.cell? ⟨w9.heap.size, 1, none⟩ = some ((.slice ga n ca)) := (hc _ _ (by (try simp) <;> omega)).trans (by go_simp)
  have z10_2 : ∀ j, w10.frozen? ⟨w9.heap.size, j, none⟩ = false := fun j => (hf _ _ (by (try simp) <;> omega)).trans (by go_simp)
  clear hc hf hb10
  go_wp2_with fail
  refine (HV2.out _ _ _ (HX.out.below ((Below.refl _ _).alloc (Nat.le_refl _) _))).mono ?_
  rintro en w11 ⟨gc, cc, rfl, ha, hb11⟩
  have HC := Kp.mk ha
  have HA := Kp.mk ((HA.out.below ((Below.refl _ _).alloc (Nat.le_refl _) _)).below hb11)
  have HB := Kp.mk ((HB.out.below ((Below.refl _ _).alloc (Nat.le_refl _) _)).below hb11)
  clear ha
  have HB11 : Kp (Below w.heap.size w w11) := ⟨Below.trans (by repeat (first | refine Below.alloc ?_ (by have := HB10.out.size; (try simp) <;> omega) _ | refine bDrewN ?_ _ | refine Below.drew ?_ | refine Below.setCell ?_ (by have := HB10.out.size; (try simp) <;> omega) _ | exact HB10.out)) (hb11.mono (by have := HB10.out.size; (try simp) <;> omega))⟩
  have hz11_0 : w.heap.size < w11.heap.size := by have := hb11.size; (try simp at this); omega
  have hz11_1 : w9.heap.size < w11.heap.size := by have := hb11.size; (try simp at this); omega
  have hz11_2 : w10.heap.size < w11.heap.size := by have := hb11.size; (try simp at this); omega
  obtain ⟨hc, hf⟩ := bcell hb11
  have c11_0_0 : w11.cell? ⟨w.heap.size, 0, none⟩ = some (.int .i64 s) := (hc _ _ (by (try simp) <;> omega)).trans (by go_simp)
  have c11_0_1 : w11.cell? ⟨w.heap.size, 1, none⟩ = some ((.slice g1 n c1)) := (hc _ _ (by (try simp) <;> omega)).trans (by go_simp)
  have c11_0_2 : w11.cell? ⟨w.heap.size, 2, none⟩ = some (.int .i64 s) := (hc _ _ (by (try simp) <;> omega)).trans (by go_simp)
  have c11_0_3 : w11.cell? ⟨w.heap.size, 3, none⟩ = some ((.slice g2 n c2)) := (hc _ _ (by (try simp) <;> omega)).trans (by go_simp)
  have c11_0_4 : w11.cell? ⟨w.heap.size, 4, none⟩ = some (.int .i64 s) := (hc _ _ (by (try simp) <;> omega)).trans (by go_simp)
  have c11_0_5 : w11.cell? ⟨w.heap.size, 5, none⟩ = some ((.slice g3 n c3)) := (hc _ _ (by (try simp) <;> omega)).trans (by go_simp)
  have z11_0 : ∀ j, w11.frozen? ⟨w.heap.size, j, none⟩ = false := fun j => (hf _ _ (by (try simp) <;> omega)).trans (by go_simp)
  have c11_1_0 : w11.cell? ⟨w9.heap.size, 0, none⟩ = some (.int .i64 s) := (hc _ _ (by (try simp) <;> omega)).trans (by go_simp)
  have c11_1_1 : w11.cell? ⟨w9.heap.size, 1, none⟩ = some ((.slice ga n ca)) := (hc _ _ (by (try simp) <;> omega)).trans (by go_simp)
  have z11_1 : ∀ j, w11.frozen? ⟨w9.heap.size, j, none⟩ = false := fun j => (hf _ _ (by (try simp) <;> omega)).trans (by go_simp)
  have c11_2_0 : w11.cell? ⟨w10.heap.size, 0, none⟩ = some (.int .i64 s) := (hc _ _ (by (try simp) <;> omega)).trans (by go_simp)
  have c11_2_1 : w11.cell? ⟨w10.heap.size, 1, none⟩ = some ((.slice gb n cb)) := (hc _ _ (by (try simp) <;> omega)).trans (by go_simp)
  have z11_2 : ∀ j, w11.frozen? ⟨w10.heap.size, j, none⟩ = false := fun j => (hf _ _ (by (try simp) <;> omega)).trans (by go_simp)
  clear hc hf hb11
  go_wp2_with fail
  refine (HS0.out _ _ _ (HB11.out.alloc HB11.out.size _) (HA.out.below ((Below.refl _ _).alloc (Nat.le_refl _) _))).mono ?_
  rintro en w12 ⟨rfl, hb12⟩
  have HB := Kp.mk ((HB.out.below ((Below.refl _ _).alloc (Nat.le_refl _) _)).below hb12)
  have HC := Kp.mk ((HC.out.below ((Below.refl _ _).alloc (Nat.le_refl _) _)).below hb12)
  have HB12 : Kp (Below w.heap.size w w12) := ⟨Below.trans (by repeat (first | refine Below.alloc ?_ (by have := HB11.out.size; (try simp) <;> omega) _ | refine bDrewN ?_ _ | refine Below.drew ?_ | refine Below.setCell ?_ (by have := HB11.out.size; (try simp) <;> omega) _ | exact HB11.out)) (hb12.mono (by have := HB11.out.size; (try simp) <;> omega))⟩
  have hz12_0 : w.heap.size < w12.heap.size := by have := hb12.size; (try simp at this); omega
  have hz12_1 : w10.heap.size < w12.heap.size := by have := hb12.size; (try simp at this); omega
  have hz12_2 : w11.heap.size < w12.heap.size := by have := hb12.size; (try simp at this); omega
  obtain ⟨hc, hf⟩ := bcell hb12
  have c12_0_0 : w12.cell? ⟨w.heap.size, 0, none⟩ = some (.int .i64 s) := (hc _ _ (by (try simp) <;> omega)).trans (by go_simp)
  have c12_0_1 : w12.cell? ⟨w.heap.size, 1, none⟩ = some ((.slice g1 n c1)) := (hc _ _ (by (try simp) <;> omega)).trans (by go_simp)
  have c12_0_2 : w12.cell? ⟨w.heap.size, 2, none⟩ = some (.int .i64 s) := (hc _ _ (by (try simp) <;> omega)).trans (by go_simp)
  have c12_0_3 : w12.cell? ⟨w.heap.size, 3, none⟩ = some ((.slice g2 n c2)) := (hc _ _ (by (try simp) <;> omega)).trans (by go_simp)
  have c12_0_4 : w12.cell? ⟨w.heap.size, 4, none⟩ = some (.int .i64 s) := (hc _ _ (by (try simp) <;> omega)).trans (by go_simp)
  have c12_0_5 : w12.cell? ⟨w.heap.size, 5, none⟩ = some ((.slice g3 n c3)) := (hc _ _ (by (try simp) <;> omega)).trans (by go_simp)
  have z12_0 : ∀ j, w12.frozen? ⟨w.heap.size, j, none⟩ = false := fun j => (hf _ _ (by (try simp) <;> omega)).trans (by go_simp)
  have c12_1_0 : w12.cell? ⟨w10.heap.size, 0, none⟩ = some (.int .i64 s) := (hc _ _ (by (try simp) <;> omega)).trans (by go_simp)
  have c12_1_1 : w12.cell? ⟨w10.heap.size, 1, none⟩ = some ((.slice gb n cb)) := (hc _ _ (by (try simp) <;> omega)).trans (by go_simp)
  have z12_1 : ∀ j, w12.frozen? ⟨w10.heap.size, j, none⟩ = false := fun j => (hf _ _ (by (try simp) <;> omega)).trans (by go_simp)
  have c12_2_0 : w12.cell? ⟨w11.heap.size, 0, none⟩ = some (.int .i64 s) := (hc _ _ (by (try simp) <;> omega)).trans (by go_simp)
  have c12_2_1 : w12.cell? ⟨w11.heap.size, 1, none⟩ = some ((.slice gc n cc)) := (hc _ _ (by (try simp) <;> omega)).trans (by go_simp)
  have z12_2 : ∀ j, w12.frozen? ⟨w11.heap.size, j, none⟩ = false := fun j => (hf _ _ (by (try simp) <;> omega)).trans (by go_simp)
  clear hc hf hb12
  go_wp2_with fail
  refine (HS1.out _ _ _ HB12.out HB.out).mono ?_
  rintro en w13 ⟨rfl, hb13⟩
  have HC := Kp.mk (HC.out.below hb13)
  have HB13 : Kp (Below w.heap.size w w13) := ⟨Below.trans (by repeat (first | refine Below.alloc ?_ (by have := HB12.out.size; (try simp) <;> omega) _ | refine bDrewN ?_ _ | refine Below.drew ?_ | refine Below.setCell ?_ (by have := HB12.out.size; (try simp) <;> omega) _ | exact HB12.out)) (hb13.mono (by have := HB12.out.size; (try simp) <;> omega))⟩
  have hz13_0 : w.heap.size < w13.heap.size := by have := hb13.size; (try simp at this); omega
  have hz13_1 : w11.heap.size < w13.heap.size := by have := hb13.size; (try simp at this); omega
  obtain ⟨hc, hf⟩ := bcell hb13
  have c13_0_0 : w13.cell? ⟨w.heap.size, 0, none⟩ = some (.int .i64 s) := (hc _ _ (by (try simp) <;> omega)).trans (by go_simp)
  have c13_0_1 : w13.cell? ⟨w.heap.size, 1, none⟩ = some ((.slice g1 n c1)) := (hc _ _ (by (try simp) <;> omega)).trans (by go_simp)
  have c13_0_2 : w13.cell? ⟨w.heap.size, 2, none⟩ = some (.int .i64 s) := (hc _ _ (by (try simp) <;> omega)).trans (by go_simp)
  have c13_0_3 : w13.cell? ⟨w.heap.size, 3, none⟩ = some ((.slice g2 n c2)) := (hc _ _ (by (try simp) <;> omega)).trans (by go_simp)
  have c13_0_4 : w13.cell? ⟨w.heap.size, 4, none⟩ = some (.int .i64 s) := (hc _ _ (by (try simp) <;> omega)).trans (by go_simp)
  have c13_0_5 : w13.cell? ⟨w.heap.size, 5, none⟩ = some ((.slice g3 n c3)) := (hc _ _ (by (try simp) <;> omega)).trans (by go_simp)
  have z13_0 : ∀ j, w13.frozen? ⟨w.heap.size, j, none⟩ = false := fun j => (hf _ _ (by (try simp) <;> omega)).trans (by go_simp)
  have c13_1_0 : w13.cell? ⟨w11.heap.size, 0, none⟩ = some (.int .i64 s) := (hc _ _ (by (try simp) <;> omega)).trans (by go_simp)
  have c13_1_1 : w13.cell? ⟨w11.heap.size, 1, none⟩ = some ((.slice gc n cc)) := (hc _ _ (by (try simp) <;> omega)).trans (by go_simp)
  have z13_1 : ∀ j, w13.frozen? ⟨w11.heap.size, j, none⟩ = false := fun j => (hf _ _ (by (try simp) <;> omega)).trans (by go_simp)
  clear hc hf hb13
  go_wp2_with fail
  refine (HS2.out _ _ _ HB13.out HC.out).mono ?_
  rintro en w14 ⟨rfl, hb14⟩
  have HB14 : Kp (Below w.heap.size w w14) := ⟨HB13.out.trans (hb14.mono HB13.out.size)⟩
  clear hb14
  go_wp2_with fail
  refine (awake_any _).mono ?_
  rintro en wz ⟨rfl, hbz⟩
  have HBZ : Kp (Below w.heap.size w wz) := ⟨(HB14.out).trans (hbz.mono (HB14.out).size)⟩
  clear hbz
  go_wp2
  go_ret
  exact ⟨rfl, HBZ.out⟩
theorem hl_res {w w' : World} {u : Value} {L : List Bool} {S E : Int} (hu : LB w' u L) (hb : Below w.heap.size w w') : ∃ g c, Ending.returned (.tuple #[.agg #[.int .i64 S, u], .int .i64 E]) = .returned (.tuple #[.agg #[.int .i64 S, .slice g L.length c], .int .i64 E]) ∧ LB w' (.slice g L.length c) L ∧ Below w.heap.size w w' := by
  obtain ⟨g, c, rfl⟩ := hu.shape
  exact ⟨g, c, rfl, hu, hb⟩
theorem pss_none {s : Nat} {a b c : List Bool} (hok : hullOk s s s a b c = true) : pssB s s s a b c = decide (wrO s a b c = none) := by
  unfold pssB wnR
  rw [hok, if_pos rfl, Int.toNat_natCast]
  cases wrO s a b c with
  | none => rfl
  | some p => rfl
set_option maxHeartbeats 2000000 in
theorem lawHulls_any (sx sy sz : Int) (u v x : Value) (a b c : List Bool) (w : World) (hu : LB w u a) (hv : LB w v b) (hx : LB w x c) :
    Calls Try.prog 5 #[.agg #[.int .i64 sx, u, .int .i64 sy, v, .int .i64 sz, x]] w (EndsH w) := by
  obtain ⟨g1, c1, rfl⟩ := hu.shape
  obtain ⟨g2, c2, rfl⟩ := hv.shape
  obtain ⟨g3, c3, rfl⟩ := hx.shape
  by_cases hS : IntKind.i64.wrap (IntKind.i64.wrap ((a.length : Int) + b.length) + c.length) ≤ 1000
  · have H3 : Kp (∀ W, Calls Try.prog 36 #[.agg #[.int .i64 sx, .slice g1 a.length c1, .int .i64 sy, .slice g2 b.length c2, .int .i64 sz, .slice g3 c.length c3]] W fun e w' => e = .returned (.bool true) ∧ Below W.heap.size W w') := ⟨fun W => by
      have h := three_any sx sy sz _ _ g1 g2 g3 a.length c1 b.length c2 c.length c3 W rfl rfl
      rwa [decide_eq_true hS] at h⟩
    cases hok : hullOk sx sy sz a b c with
    | false =>
      have e1 : hullE sx sy sz a b c = 1 := by unfold hullE; rw [hok]; rfl
      have e2 : hullL sx sy sz a b c = [] := by unfold hullL; rw [hok]; rfl
      refine hl_bad sx sy sz (hullS sx sy sz a b c) (wnR sx sy sz a b c).1 (wnR sx sy sz a b c).2.1 (wnR sx sy sz a b c).2.2.1 (wnR sx sy sz a b c).2.2.2 (pssB sx sy sz a b c) g1 g2 g3 _ c1 _ c2 _ c3 (hullL sx sy sz a b c).length (hullL sx sy sz a b c) w H3 ⟨fun W hW => ?_⟩ ⟨fun W hW => ?_⟩ ⟨fun W hW => ?_⟩ ⟨fun W hW => ?_⟩ ⟨fun W g g' k k' k1 k2 => rsame_yes _ _ _ (hullL sx sy sz a b c) W (by rw [e2]; decide) k1 k2⟩ ⟨fun W hW => Wrong_any sx sy sz _ _ _ a b c W (hu.below hW) (hv.below hW) (hx.below hW)⟩ ⟨fun W hW => rWrong_any sx sy sz _ _ _ a b c W (hu.below hW) (hv.below hW) (hx.below hW)⟩
      · refine (Hull_any sx sy sz _ _ _ a b c W (hu.below hW) (hv.below hW) (hx.below hW)).mono ?_
        rintro e w' ⟨r, rfl, ⟨z, rfl, hz⟩, hb⟩
        rw [e1]
        exact hl_res hz hb
      · refine (rHull_any sx sy sz _ _ _ a b c W (hu.below hW) (hv.below hW) (hx.below hW)).mono ?_
        rintro e w' ⟨r, rfl, ⟨z, rfl, hz⟩, hb⟩
        rw [e1]
        exact hl_res hz hb
      · have h := Possible_any sx sy sz _ _ _ a b c W (hu.below hW) (hv.below hW) (hx.below hW)
        rwa [e1] at h
      · have h := rPossible_any sx sy sz _ _ _ a b c W (hu.below hW) (hv.below hW) (hx.below hW)
        rwa [e1] at h
    | true =>
      have hok2 := hok
      unfold hullOk viewB at hok
      simp only [Bool.and_eq_true, decide_eq_true_eq] at hok
      obtain ⟨⟨h1, l1⟩, ⟨-, l2⟩, ⟨-, l3⟩, rfl, rfl⟩ := hok
      have hs := side_iff.1 h1
      obtain ⟨n, rfl⟩ : ∃ n : Nat, sx = n := ⟨sx.toNat, by omega⟩
      rw [← Int.natCast_mul] at l1 l2 l3
      have l1 := Int.ofNat.inj l1
      have l2 := Int.ofNat.inj l2
      have l3 := Int.ofNat.inj l3
      have hn1 : 1 ≤ n := by omega
      have hn2 : n ≤ 10 := by omega
      have hsq := cube_bd hn2
      rw [l1, l2, l3] at H3
      rw [l1] at hu ⊢
      rw [l2] at hv ⊢
      rw [l3] at hx ⊢
      have hlen : (hullB n a b c).length = n * n * n := by
        unfold hullB
        rw [List.length_map, places_len]
      have hv2 : viewB n (n * n) = true := by
        unfold viewB
        rw [h1, decide_eq_true (by rw [Int.natCast_mul])]
        rfl
      have e0 : hullE n n n a b c = 0 := by unfold hullE; rw [hok2]; rfl
      have HHU : Kp (∀ W, Below w.heap.size w W → Calls Try.prog 37 #[.agg #[.int .i64 n, .slice g1 (n * n) c1], .agg #[.int .i64 n, .slice g2 (n * n) c2], .agg #[.int .i64 n, .slice g3 (n * n) c3]] W fun e w' => ∃ g c', e = .returned (.tuple #[.agg #[.int .i64 n, .slice g (n * n * n) c'], .int .i64 0]) ∧ LB w' (.slice g (n * n * n) c') (hullB n a b c) ∧ Below W.heap.size W w') := ⟨fun W hW => by
        refine (Hull_in n _ _ _ a b c W hn1 hn2 (hu.below hW) (hv.below hW) (hx.below hW) l1 l2 l3).mono ?_
        rintro e w' ⟨r, rfl, ⟨z, rfl, hz⟩, hb⟩
        obtain ⟨g, c', rfl⟩ := hz.shape
        rw [hlen] at hz ⊢
        exact ⟨g, c', rfl, hz, hb⟩⟩
      have HRH : Kp (∀ W, Below w.heap.size w W → Calls Try.prog 38 #[.agg #[.int .i64 n, .slice g1 (n * n) c1], .agg #[.int .i64 n, .slice g2 (n * n) c2], .agg #[.int .i64 n, .slice g3 (n * n) c3]] W fun e w' => ∃ g c', e = .returned (.tuple #[.agg #[.int .i64 n, .slice g (n * n * n) c'], .int .i64 0]) ∧ LB w' (.slice g (n * n * n) c') (hullB n a b c) ∧ Below W.heap.size W w') := ⟨fun W hW => by
        refine (rHull_walk n (n * n) (n * n * n) g1 g2 g3 c1 c2 c3 a b c W hn1 hn2 rfl rfl (hu.below hW) (hv.below hW) (hx.below hW) l1 l2 l3 hv2).mono ?_
        rintro e w' ⟨r, rfl, ⟨z, rfl, hz⟩, hb⟩
        obtain ⟨g, c', rfl⟩ := hz.shape
        rw [hlen] at hz ⊢
        exact ⟨g, c', rfl, hz, hb⟩⟩
      have HPO : Kp (∀ W, Below w.heap.size w W → Calls Try.prog 39 #[.agg #[.int .i64 n, .slice g1 (n * n) c1], .agg #[.int .i64 n, .slice g2 (n * n) c2], .agg #[.int .i64 n, .slice g3 (n * n) c3]] W fun e w' => e = .returned (.tuple #[.bool (pssB n n n a b c), .int .i64 0]) ∧ Below W.heap.size W w') := ⟨fun W hW => by
        have h := Possible_any n n n _ _ _ a b c W (hu.below hW) (hv.below hW) (hx.below hW)
        rwa [e0] at h⟩
      have HRP : Kp (∀ W, Below w.heap.size w W → Calls Try.prog 40 #[.agg #[.int .i64 n, .slice g1 (n * n) c1], .agg #[.int .i64 n, .slice g2 (n * n) c2], .agg #[.int .i64 n, .slice g3 (n * n) c3]] W fun e w' => e = .returned (.tuple #[.bool (pssB n n n a b c), .int .i64 0]) ∧ Below W.heap.size W w') := ⟨fun W hW => by
        have h := rPossible_any n n n _ _ _ a b c W (hu.below hW) (hv.below hW) (hx.below hW)
        rwa [e0] at h⟩
      have HSA : Kp (∀ W g g' k k', LB W (.slice g (n * n * n) k) (hullB n a b c) → LB W (.slice g' (n * n * n) k') (hullB n a b c) → Calls Try.prog 25 #[.agg #[.int .i64 n, .slice g (n * n * n) k], .agg #[.int .i64 n, .slice g' (n * n * n) k']] W fun e w' => e = .returned (.bool true) ∧ Below W.heap.size W w') := ⟨fun W g g' k k' k1 k2 => by
        have h := rsame_row n (n * n * n) g g' k k' _ _ W (by omega) hlen hlen k1 k2
        rwa [decide_eq_true rfl] at h⟩
      obtain ⟨⟨r1, r2, r3, r4⟩, hR⟩ : ∃ R, wnR n n n a b c = R := ⟨_, rfl⟩
      have HWR : Kp (∀ W, Below w.heap.size w W → Calls Try.prog 41 #[.agg #[.int .i64 n, .slice g1 (n * n) c1], .agg #[.int .i64 n, .slice g2 (n * n) c2], .agg #[.int .i64 n, .slice g3 (n * n) c3]] W fun e w' => e = .returned (.tuple #[.int .i64 r1, .int .i64 r2, .int .i64 r3, .int .i64 r4]) ∧ Below W.heap.size W w') := ⟨fun W hW => by
        have h := Wrong_any n n n _ _ _ a b c W (hu.below hW) (hv.below hW) (hx.below hW)
        rwa [hR] at h⟩
      have HRW : Kp (∀ W, Below w.heap.size w W → Calls Try.prog 42 #[.agg #[.int .i64 n, .slice g1 (n * n) c1], .agg #[.int .i64 n, .slice g2 (n * n) c2], .agg #[.int .i64 n, .slice g3 (n * n) c3]] W fun e w' => e = .returned (.tuple #[.int .i64 r1, .int .i64 r2, .int .i64 r3, .int .i64 r4]) ∧ Below W.heap.size W w') := ⟨fun W hW => by
        have h := rWrong_any n n n _ _ _ a b c W (hu.below hW) (hv.below hW) (hx.below hW)
        rwa [hR] at h⟩
      have HV : ∀ (k : Nat), k < 3 → Kp (∀ W g c', LB W (.slice g (n * n * n) c') (hullB n a b c) → Calls Try.prog 28 #[.agg #[.int .i64 n, .slice g (n * n * n) c'], .int .i64 (k : Int)] W fun e w' => ∃ g' c', e = .returned (.tuple #[.agg #[.int .i64 n, .slice g' (n * n) c'], .int .i64 0]) ∧ LB w' (.slice g' (n * n) c') (viewL n k (hullB n a b c)) ∧ Below W.heap.size W w') := fun k hk => ⟨fun W g c' h => View_at n k _ (hullB n a b c) W hk hn1 hn2 hlen h⟩
      have hp4 : (r4 == 8) = pssB n n n a b c := by
        unfold pssB
        rw [hR, Bool.eq_iff_iff, decide_eq_true_eq, beq_iff_eq]
      have hiff := poss_iff (s := n) l1 l2 l3
      rw [pss_none hok2] at HPO HRP hp4
      have S0 : ∀ d, decide (viewL n 0 (hullB n a b c) = a) = d → Kp (∀ W g k, Below w.heap.size w W → LB W (.slice g (n * n) k) (viewL n 0 (hullB n a b c)) → Calls Try.prog 31 #[.agg #[.int .i64 n, .slice g (n * n) k], .agg #[.int .i64 n, .slice g1 (n * n) c1]] W fun e w' => e = .returned (.bool d) ∧ Below W.heap.size W w') := fun d hd => ⟨fun W g k hW hg => hd ▸ rsameV_row n (n * n) g g1 k c1 _ a W (by omega) (viewL_len _ _ _) l1 hg (hu.below hW)⟩
      have S1 : ∀ d, decide (viewL n 1 (hullB n a b c) = b) = d → Kp (∀ W g k, Below w.heap.size w W → LB W (.slice g (n * n) k) (viewL n 1 (hullB n a b c)) → Calls Try.prog 31 #[.agg #[.int .i64 n, .slice g (n * n) k], .agg #[.int .i64 n, .slice g2 (n * n) c2]] W fun e w' => e = .returned (.bool d) ∧ Below W.heap.size W w') := fun d hd => ⟨fun W g k hW hg => hd ▸ rsameV_row n (n * n) g g2 k c2 _ b W (by omega) (viewL_len _ _ _) l2 hg (hv.below hW)⟩
      have S2 : ∀ d, decide (viewL n 2 (hullB n a b c) = c) = d → Kp (∀ W g k, Below w.heap.size w W → LB W (.slice g (n * n) k) (viewL n 2 (hullB n a b c)) → Calls Try.prog 31 #[.agg #[.int .i64 n, .slice g (n * n) k], .agg #[.int .i64 n, .slice g3 (n * n) c3]] W fun e w' => e = .returned (.bool d) ∧ Below W.heap.size W w') := fun d hd => ⟨fun W g k hW hg => hd ▸ rsameV_row n (n * n) g g3 k c3 _ c W (by omega) (viewL_len _ _ _) l3 hg (hx.below hW)⟩
      by_cases h0 : viewL n 0 (hullB n a b c) = a
      · by_cases h1 : viewL n 1 (hullB n a b c) = b
        · by_cases h2 : viewL n 2 (hullB n a b c) = c
          · rw [decide_eq_true (hiff.2 ⟨h0, h1, h2⟩)] at HPO HRP hp4
            exact hl_3 n r1 r2 r3 r4 g1 g2 g3 (n * n) c1 c2 c3 (n * n * n) _ _ _ _ w hp4 H3 HHU HRH HPO HRP HSA HWR HRW (HV 0 (by omega)) (HV 1 (by omega)) (HV 2 (by omega)) (S0 _ (decide_eq_true h0)) (S1 _ (decide_eq_true h1)) (S2 _ (decide_eq_true h2))
          · rw [decide_eq_false (fun e => h2 (hiff.1 e).2.2)] at HPO HRP hp4
            exact hl_2 n r1 r2 r3 r4 g1 g2 g3 (n * n) c1 c2 c3 (n * n * n) _ _ _ _ w hp4 H3 HHU HRH HPO HRP HSA HWR HRW (HV 0 (by omega)) (HV 1 (by omega)) (HV 2 (by omega)) (S0 _ (decide_eq_true h0)) (S1 _ (decide_eq_true h1)) (S2 _ (decide_eq_false h2))
        · rw [decide_eq_false (fun e => h1 (hiff.1 e).2.1)] at HPO HRP hp4
          exact hl_1 n r1 r2 r3 r4 g1 g2 g3 (n * n) c1 c2 c3 (n * n * n) _ _ _ _ w hp4 H3 HHU HRH HPO HRP HSA HWR HRW (HV 0 (by omega)) (HV 1 (by omega)) (HV 2 (by omega)) (S0 _ (decide_eq_true h0)) (S1 _ (decide_eq_false h1))
      · rw [decide_eq_false (fun e => h0 (hiff.1 e).1)] at HPO HRP hp4
        exact hl_0 n r1 r2 r3 r4 g1 g2 g3 (n * n) c1 c2 c3 (n * n * n) _ _ _ _ w hp4 H3 HHU HRH HPO HRP HSA HWR HRW (HV 0 (by omega)) (HV 1 (by omega)) (HV 2 (by omega)) (S0 _ (decide_eq_false h0))
  · refine hl_three sx sy sz g1 g2 g3 _ c1 _ c2 _ c3 w ⟨fun W => ?_⟩
    have h := three_any sx sy sz _ _ g1 g2 g3 a.length c1 b.length c2 c.length c3 W rfl rfl
    rwa [decide_eq_false hS] at h
end Go.Proofs.Yticcafjogmjkiaa.Cv
namespace Go.Proofs.Yticcafjogmjkiaa.Cv
open Go.ChangeShapes Go.WideShapes Go.ChangeAt Go.RowKit
set_option maxRecDepth 100000 in
theorem hulls_lifted (os : Os) (started : os.Started) (H : Type) (enc : TypeId × Value → H) :
    ReturnsInHanded {} Try.checked os 5 .any (Rows.carveHullsSpec.pre6 enc Try.prog Try.f5 Rows.carveHullsRow.domain false) (Rows.carveHullsSpec.post enc Try.prog Try.f5 false true false false) := by
  refine returnsInHanded_of_change (C := Try.checked) own started (by kernel_rfl) Try.func5
    (ChangeSpec.witness6 (enc := enc) (C := Try.checked) false ⟨#[], #[.agg #[.int .i64 0, .slice none 0 0, .int .i64 0, .slice none 0 0, .int .i64 0, .slice none 0 0]], []⟩ 8 (by kernel_rfl) (by kernel_rfl) (by kernel_rfl) (by kernel_rfl)) ?_
  intro W base args ds gs before hval0 hW _ _
  have hval : ∀ (j : Nat) t v, Try.f5.params[j]? = some t → args[j]? = some v → Value.okWide Try.prog W .any base t v := hval0
  have hW' := hW
  obtain ⟨p, q, hA0, hV, rfl, hfz, hnd⟩ := hW
  have hA : DataW.TrodAll enc Try.prog W 0 (fun _ => true) true Try.f5.params.toList args.toList ds p := hA0
  rw [Try.params5] at hA hval
  obtain ⟨v0, d0, rfl, rfl, h0⟩ := trodAll_one hA
  obtain ⟨rfl, rfl⟩ := trodVars_none hV
  obtain ⟨x0, y0, z0, u0, v0, t0, a0, b0, c0, rfl, hu0, hv0, ht0, -, -, -⟩ := open_views (hval 0 49 v0 rfl rfl) h0
  clear hA0 hval0
  simp only [List.append_nil] at hW'
  have hp0 : ∀ x ∈ p, x.block < W.heap.size := fun x hx => hW'.lt x hx
  refine (lawHulls_any x0 y0 z0 u0 v0 t0 a0 b0 c0 W hu0 hv0 ht0).mono fun e W' ⟨he, hg⟩ => ?_
  subst he
  exact ⟨_, rfl, _, _, _, [], _, [], hW', trodAll_mk1 (shut_bool Try.underlying4 _), trodAll_mk1 (Below.trod laidOutL (by kernel_rfl) (of_decide_eq_true (by kernel_rfl)) h0 hg hp0), rfl, hg.frame _, fun h => by cases h⟩

theorem hulls_said : Rows.CarveHullsSaid :=
  OpenClaim.holds_of_wide 5 Try.f5 rfl rfl rfl rfl rfl rfl rfl ⟨rfl, rfl, rfl, rfl, rfl⟩ rfl rfl rfl rfl rfl (by kernel_rfl) Try.func5 (by kernel_rfl)
    (of_decide_eq_true (by kernel_rfl)) (by unfold Func.isWrapper; first | (rw [if_pos (by decide +kernel)]; kernel_rfl) | (rw [if_neg (by decide +kernel)]; exact ⟨rfl, rfl⟩))
    (fun os started H enc _ => hulls_lifted os started H enc)
end Go.Proofs.Yticcafjogmjkiaa.Cv
