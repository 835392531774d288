/-
  THE WALK of the law CarveOf.
-/
import Derived.Test.YticcafjogmjkiaaCvGrKit
import Derived.Test.YticcafjogmjkiaaCvAwake
import Derived.Test.YticcafjogmjkiaaCvRefG
import Derived.Test.YticcafjogmjkiaaCvLessC
namespace Go.Proofs.Yticcafjogmjkiaa.Cv
open Go Go.RowKit Go.Sort

def EndsO (w : World) (e : Ending) (w' : World) : Prop := e = .returned (.bool true) ∧ Below w.heap.size w w'
theorem lo_light (s n : Int) (g1 g2 : Option Addr) (m c1 K c2 : Nat) (w : World) (HLG : Kp (∀ W Y, W.cell? ⟨Y, 0, none⟩ = some (.int .i64 s) → W.cell? ⟨Y, 1, none⟩ = some (.slice g1 m c1) → Calls Try.prog 15 #[.slice (some ⟨Y, 0, none⟩) 1 1] W fun e w' => e = .returned (.bool false) ∧ Below W.heap.size W w')) :
    Calls Try.prog 4 #[.agg #[.int .i64 s, .slice g1 m c1], .int .i64 n, .slice g2 K c2] w (EndsO w) := by
  go_enter Try.func4, Try.ntmps4
  go_wp2_with fail
  refine (HLG.out _ _ (by go_simp) (by go_simp)).mono ?_
  rintro en w1 ⟨rfl, hb1⟩
  have HB1 : Kp (Below w.heap.size w w1) := ⟨Below.trans (by repeat (first | refine Below.alloc ?_ (by (try simp) <;> omega) _ | refine bDrewN ?_ _ | refine Below.drew ?_ | refine Below.setCell ?_ (by (try simp) <;> omega) _ | exact Below.refl _ _)) (hb1.mono (by (try simp) <;> omega))⟩
  have hz1_0 : w.heap.size < w1.heap.size := by have := hb1.size; (try simp at this); omega
  obtain ⟨hc, hf⟩ := bcell hb1
  have c1_0_0 : w1.cell? ⟨w.heap.size, 0, none⟩ = some (.int .i64 s) := (hc _ _ (by (try simp) <;> omega)).trans (by go_simp)
  have c1_0_1 : w1.cell? ⟨w.heap.size, 1, none⟩ = some ((.slice g1 m c1)) := (hc _ _ (by (try simp) <;> omega)).trans (by go_simp)
  have z1_0 : ∀ j, w1.frozen? ⟨w.heap.size, j, none⟩ = false := fun j => (hf _ _ (by (try simp) <;> omega)).trans (by go_simp)
  clear hc hf hb1
  go_wp2_with fail
  refine (awake_any _).mono ?_
  rintro en wz ⟨rfl, hbz⟩
  have HBZ : Kp (Below w.heap.size w wz) := ⟨(HB1.out).trans (hbz.mono (HB1.out).size)⟩
  clear hbz
  go_wp2
  go_ret
  exact ⟨rfl, HBZ.out⟩
theorem lo_long (s n : Int) (g1 g2 : Option Addr) (m c1 K c2 : Nat) (w : World) (hK : (2000 : Int) < (K : Int)) (HLG : Kp (∀ W Y, W.cell? ⟨Y, 0, none⟩ = some (.int .i64 s) → W.cell? ⟨Y, 1, none⟩ = some (.slice g1 m c1) → Calls Try.prog 15 #[.slice (some ⟨Y, 0, none⟩) 1 1] W fun e w' => e = .returned (.bool true) ∧ Below W.heap.size W w')) :
    Calls Try.prog 4 #[.agg #[.int .i64 s, .slice g1 m c1], .int .i64 n, .slice g2 K c2] w (EndsO w) := by
  go_enter Try.func4, Try.ntmps4
  go_wp2_with fail
  refine (HLG.out _ _ (by go_simp) (by go_simp)).mono ?_
  rintro en w1 ⟨rfl, hb1⟩
  have HB1 : Kp (Below w.heap.size w w1) := ⟨Below.trans (by repeat (first | refine Below.alloc ?_ (by (try simp) <;> omega) _ | refine bDrewN ?_ _ | refine Below.drew ?_ | refine Below.setCell ?_ (by (try simp) <;> omega) _ | exact Below.refl _ _)) (hb1.mono (by (try simp) <;> omega))⟩
  have hz1_0 : w.heap.size < w1.heap.size := by have := hb1.size; (try simp at this); omega
  obtain ⟨hc, hf⟩ := bcell hb1
  have c1_0_0 : w1.cell? ⟨w.heap.size, 0, none⟩ = some (.int .i64 s) := (hc _ _ (by (try simp) <;> omega)).trans (by go_simp)
  have c1_0_1 : w1.cell? ⟨w.heap.size, 1, none⟩ = some ((.slice g1 m c1)) := (hc _ _ (by (try simp) <;> omega)).trans (by go_simp)
  have z1_0 : ∀ j, w1.frozen? ⟨w.heap.size, j, none⟩ = false := fun j => (hf _ _ (by (try simp) <;> omega)).trans (by go_simp)
  clear hc hf hb1
  go_wp2_with fail
  refine (awake_any _).mono ?_
  rintro en wz ⟨rfl, hbz⟩
  have HBZ : Kp (Below w.heap.size w wz) := ⟨(HB1.out).trans (hbz.mono (HB1.out).size)⟩
  clear hbz
  go_wp2
  go_ret
  exact ⟨rfl, HBZ.out⟩
set_option maxRecDepth 100000 in
set_option maxHeartbeats 4000000 in
theorem lo_bad (s n OS OE CS CE : Int) (g1 g2 : Option Addr) (m c1 K c2 OL CL : Nat) (LO LC : List Bool) (w : World) (hK : ¬ (2000 : Int) < (K : Int)) (HLG : Kp (∀ W Y, W.cell? ⟨Y, 0, none⟩ = some (.int .i64 s) → W.cell? ⟨Y, 1, none⟩ = some (.slice g1 m c1) → Calls Try.prog 15 #[.slice (some ⟨Y, 0, none⟩) 1 1] W fun e w' => e = .returned (.bool true) ∧ Below W.heap.size W w')) (HOF : Kp (∀ W, Below w.heap.size w W → Calls Try.prog 32 #[.int .i64 n, .slice g2 K c2] W fun e w' => ∃ g c, e = .returned (.tuple #[.agg #[.int .i64 OS, .slice g OL c], .int .i64 OE]) ∧ FB W.heap.size w' (.slice g OL c) LO ∧ Below W.heap.size W w')) (HRO : Kp (∀ W, Below w.heap.size w W → Calls Try.prog 33 #[.int .i64 n, .slice g2 K c2] W fun e w' => ∃ g c, e = .returned (.tuple #[.agg #[.int .i64 OS, .slice g OL c], .int .i64 OE]) ∧ FB W.heap.size w' (.slice g OL c) LO ∧ Below W.heap.size W w')) (HSO : Kp (∀ W g g' c c', LB W (.slice g OL c) LO → LB W (.slice g' OL c') LO → Calls Try.prog 25 #[.agg #[.int .i64 OS, .slice g OL c], .agg #[.int .i64 OS, .slice g' OL c']] W fun e w' => e = .returned (.bool true) ∧ Below W.heap.size W w')) (HCA : Kp (∀ W, Below w.heap.size w W → Calls Try.prog 34 #[.agg #[.int .i64 s, .slice g1 m c1], .slice g2 K c2] W fun e w' => ∃ g c, e = .returned (.tuple #[.agg #[.int .i64 CS, .slice g CL c], .int .i64 CE]) ∧ FB W.heap.size w' (.slice g CL c) LC ∧ Below W.heap.size W w')) (HRC : Kp (∀ W, Below w.heap.size w W → Calls Try.prog 35 #[.agg #[.int .i64 s, .slice g1 m c1], .slice g2 K c2] W fun e w' => ∃ g c, e = .returned (.tuple #[.agg #[.int .i64 CS, .slice g CL c], .int .i64 CE]) ∧ FB W.heap.size w' (.slice g CL c) LC ∧ Below W.heap.size W w')) (HSC : Kp (∀ W g g' c c', LB W (.slice g CL c) LC → LB W (.slice g' CL c') LC → Calls Try.prog 25 #[.agg #[.int .i64 CS, .slice g CL c], .agg #[.int .i64 CS, .slice g' CL c']] W fun e w' => e = .returned (.bool true) ∧ Below W.heap.size W w')) (HGR : Kp (∀ W, Below w.heap.size w W → Calls Try.prog 26 #[.agg #[.int .i64 s, .slice g1 m c1]] W fun e w' => e = .returned (.tuple #[.slice none 0 0, .int .i64 1]) ∧ Below W.heap.size W w')) :
    Calls Try.prog 4 #[.agg #[.int .i64 s, .slice g1 m c1], .int .i64 n, .slice g2 K c2] w (EndsO w) := by
  have t1 : (OE != OE) = false := by simp
  have t2 : (CE != CE) = false := by simp
  go_enter Try.func4, Try.ntmps4
  go_wp2_with fail
  refine (HLG.out _ _ (by go_simp) (by go_simp)).mono ?_
  rintro en w1 ⟨rfl, hb1⟩
  have HB1 : Kp (Below w.heap.size w w1) := ⟨Below.trans (by repeat (first | refine Below.alloc ?_ (by (try simp) <;> omega) _ | refine bDrewN ?_ _ | refine Below.drew ?_ | refine Below.setCell ?_ (by (try simp) <;> omega) _ | exact Below.refl _ _)) (hb1.mono (by (try simp) <;> omega))⟩
  have hz1_0 : w.heap.size < w1.heap.size := by have := hb1.size; (try simp at this); omega
  obtain ⟨hc, hf⟩ := bcell hb1
  have c1_0_0 : w1.cell? ⟨w.heap.size, 0, none⟩ = some (.int .i64 s) := (hc _ _ (by (try simp) <;> omega)).trans (by go_simp)
  have c1_0_1 : w1.cell? ⟨w.heap.size, 1, none⟩ = some ((.slice g1 m c1)) := (hc _ _ (by (try simp) <;> omega)).trans (by go_simp)
  have z1_0 : ∀ j, w1.frozen? ⟨w.heap.size, j, none⟩ = false := fun j => (hf _ _ (by (try simp) <;> omega)).trans (by go_simp)
  clear hc hf hb1
  go_wp2_with fail
  refine (HOF.out _ HB1.out).mono ?_
  rintro en w2 ⟨gx, cx, rfl, hx, hb2⟩
  have HX := Kp.mk hx.1
  clear hx
  have HB2 : Kp (Below w.heap.size w w2) := ⟨Below.trans (by repeat (first | refine Below.alloc ?_ (by have := HB1.out.size; (try simp) <;> omega) _ | refine bDrewN ?_ _ | refine Below.drew ?_ | refine Below.setCell ?_ (by have := HB1.out.size; (try simp) <;> omega) _ | exact HB1.out)) (hb2.mono (by have := HB1.out.size; (try simp) <;> omega))⟩
  have hz2_0 : w.heap.size < w2.heap.size := by have := hb2.size; (try simp at this); omega
  obtain ⟨hc, hf⟩ := bcell hb2
  have c2_0_0 : w2.cell? ⟨w.heap.size, 0, none⟩ = some (.int .i64 s) := (hc _ _ (by (try simp) <;> omega)).trans (by go_simp)
  have c2_0_1 : w2.cell? ⟨w.heap.size, 1, none⟩ = some ((.slice g1 m c1)) := (hc _ _ (by (try simp) <;> omega)).trans (by go_simp)
  have z2_0 : ∀ j, w2.frozen? ⟨w.heap.size, j, none⟩ = false := fun j => (hf _ _ (by (try simp) <;> omega)).trans (by go_simp)
  clear hc hf hb2 c1_0_0 c1_0_1 z1_0
  go_wp2_with fail
  refine (HRO.out _ (HB2.out.alloc HB2.out.size _)).mono ?_
  rintro en w3 ⟨gy, cy, rfl, hy, hb3⟩
  have HY := Kp.mk hy.1
  have HX := Kp.mk ((HX.out.below ((Below.refl _ _).alloc (Nat.le_refl _) _)).below hb3)
  clear hy
  have HB3 : Kp (Below w.heap.size w w3) := ⟨Below.trans (by repeat (first | refine Below.alloc ?_ (by have := HB2.out.size; (try simp) <;> omega) _ | refine bDrewN ?_ _ | refine Below.drew ?_ | refine Below.setCell ?_ (by have := HB2.out.size; (try simp) <;> omega) _ | exact HB2.out)) (hb3.mono (by have := HB2.out.size; (try simp) <;> omega))⟩
  have hz3_0 : w.heap.size < w3.heap.size := by have := hb3.size; (try simp at this); omega
  have hz3_1 : w2.heap.size < w3.heap.size := by have := hb3.size; (try simp at this); omega
  obtain ⟨hc, hf⟩ := bcell hb3
  have c3_0_0 : w3.cell? ⟨w.heap.size, 0, none⟩ = some (.int .i64 s) := (hc _ _ (by (try simp) <;> omega)).trans (by go_simp)
  have c3_0_1 : w3.cell? ⟨w.heap.size, 1, none⟩ = some ((.slice g1 m c1)) := (hc _ _ (by (try simp) <;> omega)).trans (by go_simp)
  have z3_0 : ∀ j, w3.frozen? ⟨w.heap.size, j, none⟩ = false := fun j => (hf _ _ (by (try simp) <;> omega)).trans (by go_simp)
  have c3_1_0 : w3.cell? ⟨w2.heap.size, 0, none⟩ = some (.int .i64 OS) := (hc _ _ (by (try simp) <;> omega)).trans (by go_simp)
  have c3_1_1 : w3.cell? ⟨w2.heap.size, 1, none⟩ = some ((.slice gx OL cx)) := (hc _ _ (by (try simp) <;> omega)).trans (by go_simp)
  have z3_1 : ∀ j, w3.frozen? ⟨w2.heap.size, j, none⟩ = false := fun j => (hf _ _ (by (try simp) <;> omega)).trans (by go_simp)
  clear hc hf hb3 c2_0_0 c2_0_1 z2_0
  go_wp2_with fail
  refine (HSO.out _ _ _ _ _ (HX.out.below ((Below.refl _ _).alloc (Nat.le_refl _) _)) (HY.out.below ((Below.refl _ _).alloc (Nat.le_refl _) _))).mono ?_
  rintro en w4 ⟨rfl, hb4⟩
  have HB4 : Kp (Below w.heap.size w w4) := ⟨Below.trans (by repeat (first | refine Below.alloc ?_ (by have := HB3.out.size; (try simp) <;> omega) _ | refine bDrewN ?_ _ | refine Below.drew ?_ | refine Below.setCell ?_ (by have := HB3.out.size; (try simp) <;> omega) _ | exact HB3.out)) (hb4.mono (by have := HB3.out.size; (try simp) <;> omega))⟩
  have hz4_0 : w.heap.size < w4.heap.size := by have := hb4.size; (try simp at this); omega
  have hz4_1 : w2.heap.size < w4.heap.size := by have := hb4.size; (try simp at this); omega
  have hz4_2 : w3.heap.size < w4.heap.size := by have := hb4.size; (try simp at this); omega
  obtain ⟨hc, hf⟩ := bcell hb4
  have c4_0_0 : w4.cell? ⟨w.heap.size, 0, none⟩ = some (.int .i64 s) := (hc _ _ (by (try simp) <;> omega)).trans (by go_simp)
  have c4_0_1 : w4.cell? ⟨w.heap.size, 1, none⟩ = some ((.slice g1 m c1)) := (hc _ _ (by (try simp) <;> omega)).trans (by go_simp)
  have z4_0 : ∀ j, w4.frozen? ⟨w.heap.size, j, none⟩ = false := fun j => (hf _ _ (by (try simp) <;> omega)).trans (by go_simp)
  have c4_1_0 : w4.cell? ⟨w2.heap.size, 0, none⟩ = some (.int .i64 OS) := (hc _ _ (by (try simp) <;> omega)).trans (by go_simp)
  have c4_1_1 : w4.cell? ⟨w2.heap.size, 1, none⟩ = some ((.slice gx OL cx)) := (hc _ _ (by (try simp) <;> omega)).trans (by go_simp)
  have z4_1 : ∀ j, w4.frozen? ⟨w2.heap.size, j, none⟩ = false := fun j => (hf _ _ (by (try simp) <;> omega)).trans (by go_simp)
  have c4_2_0 : w4.cell? ⟨w3.heap.size, 0, none⟩ = some (.int .i64 OS) := (hc _ _ (by (try simp) <;> omega)).trans (by go_simp)
  have c4_2_1 : w4.cell? ⟨w3.heap.size, 1, none⟩ = some ((.slice gy OL cy)) := (hc _ _ (by (try simp) <;> omega)).trans (by go_simp)
  have z4_2 : ∀ j, w4.frozen? ⟨w3.heap.size, j, none⟩ = false := fun j => (hf _ _ (by (try simp) <;> omega)).trans (by go_simp)
  clear hc hf hb4 c3_0_0 c3_0_1 z3_0 c3_1_0 c3_1_1 z3_1
  clear HX HY
  go_wp2_with fail
  refine (HCA.out _ HB4.out).mono ?_
  rintro en w5 ⟨gp, cp, rfl, hp, hb5⟩
  have HP := Kp.mk hp
  have hz45 := hb5.size
  clear hp
  have HB5 : Kp (Below w.heap.size w w5) := ⟨Below.trans (by repeat (first | refine Below.alloc ?_ (by have := HB4.out.size; (try simp) <;> omega) _ | refine bDrewN ?_ _ | refine Below.drew ?_ | refine Below.setCell ?_ (by have := HB4.out.size; (try simp) <;> omega) _ | exact HB4.out)) (hb5.mono (by have := HB4.out.size; (try simp) <;> omega))⟩
  have hz5_0 : w.heap.size < w5.heap.size := by have := hb5.size; (try simp at this); omega
  have hz5_1 : w2.heap.size < w5.heap.size := by have := hb5.size; (try simp at this); omega
  have hz5_2 : w3.heap.size < w5.heap.size := by have := hb5.size; (try simp at this); omega
  obtain ⟨hc, hf⟩ := bcell hb5
  have c5_0_0 : w5.cell? ⟨w.heap.size, 0, none⟩ = some (.int .i64 s) := (hc _ _ (by (try simp) <;> omega)).trans (by go_simp)
  have c5_0_1 : w5.cell? ⟨w.heap.size, 1, none⟩ = some ((.slice g1 m c1)) := (hc _ _ (by (try simp) <;> omega)).trans (by go_simp)
  have z5_0 : ∀ j, w5.frozen? ⟨w.heap.size, j, none⟩ = false := fun j => (hf _ _ (by (try simp) <;> omega)).trans (by go_simp)
  have c5_1_0 : w5.cell? ⟨w2.heap.size, 0, none⟩ = some (.int .i64 OS) := (hc _ _ (by (try simp) <;> omega)).trans (by go_simp)
  have c5_1_1 : w5.cell? ⟨w2.heap.size, 1, none⟩ = some ((.slice gx OL cx)) := (hc _ _ (by (try simp) <;> omega)).trans (by go_simp)
  have z5_1 : ∀ j, w5.frozen? ⟨w2.heap.size, j, none⟩ = false := fun j => (hf _ _ (by (try simp) <;> omega)).trans (by go_simp)
  have c5_2_0 : w5.cell? ⟨w3.heap.size, 0, none⟩ = some (.int .i64 OS) := (hc _ _ (by (try simp) <;> omega)).trans (by go_simp)
  have c5_2_1 : w5.cell? ⟨w3.heap.size, 1, none⟩ = some ((.slice gy OL cy)) := (hc _ _ (by (try simp) <;> omega)).trans (by go_simp)
  have z5_2 : ∀ j, w5.frozen? ⟨w3.heap.size, j, none⟩ = false := fun j => (hf _ _ (by (try simp) <;> omega)).trans (by go_simp)
  clear hc hf hb5 c4_0_0 c4_0_1 z4_0 c4_1_0 c4_1_1 z4_1 c4_2_0 c4_2_1 z4_2
  have hzl : w2.heap.size < w4.heap.size ∧ w3.heap.size < w4.heap.size ∧ w4.heap.size ≤ w5.heap.size := by omega
  have HZL := Kp.mk hzl
  clear hzl
  go_wp2_with fail
  refine (HRC.out _ (by (have hzS := HB5.out.size; (repeat (with_reducible first | exact HB5.out | refine Below.setCell ?_ ?_ _ | refine Below.alloc ?_ ?_ _ | refine Below.drew ?_ | refine bDrewN ?_ _)); all_goals ((try simp) <;> omega)))).mono ?_
  rintro en w6 ⟨gq, cq, rfl, hq, hb6⟩
  have HP := Kp.mk ((((HP.out.set w2.heap.size 0 (.int .i64 CS) HZL.out.1).set w2.heap.size 1 (.slice gp CL cp) HZL.out.1)).below hb6)
  have HQ : Kp (FB w4.heap.size w6 (.slice gq CL cq) LC) := ⟨hq.more (by have := HZL.out; simp; omega)⟩
  clear hq
  have HB6 : Kp (Below w.heap.size w w6) := ⟨Below.trans (by repeat (first | refine Below.alloc ?_ (by have := HB5.out.size; (try simp) <;> omega) _ | refine bDrewN ?_ _ | refine Below.drew ?_ | refine Below.setCell ?_ (by have := HB5.out.size; (try simp) <;> omega) _ | exact HB5.out)) (hb6.mono (by have := HB5.out.size; (try simp) <;> omega))⟩
  have hz6_0 : w.heap.size < w6.heap.size := by have := hb6.size; (try simp at this); omega
  have hz6_1 : w2.heap.size < w6.heap.size := by have := hb6.size; (try simp at this); omega
  have hz6_2 : w3.heap.size < w6.heap.size := by have := hb6.size; (try simp at this); omega
  obtain ⟨hc, hf⟩ := bcell hb6
  have c6_0_0 : w6.cell? ⟨w.heap.size, 0, none⟩ = some (.int .i64 s) := (hc _ _ (by (try simp) <;> omega)).trans (by go_simp)
  have c6_0_1 : w6.cell? ⟨w.heap.size, 1, none⟩ = some ((.slice g1 m c1)) := (hc _ _ (by (try simp) <;> omega)).trans (by go_simp)
  have z6_0 : ∀ j, w6.frozen? ⟨w.heap.size, j, none⟩ = false := fun j => (hf _ _ (by (try simp) <;> omega)).trans (by go_simp)
  have c6_1_0 : w6.cell? ⟨w2.heap.size, 0, none⟩ = some (.int .i64 CS) := (hc _ _ (by (try simp) <;> omega)).trans (by go_simp)
  have c6_1_1 : w6.cell? ⟨w2.heap.size, 1, none⟩ = some ((.slice gp CL cp)) := (hc _ _ (by (try simp) <;> omega)).trans (by go_simp)
  have z6_1 : ∀ j, w6.frozen? ⟨w2.heap.size, j, none⟩ = false := fun j => (hf _ _ (by (try simp) <;> omega)).trans (by go_simp)
  have c6_2_0 : w6.cell? ⟨w3.heap.size, 0, none⟩ = some (.int .i64 OS) := (hc _ _ (by (try simp) <;> omega)).trans (by go_simp)
  have c6_2_1 : w6.cell? ⟨w3.heap.size, 1, none⟩ = some ((.slice gy OL cy)) := (hc _ _ (by (try simp) <;> omega)).trans (by go_simp)
  have z6_2 : ∀ j, w6.frozen? ⟨w3.heap.size, j, none⟩ = false := fun j => (hf _ _ (by (try simp) <;> omega)).trans (by go_simp)
  clear hc hf hb6 c5_0_0 c5_0_1 z5_0 c5_1_0 c5_1_1 z5_1 c5_2_0 c5_2_1 z5_2
  go_wp2_with fail
  refine (HSC.out _ _ _ _ _ ((HP.out.set w3.heap.size 0 (.int .i64 CS) HZL.out.2.1).set w3.heap.size 1 (.slice gq CL cq) HZL.out.2.1).1 ((HQ.out.set w3.heap.size 0 (.int .i64 CS) HZL.out.2.1).set w3.heap.size 1 (.slice gq CL cq) HZL.out.2.1).1).mono ?_
  rintro en w7 ⟨rfl, hb7⟩
  have HB7 : Kp (Below w.heap.size w w7) := ⟨Below.trans (by repeat (first | refine Below.alloc ?_ (by have := HB6.out.size; (try simp) <;> omega) _ | refine bDrewN ?_ _ | refine Below.drew ?_ | refine Below.setCell ?_ (by have := HB6.out.size; (try simp) <;> omega) _ | exact HB6.out)) (hb7.mono (by have := HB6.out.size; (try simp) <;> omega))⟩
  have hz7_0 : w.heap.size < w7.heap.size := by have := hb7.size; (try simp at this); omega
  have hz7_1 : w2.heap.size < w7.heap.size := by have := hb7.size; (try simp at this); omega
  obtain ⟨hc, hf⟩ := bcell hb7
  have c7_0_0 : w7.cell? ⟨w.heap.size, 0, none⟩ = some (.int .i64 s) := (hc _ _ (by (try simp) <;> omega)).trans (by go_simp)
  have c7_0_1 : w7.cell? ⟨w.heap.size, 1, none⟩ = some ((.slice g1 m c1)) := (hc _ _ (by (try simp) <;> omega)).trans (by go_simp)
  have z7_0 : ∀ j, w7.frozen? ⟨w.heap.size, j, none⟩ = false := fun j => (hf _ _ (by (try simp) <;> omega)).trans (by go_simp)
  have c7_1_0 : w7.cell? ⟨w2.heap.size, 0, none⟩ = some (.int .i64 CS) := (hc _ _ (by (try simp) <;> omega)).trans (by go_simp)
  have c7_1_1 : w7.cell? ⟨w2.heap.size, 1, none⟩ = some ((.slice gp CL cp)) := (hc _ _ (by (try simp) <;> omega)).trans (by go_simp)
  have z7_1 : ∀ j, w7.frozen? ⟨w2.heap.size, j, none⟩ = false := fun j => (hf _ _ (by (try simp) <;> omega)).trans (by go_simp)
  clear hc hf hb7 c6_0_0 c6_0_1 z6_0 c6_1_0 c6_1_1 z6_1 c6_2_0 c6_2_1 z6_2
  clear HP HQ
  go_wp2_with fail
  refine (HGR.out _ HB7.out).mono ?_
  rintro en w8 ⟨rfl, hb8⟩
  have HB8 : Kp (Below w.heap.size w w8) := ⟨Below.trans (by repeat (first | refine Below.alloc ?_ (by have := HB7.out.size; (try simp) <;> omega) _ | refine bDrewN ?_ _ | refine Below.drew ?_ | refine Below.setCell ?_ (by have := HB7.out.size; (try simp) <;> omega) _ | exact HB7.out)) (hb8.mono (by have := HB7.out.size; (try simp) <;> omega))⟩
  have hz8_0 : w.heap.size < w8.heap.size := by have := hb8.size; (try simp at this); omega
  obtain ⟨hc, hf⟩ := bcell hb8
  have c8_0_0 : w8.cell? ⟨w.heap.size, 0, none⟩ = some (.int .i64 s) := (hc _ _ (by (try simp) <;> omega)).trans (by go_simp)
  have c8_0_1 : w8.cell? ⟨w.heap.size, 1, none⟩ = some ((.slice g1 m c1)) := (hc _ _ (by (try simp) <;> omega)).trans (by go_simp)
  have z8_0 : ∀ j, w8.frozen? ⟨w.heap.size, j, none⟩ = false := fun j => (hf _ _ (by (try simp) <;> omega)).trans (by go_simp)
  clear hc hf hb8 c7_0_0 c7_0_1 z7_0 c7_1_0 c7_1_1 z7_1
  go_wp2_with fail
  refine (awake_any _).mono ?_
  rintro en wz ⟨rfl, hbz⟩
  have HBZ : Kp (Below w.heap.size w wz) := ⟨(HB8.out).trans (hbz.mono (HB8.out).size)⟩
  clear hbz
  go_wp2
  go_ret
  exact ⟨rfl, HBZ.out⟩
set_option maxRecDepth 100000 in
set_option maxHeartbeats 4000000 in
theorem lo_good (s n OS OE CS CE : Int) (g1 g2 : Option Addr) (m c1 K c2 OL CL : Nat) (LO LC : List Bool) (h : List Bool) (LG : List Gr) (w : World) (hK : ¬ (2000 : Int) < (K : Int)) (HLG : Kp (∀ W Y, W.cell? ⟨Y, 0, none⟩ = some (.int .i64 s) → W.cell? ⟨Y, 1, none⟩ = some (.slice g1 m c1) → Calls Try.prog 15 #[.slice (some ⟨Y, 0, none⟩) 1 1] W fun e w' => e = .returned (.bool true) ∧ Below W.heap.size W w')) (HOF : Kp (∀ W, Below w.heap.size w W → Calls Try.prog 32 #[.int .i64 n, .slice g2 K c2] W fun e w' => ∃ g c, e = .returned (.tuple #[.agg #[.int .i64 OS, .slice g OL c], .int .i64 OE]) ∧ FB W.heap.size w' (.slice g OL c) LO ∧ Below W.heap.size W w')) (HRO : Kp (∀ W, Below w.heap.size w W → Calls Try.prog 33 #[.int .i64 n, .slice g2 K c2] W fun e w' => ∃ g c, e = .returned (.tuple #[.agg #[.int .i64 OS, .slice g OL c], .int .i64 OE]) ∧ FB W.heap.size w' (.slice g OL c) LO ∧ Below W.heap.size W w')) (HSO : Kp (∀ W g g' c c', LB W (.slice g OL c) LO → LB W (.slice g' OL c') LO → Calls Try.prog 25 #[.agg #[.int .i64 OS, .slice g OL c], .agg #[.int .i64 OS, .slice g' OL c']] W fun e w' => e = .returned (.bool true) ∧ Below W.heap.size W w')) (HCA : Kp (∀ W, Below w.heap.size w W → Calls Try.prog 34 #[.agg #[.int .i64 s, .slice g1 m c1], .slice g2 K c2] W fun e w' => ∃ g c, e = .returned (.tuple #[.agg #[.int .i64 CS, .slice g CL c], .int .i64 CE]) ∧ FB W.heap.size w' (.slice g CL c) LC ∧ Below W.heap.size W w')) (HRC : Kp (∀ W, Below w.heap.size w W → Calls Try.prog 35 #[.agg #[.int .i64 s, .slice g1 m c1], .slice g2 K c2] W fun e w' => ∃ g c, e = .returned (.tuple #[.agg #[.int .i64 CS, .slice g CL c], .int .i64 CE]) ∧ FB W.heap.size w' (.slice g CL c) LC ∧ Below W.heap.size W w')) (HSC : Kp (∀ W g g' c c', LB W (.slice g CL c) LC → LB W (.slice g' CL c') LC → Calls Try.prog 25 #[.agg #[.int .i64 CS, .slice g CL c], .agg #[.int .i64 CS, .slice g' CL c']] W fun e w' => e = .returned (.bool true) ∧ Below W.heap.size W w')) (HGR : Kp (∀ W, Below w.heap.size w W → Calls Try.prog 26 #[.agg #[.int .i64 s, .slice g1 m c1]] W fun e w' => ∃ g c, e = .returned (.tuple #[.slice g LG.length c, .int .i64 0]) ∧ GS w' (.slice g LG.length c) LG ∧ Below W.heap.size W w')) (HO2 : Kp (∀ W g c, GS W (.slice g LG.length c) LG → Calls Try.prog 32 #[.int .i64 s, .slice g LG.length c] W fun e w' => ∃ g c, e = .returned (.tuple #[.agg #[.int .i64 s, .slice g m c], .int .i64 0]) ∧ FB W.heap.size w' (.slice g m c) h ∧ Below W.heap.size W w')) (HSH : Kp (∀ W g g' c c', LB W (.slice g m c) h → LB W (.slice g' m c') h → Calls Try.prog 25 #[.agg #[.int .i64 s, .slice g m c], .agg #[.int .i64 s, .slice g' m c']] W fun e w' => e = .returned (.bool true) ∧ Below W.heap.size W w')) (HU : Kp (∀ W, Below w.heap.size w W → LB W (.slice g1 m c1) h)) :
    Calls Try.prog 4 #[.agg #[.int .i64 s, .slice g1 m c1], .int .i64 n, .slice g2 K c2] w (EndsO w) := by
  have t1 : (OE != OE) = false := by simp
  have t2 : (CE != CE) = false := by simp
  go_enter Try.func4, Try.ntmps4
  go_wp2_with fail
  refine (HLG.out _ _ (by go_simp) (by go_simp)).mono ?_
  rintro en w1 ⟨rfl, hb1⟩
  have HB1 : Kp (Below w.heap.size w w1) := ⟨Below.trans (by repeat (first | refine Below.alloc ?_ (by (try simp) <;> omega) _ | refine bDrewN ?_ _ | refine Below.drew ?_ | refine Below.setCell ?_ (by (try simp) <;> omega) _ | exact Below.refl _ _)) (hb1.mono (by (try simp) <;> omega))⟩
  have hz1_0 : w.heap.size < w1.heap.size := by have := hb1.size; (try simp at this); omega
  obtain ⟨hc, hf⟩ := bcell hb1
  have c1_0_0 : w1.cell? ⟨w.heap.size, 0, none⟩ = some (.int .i64 s) := (hc _ _ (by (try simp) <;> omega)).trans (by go_simp)
  have c1_0_1 : w1.cell? ⟨w.heap.size, 1, none⟩ = some ((.slice g1 m c1)) := (hc _ _ (by (try simp) <;> omega)).trans (by go_simp)
  have z1_0 : ∀ j, w1.frozen? ⟨w.heap.size, j, none⟩ = false := fun j => (hf _ _ (by (try simp) <;> omega)).trans (by go_simp)
  clear hc hf hb1
  go_wp2_with fail
  refine (HOF.out _ HB1.out).mono ?_
  rintro en w2 ⟨gx, cx, rfl, hx, hb2⟩
  have HX := Kp.mk hx.1
  clear hx
  have HB2 : Kp (Below w.heap.size w w2) := ⟨Below.trans (by repeat (first | refine Below.alloc ?_ (by have := HB1.out.size; (try simp) <;> omega) _ | refine bDrewN ?_ _ | refine Below.drew ?_ | refine Below.setCell ?_ (by have := HB1.out.size; (try simp) <;> omega) _ | exact HB1.out)) (hb2.mono (by have := HB1.out.size; (try simp) <;> omega))⟩
  have hz2_0 : w.heap.size < w2.heap.size := by have := hb2.size; (try simp at this); omega
  obtain ⟨hc, hf⟩ := bcell hb2
  have c2_0_0 : w2.cell? ⟨w.heap.size, 0, none⟩ = some (.int .i64 s) := (hc _ _ (by (try simp) <;> omega)).trans (by go_simp)
  have c2_0_1 : w2.cell? ⟨w.heap.size, 1, none⟩ = some ((.slice g1 m c1)) := (hc _ _ (by (try simp) <;> omega)).trans (by go_simp)
  have z2_0 : ∀ j, w2.frozen? ⟨w.heap.size, j, none⟩ = false := fun j => (hf _ _ (by (try simp) <;> omega)).trans (by go_simp)
  clear hc hf hb2
  go_wp2_with fail
  refine (HRO.out _ (HB2.out.alloc HB2.out.size _)).mono ?_
  rintro en w3 ⟨gy, cy, rfl, hy, hb3⟩
  have HY := Kp.mk hy.1
  have HX := Kp.mk ((HX.out.below ((Below.refl _ _).alloc (Nat.le_refl _) _)).below hb3)
  clear hy
  have HB3 : Kp (Below w.heap.size w w3) := ⟨Below.trans (by repeat (first | refine Below.alloc ?_ (by have := HB2.out.size; (try simp) <;> omega) _ | refine bDrewN ?_ _ | refine Below.drew ?_ | refine Below.setCell ?_ (by have := HB2.out.size; (try simp) <;> omega) _ | exact HB2.out)) (hb3.mono (by have := HB2.out.size; (try simp) <;> omega))⟩
  have hz3_0 : w.heap.size < w3.heap.size := by have := hb3.size; (try simp at this); omega
  have hz3_1 : w2.heap.size < w3.heap.size := by have := hb3.size; (try simp at this); omega
  obtain ⟨hc, hf⟩ := bcell hb3
  have c3_0_0 : w3.cell? ⟨w.heap.size, 0, none⟩ = some (.int .i64 s) := (hc _ _ (by (try simp) <;> omega)).trans (by go_simp)
  have c3_0_1 : w3.cell? ⟨w.heap.size, 1, none⟩ = some ((.slice g1 m c1)) := (hc _ _ (by (try simp) <;> omega)).trans (by go_simp)
  have z3_0 : ∀ j, w3.frozen? ⟨w.heap.size, j, none⟩ = false := fun j => (hf _ _ (by (try simp) <;> omega)).trans (by go_simp)
  have c3_1_0 : w3.cell? ⟨w2.heap.size, 0, none⟩ = some (.int .i64 OS) := (hc _ _ (by (try simp) <;> omega)).trans (by go_simp)
  have c3_1_1 : w3.cell? ⟨w2.heap.size, 1, none⟩ = some ((.slice gx OL cx)) := (hc _ _ (by (try simp) <;> omega)).trans (by go_simp)
  have z3_1 : ∀ j, w3.frozen? ⟨w2.heap.size, j, none⟩ = false := fun j => (hf _ _ (by (try simp) <;> omega)).trans (by go_simp)
  clear hc hf hb3
  go_wp2_with fail
  refine (HSO.out _ _ _ _ _ (HX.out.below ((Below.refl _ _).alloc (Nat.le_refl _) _)) (HY.out.below ((Below.refl _ _).alloc (Nat.le_refl _) _))).mono ?_
  rintro en w4 ⟨rfl, hb4⟩
  have HB4 : Kp (Below w.heap.size w w4) := ⟨Below.trans (by repeat (first | refine Below.alloc ?_ (by have := HB3.out.size; (try simp) <;> omega) _ | refine bDrewN ?_ _ | refine Below.drew ?_ | refine Below.setCell ?_ (by have := HB3.out.size; (try simp) <;> omega) _ | exact HB3.out)) (hb4.mono (by have := HB3.out.size; (try simp) <;> omega))⟩
  have hz4_0 : w.heap.size < w4.heap.size := by have := hb4.size; (try simp at this); omega
  have hz4_1 : w2.heap.size < w4.heap.size := by have := hb4.size; (try simp at this); omega
  have hz4_2 : w3.heap.size < w4.heap.size := by have := hb4.size; (try simp at this); omega
  obtain ⟨hc, hf⟩ := bcell hb4
  have c4_0_0 : w4.cell? ⟨w.heap.size, 0, none⟩ = some (.int .i64 s) := (hc _ _ (by (try simp) <;> omega)).trans (by go_simp)
  have c4_0_1 : w4.cell? ⟨w.heap.size, 1, none⟩ = some ((.slice g1 m c1)) := (hc _ _ (by (try simp) <;> omega)).trans (by go_simp)
  have z4_0 : ∀ j, w4.frozen? ⟨w.heap.size, j, none⟩ = false := fun j => (hf _ _ (by (try simp) <;> omega)).trans (by go_simp)
  have c4_1_0 : w4.cell? ⟨w2.heap.size, 0, none⟩ = some (.int .i64 OS) := (hc _ _ (by (try simp) <;> omega)).trans (by go_simp)
  have c4_1_1 : w4.cell? ⟨w2.heap.size, 1, none⟩ = some ((.slice gx OL cx)) := (hc _ _ (by (try simp) <;> omega)).trans (by go_simp)
  have z4_1 : ∀ j, w4.frozen? ⟨w2.heap.size, j, none⟩ = false := fun j => (hf _ _ (by (try simp) <;> omega)).trans (by go_simp)
  have c4_2_0 : w4.cell? ⟨w3.heap.size, 0, none⟩ = some (.int .i64 OS) := (hc _ _ (by (try simp) <;> omega)).trans (by go_simp)
  have c4_2_1 : w4.cell? ⟨w3.heap.size, 1, none⟩ = some ((.slice gy OL cy)) := (hc _ _ (by (try simp) <;> omega)).trans (by go_simp)
  have z4_2 : ∀ j, w4.frozen? ⟨w3.heap.size, j, none⟩ = false := fun j => (hf _ _ (by (try simp) <;> omega)).trans (by go_simp)
  clear hc hf hb4
  clear HX HY
  go_wp2_with fail
  refine (HCA.out _ HB4.out).mono ?_
  rintro en w5 ⟨gp, cp, rfl, hp, hb5⟩
  have HP := Kp.mk hp
  have hz45 := hb5.size
  clear hp
  have HB5 : Kp (Below w.heap.size w w5) := ⟨Below.trans (by repeat (first | refine Below.alloc ?_ (by have := HB4.out.size; (try simp) <;> omega) _ | refine bDrewN ?_ _ | refine Below.drew ?_ | refine Below.setCell ?_ (by have := HB4.out.size; (try simp) <;> omega) _ | exact HB4.out)) (hb5.mono (by have := HB4.out.size; (try simp) <;> omega))⟩
  have hz5_0 : w.heap.size < w5.heap.size := by have := hb5.size; (try simp at this); omega
  have hz5_1 : w2.heap.size < w5.heap.size := by have := hb5.size; (try simp at this); omega
  have hz5_2 : w3.heap.size < w5.heap.size := by have := hb5.size; (try simp at this); omega
  obtain ⟨hc, hf⟩ := bcell hb5
  have c5_0_0 : w5.cell? ⟨w.heap.size, 0, none⟩ = some (.int .i64 s) := (hc _ _ (by (try simp) <;> omega)).trans (by go_simp)
  have c5_0_1 : w5.cell? ⟨w.heap.size, 1, none⟩ = some ((.slice g1 m c1)) := (hc _ _ (by (try simp) <;> omega)).trans (by go_simp)
  have z5_0 : ∀ j, w5.frozen? ⟨w.heap.size, j, none⟩ = false := fun j => (hf _ _ (by (try simp) <;> omega)).trans (by go_simp)
  have c5_1_0 : w5.cell? ⟨w2.heap.size, 0, none⟩ = some (.int .i64 OS) := (hc _ _ (by (try simp) <;> omega)).trans (by go_simp)
  have c5_1_1 : w5.cell? ⟨w2.heap.size, 1, none⟩ = some ((.slice gx OL cx)) := (hc _ _ (by (try simp) <;> omega)).trans (by go_simp)
  have z5_1 : ∀ j, w5.frozen? ⟨w2.heap.size, j, none⟩ = false := fun j => (hf _ _ (by (try simp) <;> omega)).trans (by go_simp)
  have c5_2_0 : w5.cell? ⟨w3.heap.size, 0, none⟩ = some (.int .i64 OS) := (hc _ _ (by (try simp) <;> omega)).trans (by go_simp)
  have c5_2_1 : w5.cell? ⟨w3.heap.size, 1, none⟩ = some ((.slice gy OL cy)) := (hc _ _ (by (try simp) <;> omega)).trans (by go_simp)
  have z5_2 : ∀ j, w5.frozen? ⟨w3.heap.size, j, none⟩ = false := fun j => (hf _ _ (by (try simp) <;> omega)).trans (by go_simp)
  clear hc hf hb5
  have hzl : w2.heap.size < w4.heap.size ∧ w3.heap.size < w4.heap.size ∧ w4.heap.size ≤ w5.heap.size := by omega
  have HZL := Kp.mk hzl
  clear hzl
  go_wp2_with fail
  refine (HRC.out _ (by (have hzS := HB5.out.size; (repeat (with_reducible first | exact HB5.out | refine Below.setCell ?_ ?_ _ | refine Below.alloc ?_ ?_ _ | refine Below.drew ?_ | refine bDrewN ?_ _)); all_goals ((try simp) <;> omega)))).mono ?_
  rintro en w6 ⟨gq, cq, rfl, hq, hb6⟩
  have HP := Kp.mk ((((HP.out.set w2.heap.size 0 (.int .i64 CS) HZL.out.1).set w2.heap.size 1 (.slice gp CL cp) HZL.out.1)).below hb6)
  have HQ : Kp (FB w4.heap.size w6 (.slice gq CL cq) LC) := ⟨hq.more (by have := HZL.out; simp; omega)⟩
  clear hq
  have HB6 : Kp (Below w.heap.size w w6) := ⟨Below.trans (by repeat (first | refine Below.alloc ?_ (by have := HB5.out.size; (try simp) <;> omega) _ | refine bDrewN ?_ _ | refine Below.drew ?_ | refine Below.setCell ?_ (by have := HB5.out.size; (try simp) <;> omega) _ | exact HB5.out)) (hb6.mono (by have := HB5.out.size; (try simp) <;> omega))⟩
  have hz6_0 : w.heap.size < w6.heap.size := by have := hb6.size; (try simp at this); omega
  have hz6_1 : w2.heap.size < w6.heap.size := by have := hb6.size; (try simp at this); omega
  have hz6_2 : w3.heap.size < w6.heap.size := by have := hb6.size; (try simp at this); omega
  obtain ⟨hc, hf⟩ := bcell hb6
  have c6_0_0 : w6.cell? ⟨w.heap.size, 0, none⟩ = some (.int .i64 s) := (hc _ _ (by (try simp) <;> omega)).trans (by go_simp)
  have c6_0_1 : w6.cell? ⟨w.heap.size, 1, none⟩ = some ((.slice g1 m c1)) := (hc _ _ (by (try simp) <;> omega)).trans (by go_simp)
  have z6_0 : ∀ j, w6.frozen? ⟨w.heap.size, j, none⟩ = false := fun j => (hf _ _ (by (try simp) <;> omega)).trans (by go_simp)
  have c6_1_0 : w6.cell? ⟨w2.heap.size, 0, none⟩ = some (.int .i64 CS) := (hc _ _ (by (try simp) <;> omega)).trans (by go_simp)
  have c6_1_1 : w6.cell? ⟨w2.heap.size, 1, none⟩ = some ((.slice gp CL cp)) := (hc _ _ (by (try simp) <;> omega)).trans (by go_simp)
  have z6_1 : ∀ j, w6.frozen? ⟨w2.heap.size, j, none⟩ = false := fun j => (hf _ _ (by (try simp) <;> omega)).trans (by go_simp)
  have c6_2_0 : w6.cell? ⟨w3.heap.size, 0, none⟩ = some (.int .i64 OS) := (hc _ _ (by (try simp) <;> omega)).trans (by go_simp)
  have c6_2_1 : w6.cell? ⟨w3.heap.size, 1, none⟩ = some ((.slice gy OL cy)) := (hc _ _ (by (try simp) <;> omega)).trans (by go_simp)
  have z6_2 : ∀ j, w6.frozen? ⟨w3.heap.size, j, none⟩ = false := fun j => (hf _ _ (by (try simp) <;> omega)).trans (by go_simp)
  clear hc hf hb6
  go_wp2_with fail
  refine (HSC.out _ _ _ _ _ ((HP.out.set w3.heap.size 0 (.int .i64 CS) HZL.out.2.1).set w3.heap.size 1 (.slice gq CL cq) HZL.out.2.1).1 ((HQ.out.set w3.heap.size 0 (.int .i64 CS) HZL.out.2.1).set w3.heap.size 1 (.slice gq CL cq) HZL.out.2.1).1).mono ?_
  rintro en w7 ⟨rfl, hb7⟩
  have HB7 : Kp (Below w.heap.size w w7) := ⟨Below.trans (by repeat (first | refine Below.alloc ?_ (by have := HB6.out.size; (try simp) <;> omega) _ | refine bDrewN ?_ _ | refine Below.drew ?_ | refine Below.setCell ?_ (by have := HB6.out.size; (try simp) <;> omega) _ | exact HB6.out)) (hb7.mono (by have := HB6.out.size; (try simp) <;> omega))⟩
  have hz7_0 : w.heap.size < w7.heap.size := by have := hb7.size; (try simp at this); omega
  have hz7_1 : w2.heap.size < w7.heap.size := by have := hb7.size; (try simp at this); omega
  obtain ⟨hc, hf⟩ := bcell hb7
  have c7_0_0 : w7.cell? ⟨w.heap.size, 0, none⟩ = some (.int .i64 s) := (hc _ _ (by (try simp) <;> omega)).trans (by go_simp)
  have c7_0_1 : w7.cell? ⟨w.heap.size, 1, none⟩ = some ((.slice g1 m c1)) := (hc _ _ (by (try simp) <;> omega)).trans (by go_simp)
  have z7_0 : ∀ j, w7.frozen? ⟨w.heap.size, j, none⟩ = false := fun j => (hf _ _ (by (try simp) <;> omega)).trans (by go_simp)
  have c7_1_0 : w7.cell? ⟨w2.heap.size, 0, none⟩ = some (.int .i64 CS) := (hc _ _ (by (try simp) <;> omega)).trans (by go_simp)
  have c7_1_1 : w7.cell? ⟨w2.heap.size, 1, none⟩ = some ((.slice gp CL cp)) := (hc _ _ (by (try simp) <;> omega)).trans (by go_simp)
  have z7_1 : ∀ j, w7.frozen? ⟨w2.heap.size, j, none⟩ = false := fun j => (hf _ _ (by (try simp) <;> omega)).trans (by go_simp)
  clear hc hf hb7
  clear HP HQ
  go_wp2_with fail
  refine (HGR.out _ HB7.out).mono ?_
  rintro en w8 ⟨gl, cl, rfl, hl, hb8⟩
  have HL := Kp.mk hl
  clear hl
  have HB8 : Kp (Below w.heap.size w w8) := ⟨Below.trans (by repeat (first | refine Below.alloc ?_ (by have := HB7.out.size; (try simp) <;> omega) _ | refine bDrewN ?_ _ | refine Below.drew ?_ | refine Below.setCell ?_ (by have := HB7.out.size; (try simp) <;> omega) _ | exact HB7.out)) (hb8.mono (by have := HB7.out.size; (try simp) <;> omega))⟩
  have hz8_0 : w.heap.size < w8.heap.size := by have := hb8.size; (try simp at this); omega
  have hz8_1 : w2.heap.size < w8.heap.size := by have := hb8.size; (try simp at this); omega
  obtain ⟨hc, hf⟩ := bcell hb8
  have c8_0_0 : w8.cell? ⟨w.heap.size, 0, none⟩ = some (.int .i64 s) := (hc _ _ (by (try simp) <;> omega)).trans (by go_simp)
  have c8_0_1 : w8.cell? ⟨w.heap.size, 1, none⟩ = some ((.slice g1 m c1)) := (hc _ _ (by (try simp) <;> omega)).trans (by go_simp)
  have z8_0 : ∀ j, w8.frozen? ⟨w.heap.size, j, none⟩ = false := fun j => (hf _ _ (by (try simp) <;> omega)).trans (by go_simp)
  have c8_1_0 : w8.cell? ⟨w2.heap.size, 0, none⟩ = some (.int .i64 CS) := (hc _ _ (by (try simp) <;> omega)).trans (by go_simp)
  have c8_1_1 : w8.cell? ⟨w2.heap.size, 1, none⟩ = some ((.slice gp CL cp)) := (hc _ _ (by (try simp) <;> omega)).trans (by go_simp)
  have z8_1 : ∀ j, w8.frozen? ⟨w2.heap.size, j, none⟩ = false := fun j => (hf _ _ (by (try simp) <;> omega)).trans (by go_simp)
  clear hc hf hb8
  have hz8 : w2.heap.size < w8.heap.size := by omega
  have HZ8 := Kp.mk hz8
  clear hz8
  go_wp2_with fail
  refine (HO2.out _ _ _ HL.out).mono ?_
  rintro en w9 ⟨gz, cz, rfl, hz, hb9⟩
  have HZ := Kp.mk hz
  clear hz
  have HB9 : Kp (Below w.heap.size w w9) := ⟨Below.trans (by repeat (first | refine Below.alloc ?_ (by have := HB8.out.size; (try simp) <;> omega) _ | refine bDrewN ?_ _ | refine Below.drew ?_ | refine Below.setCell ?_ (by have := HB8.out.size; (try simp) <;> omega) _ | exact HB8.out)) (hb9.mono (by have := HB8.out.size; (try simp) <;> omega))⟩
  have hz9_0 : w.heap.size < w9.heap.size := by have := hb9.size; (try simp at this); omega
  have hz9_1 : w2.heap.size < w9.heap.size := by have := hb9.size; (try simp at this); omega
  obtain ⟨hc, hf⟩ := bcell hb9
  have c9_0_0 : w9.cell? ⟨w.heap.size, 0, none⟩ = some (.int .i64 s) := (hc _ _ (by (try simp) <;> omega)).trans (by go_simp)
  have c9_0_1 : w9.cell? ⟨w.heap.size, 1, none⟩ = some ((.slice g1 m c1)) := (hc _ _ (by (try simp) <;> omega)).trans (by go_simp)
  have z9_0 : ∀ j, w9.frozen? ⟨w.heap.size, j, none⟩ = false := fun j => (hf _ _ (by (try simp) <;> omega)).trans (by go_simp)
  have c9_1_0 : w9.cell? ⟨w2.heap.size, 0, none⟩ = some (.int .i64 CS) := (hc _ _ (by (try simp) <;> omega)).trans (by go_simp)
  have c9_1_1 : w9.cell? ⟨w2.heap.size, 1, none⟩ = some ((.slice gp CL cp)) := (hc _ _ (by (try simp) <;> omega)).trans (by go_simp)
  have z9_1 : ∀ j, w9.frozen? ⟨w2.heap.size, j, none⟩ = false := fun j => (hf _ _ (by (try simp) <;> omega)).trans (by go_simp)
  clear hc hf hb9
  go_wp2_with fail
  refine (HSH.out _ _ _ _ _ ((HZ.out.set w2.heap.size 0 (.int .i64 s) HZ8.out).set w2.heap.size 1 (.slice gz m cz) HZ8.out).1 (HU.out _ (by (have hzS := HB9.out.size; (repeat (with_reducible first | exact HB9.out | refine Below.setCell ?_ ?_ _ | refine Below.alloc ?_ ?_ _ | refine Below.drew ?_ | refine bDrewN ?_ _)); all_goals ((try simp) <;> omega))))).mono ?_
  rintro en w10 ⟨rfl, hb10⟩
  have HB10 : Kp (Below w.heap.size w w10) := ⟨Below.trans (by repeat (first | refine Below.alloc ?_ (by have := HB9.out.size; (try simp) <;> omega) _ | refine bDrewN ?_ _ | refine Below.drew ?_ | refine Below.setCell ?_ (by have := HB9.out.size; (try simp) <;> omega) _ | exact HB9.out)) (hb10.mono (by have := HB9.out.size; (try simp) <;> omega))⟩
  have hz10_0 : w.heap.size < w10.heap.size := by have := hb10.size; (try simp at this); omega
  obtain ⟨hc, hf⟩ := bcell hb10
  have c10_0_0 : w10.cell? ⟨w.heap.size, 0, none⟩ = some (.int .i64 s) := (hc _ _ (by (try simp) <;> omega)).trans (by go_simp)
  have c10_0_1 : w10.cell? ⟨w.heap.size, 1, none⟩ = some ((.slice g1 m c1)) := (hc _ _ (by (try simp) <;> omega)).trans (by go_simp)
  have z10_0 : ∀ j, w10.frozen? ⟨w.heap.size, j, none⟩ = false := fun j => (hf _ _ (by (try simp) <;> omega)).trans (by go_simp)
  clear hc hf hb10
  go_wp2_with fail
  refine (awake_any _).mono ?_
  rintro en wz ⟨rfl, hbz⟩
  have HBZ : Kp (Below w.heap.size w wz) := ⟨(HB10.out).trans (hbz.mono (HB10.out).size)⟩
  clear hbz
  go_wp2
  go_ret
  exact ⟨rfl, HBZ.out⟩
theorem fb_res {n : Nat} {w w' : World} {r : Value} {L : List Bool} {S E : Int} (hr : VF n w' r S L) (hb : Below w.heap.size w w') : ∃ g c, Ending.returned (.tuple #[r, .int .i64 E]) = .returned (.tuple #[.agg #[.int .i64 S, .slice g L.length c], .int .i64 E]) ∧ FB n w' (.slice g L.length c) L ∧ Below w.heap.size w w' := by
  obtain ⟨u, rfl, hu⟩ := hr
  obtain ⟨g, c, rfl⟩ := hu.1.shape
  exact ⟨g, c, rfl, hu, hb⟩
theorem of_len (n : Int) (l : List Gr) : (ofL n l).length ≤ 1000 := by
  unfold ofL
  split
  · rename_i h
    have hs : sideB n = true := by
      unfold ofE at h
      split at h
      · rename_i h2
        exact h2.1
      · exact absurd h (by decide)
    have hs := side_iff.1 hs
    obtain ⟨s, rfl⟩ : ∃ s : Nat, n = s := ⟨n.toNat, by omega⟩
    unfold setB
    rw [List.length_map, places_len, Int.toNat_natCast]
    exact (cube_bd (by omega)).2
  · simp
theorem car_len (n : Int) (h : List Bool) (l : List Gr) : (carL n h l).length ≤ 1000 := by
  unfold carL
  split
  · rename_i hh
    have hs : blockB n h.length = true := by
      unfold carE at hh
      split at hh
      · rename_i h2
        exact h2
      · exact absurd hh (by decide)
    unfold blockB at hs
    rw [Bool.and_eq_true] at hs
    have hs := side_iff.1 hs.1
    obtain ⟨s, rfl⟩ : ∃ s : Nat, n = s := ⟨n.toNat, by omega⟩
    unfold lessL
    rw [List.length_map, places_len, Int.toNat_natCast]
    exact (cube_bd (by omega)).2
  · simp
set_option maxHeartbeats 1000000 in
theorem lawOf_any (s n : Int) (u v : Value) (h : List Bool) (l : List Gr) (w : World) (hu : LB w u h) (hv : GS w v l) :
    Calls Try.prog 4 #[.agg #[.int .i64 s, u], .int .i64 n, v] w (EndsO w) := by
  obtain ⟨g1, c1, rfl⟩ := hu.shape
  obtain ⟨g2, c2, rfl⟩ := hv.shape
  by_cases hL : h.length ≤ 2000
  · have HLG : Kp (∀ W Y, W.cell? ⟨Y, 0, none⟩ = some (.int .i64 s) → W.cell? ⟨Y, 1, none⟩ = some (.slice g1 h.length c1) → Calls Try.prog 15 #[.slice (some ⟨Y, 0, none⟩) 1 1] W fun e w' => e = .returned (.bool true) ∧ Below W.heap.size W w') := ⟨fun W Y h0 h1 => by
      have hh := light_any s g1 h.length c1 Y W h0 h1
      rwa [decide_eq_true hL] at hh⟩
    by_cases hK : l.length ≤ 2000
    · have HS : ∀ (S : Int) (L : List Bool), L.length ≤ 2000 → Kp (∀ W g g' c c', LB W (.slice g L.length c) L → LB W (.slice g' L.length c') L → Calls Try.prog 25 #[.agg #[.int .i64 S, .slice g L.length c], .agg #[.int .i64 S, .slice g' L.length c']] W fun e w' => e = .returned (.bool true) ∧ Below W.heap.size W w') := fun S L hl => ⟨fun W g g' c c' k1 k2 => rsame_yes S _ _ L W (by omega) k1 k2⟩
      have HOF : Kp (∀ W, Below w.heap.size w W → Calls Try.prog 32 #[.int .i64 n, .slice g2 l.length c2] W fun e w' => ∃ g c, e = .returned (.tuple #[.agg #[.int .i64 (ofS n l), .slice g (ofL n l).length c], .int .i64 (ofE n l)]) ∧ FB W.heap.size w' (.slice g (ofL n l).length c) (ofL n l) ∧ Below W.heap.size W w') := ⟨fun W hW => (Of_new n _ l W (hv.below hW) (by omega)).mono fun e w' ⟨r, he, hr, hb⟩ => by
        subst he
        exact fb_res hr hb⟩
      have HRO : Kp (∀ W, Below w.heap.size w W → Calls Try.prog 33 #[.int .i64 n, .slice g2 l.length c2] W fun e w' => ∃ g c, e = .returned (.tuple #[.agg #[.int .i64 (ofS n l), .slice g (ofL n l).length c], .int .i64 (ofE n l)]) ∧ FB W.heap.size w' (.slice g (ofL n l).length c) (ofL n l) ∧ Below W.heap.size W w') := ⟨fun W hW => (rOf_any n _ l W (hv.below hW) (by omega)).mono fun e w' ⟨r, he, hr, hb⟩ => by
        subst he
        exact fb_res hr hb⟩
      have HCA : Kp (∀ W, Below w.heap.size w W → Calls Try.prog 34 #[.agg #[.int .i64 s, .slice g1 h.length c1], .slice g2 l.length c2] W fun e w' => ∃ g c, e = .returned (.tuple #[.agg #[.int .i64 (carS s h l), .slice g (carL s h l).length c], .int .i64 (carE s h l)]) ∧ FB W.heap.size w' (.slice g (carL s h l).length c) (carL s h l) ∧ Below W.heap.size W w') := ⟨fun W hW => (Carved_new s _ _ h l W (hu.below hW) (hv.below hW) (by omega)).mono fun e w' ⟨r, he, hr, hb⟩ => by
        subst he
        exact fb_res hr hb⟩
      have HRC : Kp (∀ W, Below w.heap.size w W → Calls Try.prog 35 #[.agg #[.int .i64 s, .slice g1 h.length c1], .slice g2 l.length c2] W fun e w' => ∃ g c, e = .returned (.tuple #[.agg #[.int .i64 (carS s h l), .slice g (carL s h l).length c], .int .i64 (carE s h l)]) ∧ FB W.heap.size w' (.slice g (carL s h l).length c) (carL s h l) ∧ Below W.heap.size W w') := ⟨fun W hW => (rCarved_any s _ _ h l W (hu.below hW) (hv.below hW) (by omega)).mono fun e w' ⟨r, he, hr, hb⟩ => by
        subst he
        exact fb_res hr hb⟩
      have HSO := HS (ofS n l) (ofL n l) (by have := of_len n l; omega)
      have HSC := HS (carS s h l) (carL s h l) (by have := car_len s h l; omega)
      cases hb : blockB s h.length with
      | false => exact lo_bad s n _ _ _ _ g1 g2 h.length c1 l.length c2 _ _ _ _ w (by omega) HLG HOF HRO HSO HCA HRC HSC ⟨fun W _ => Grains_inv s g1 h.length c1 W hb⟩
      | true =>
        have hb2 := hb
        unfold blockB at hb2
        rw [Bool.and_eq_true, decide_eq_true_eq] at hb2
        have hs := side_iff.1 hb2.1
        obtain ⟨x, rfl⟩ : ∃ x : Nat, s = x := ⟨s.toNat, by omega⟩
        have hl : h.length = x * x * x := by have := hb2.2; rw [← Int.natCast_mul, ← Int.natCast_mul] at this; exact Int.ofNat.inj this
        have hc := (cube_bd (s := x) (by omega)).2
        have hfew := grains_few x h
        have HGR : Kp (∀ W, Below w.heap.size w W → Calls Try.prog 26 #[.agg #[.int .i64 x, .slice g1 h.length c1]] W fun e w' => ∃ g c, e = .returned (.tuple #[.slice g (grainsL x h).length c, .int .i64 0]) ∧ GS w' (.slice g (grainsL x h).length c) (grainsL x h) ∧ Below W.heap.size W w') := ⟨fun W hW => (Grains_in x _ h W (hu.below hW) (by omega) (by omega) hl hb).mono fun e w' ⟨r, he, ⟨B0, _, ho⟩, hbb⟩ => by
          subst he
          have hg := ho.gs
          obtain ⟨g, c, rfl⟩ := hg.shape
          exact ⟨g, c, rfl, hg, hbb⟩⟩
        have HO2 : Kp (∀ W g c, GS W (.slice g (grainsL x h).length c) (grainsL x h) → Calls Try.prog 32 #[.int .i64 x, .slice g (grainsL x h).length c] W fun e w' => ∃ g c, e = .returned (.tuple #[.agg #[.int .i64 x, .slice g h.length c], .int .i64 0]) ∧ FB W.heap.size w' (.slice g h.length c) h ∧ Below W.heap.size W w') := ⟨fun W g c hg => (Of_new x _ (grainsL x h) W hg (by omega)).mono fun e w' ⟨r, he, hr, hbb⟩ => by
          subst he
          have e0 : ofE x (grainsL x h) = 0 := by unfold ofE; rw [if_pos ⟨hb2.1, grains_all x h⟩, if_pos (grains_nodup x h)]
          have e1 : ofS x (grainsL x h) = x := by unfold ofS; rw [e0]; rfl
          have e2 : ofL x (grainsL x h) = h := by unfold ofL; rw [e0, if_pos rfl, Int.toNat_natCast, set_back hl]
          rw [e1, e2] at hr
          rw [e0]
          exact fb_res hr hbb⟩
        exact lo_good x n _ _ _ _ g1 g2 h.length c1 l.length c2 _ _ _ _ h (grainsL x h) w (by omega) HLG HOF HRO HSO HCA HRC HSC HGR HO2 (HS x h hL) ⟨fun W hW => hu.below hW⟩
    · exact lo_long s n g1 g2 h.length c1 l.length c2 w (by omega) HLG
  · refine lo_light s n g1 g2 h.length c1 l.length c2 w ⟨fun W Y h0 h1 => ?_⟩
    have hh := light_any s g1 h.length c1 Y W h0 h1
    rwa [decide_eq_false hL] at hh
end Go.Proofs.Yticcafjogmjkiaa.Cv
