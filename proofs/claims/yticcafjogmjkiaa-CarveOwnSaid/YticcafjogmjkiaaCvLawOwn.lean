/-
  THE WALK of the law CarveOwn.
-/
import Derived.Test.YticcafjogmjkiaaCvAwake
import Derived.Test.YticcafjogmjkiaaCvOwnK
import Derived.Test.YticcafjogmjkiaaCvRefD
namespace Go.Proofs.Yticcafjogmjkiaa.Cv
open Go Go.RowKit Go.Sort

def EndsW (w : World) (e : Ending) (w' : World) : Prop := e = .returned (.bool true) ∧ Below w.heap.size w w'
theorem ow_light (s : Int) (g1 g2 : Option Addr) (m c1 K c2 : Nat) (w : World) (HLG : Kp (∀ W Y, W.cell? ⟨Y, 0, none⟩ = some (.int .i64 s) → W.cell? ⟨Y, 1, none⟩ = some (.slice g1 m c1) → Calls Try.prog 15 #[.slice (some ⟨Y, 0, none⟩) 1 1] W fun e w' => e = .returned (.bool false) ∧ Below W.heap.size W w')) :
    Calls Try.prog 11 #[.agg #[.int .i64 s, .slice g1 m c1], .slice g2 K c2] w (EndsW w) := by
  go_enter Try.func11, Try.ntmps11
  go_wp2_with fail
  refine (HLG.out _ _ (by go_simp) (by go_simp)).mono ?_
  rintro en w1 ⟨rfl, hb1⟩
  have HB1 : Kp (Below w.heap.size w w1) := ⟨Below.trans (by repeat (first | refine Below.alloc ?_ (by (try simp) <;> omega) _ | refine bDrewN ?_ _ | refine Below.drew ?_ | refine Below.setCell ?_ (by (try simp) <;> omega) _ | exact Below.refl _ _)) (hb1.mono (by (try simp) <;> omega))⟩
  have hz1_0 : w.heap.size < w1.heap.size := by have := hb1.size; (try simp at this); omega
  obtain ⟨hc, hf⟩ := bcell hb1
  have c1_0_0 : w1.cell? ⟨w.heap.size, 0, none⟩ = some (.int .i64 s) := (hc _ _ (by (try simp) <;> omega)).trans (by go_simp)
  have c1_0_1 : w1.cell? ⟨w.heap.size, 1, none⟩ = some ((.slice g1 m c1)) := (hc _ _ (by (try simp) <;> omega)).trans (by go_simp)
  have z1_0 : ∀ j, w1.frozen? ⟨w.heap.size, j, none⟩ = false := fun j => (hf _ _ (by (try simp) <;> omega)).trans (by go_simp)
  clear hc hf hb1
  go_wp2_with fail
  refine (awake_any _).mono ?_
  rintro en wz ⟨rfl, hbz⟩
  have HBZ : Kp (Below w.heap.size w wz) := ⟨(HB1.out).trans (hbz.mono (HB1.out).size)⟩
  clear hbz
  go_wp2
  go_ret
  exact ⟨rfl, HBZ.out⟩
theorem ow_long (s : Int) (g1 g2 : Option Addr) (m c1 K c2 : Nat) (w : World) (hK : (1000 : Int) < (K : Int)) (HLG : Kp (∀ W Y, W.cell? ⟨Y, 0, none⟩ = some (.int .i64 s) → W.cell? ⟨Y, 1, none⟩ = some (.slice g1 m c1) → Calls Try.prog 15 #[.slice (some ⟨Y, 0, none⟩) 1 1] W fun e w' => e = .returned (.bool true) ∧ Below W.heap.size W w')) :
    Calls Try.prog 11 #[.agg #[.int .i64 s, .slice g1 m c1], .slice g2 K c2] w (EndsW w) := by
  go_enter Try.func11, Try.ntmps11
  go_wp2_with fail
  refine (HLG.out _ _ (by go_simp) (by go_simp)).mono ?_
  rintro en w1 ⟨rfl, hb1⟩
  have HB1 : Kp (Below w.heap.size w w1) := ⟨Below.trans (by repeat (first | refine Below.alloc ?_ (by (try simp) <;> omega) _ | refine bDrewN ?_ _ | refine Below.drew ?_ | refine Below.setCell ?_ (by (try simp) <;> omega) _ | exact Below.refl _ _)) (hb1.mono (by (try simp) <;> omega))⟩
  have hz1_0 : w.heap.size < w1.heap.size := by have := hb1.size; (try simp at this); omega
  obtain ⟨hc, hf⟩ := bcell hb1
  have c1_0_0 : w1.cell? ⟨w.heap.size, 0, none⟩ = some (.int .i64 s) := (hc _ _ (by (try simp) <;> omega)).trans (by go_simp)
  have c1_0_1 : w1.cell? ⟨w.heap.size, 1, none⟩ = some ((.slice g1 m c1)) := (hc _ _ (by (try simp) <;> omega)).trans (by go_simp)
  have z1_0 : ∀ j, w1.frozen? ⟨w.heap.size, j, none⟩ = false := fun j => (hf _ _ (by (try simp) <;> omega)).trans (by go_simp)
  clear hc hf hb1
  go_wp2_with fail
  refine (awake_any _).mono ?_
  rintro en wz ⟨rfl, hbz⟩
  have HBZ : Kp (Below w.heap.size w wz) := ⟨(HB1.out).trans (hbz.mono (HB1.out).size)⟩
  clear hbz
  go_wp2
  go_ret
  exact ⟨rfl, HBZ.out⟩
theorem ow_inv (s : Int) (g1 g2 : Option Addr) (m c1 K c2 : Nat) (w : World) (hK : ¬ (1000 : Int) < (K : Int)) (HLG : Kp (∀ W Y, W.cell? ⟨Y, 0, none⟩ = some (.int .i64 s) → W.cell? ⟨Y, 1, none⟩ = some (.slice g1 m c1) → Calls Try.prog 15 #[.slice (some ⟨Y, 0, none⟩) 1 1] W fun e w' => e = .returned (.bool true) ∧ Below W.heap.size W w')) (HVB : Kp (∀ W, Calls Try.prog 18 #[.agg #[.int .i64 s, .slice g1 m c1]] W fun e w' => e = .returned (.bool false) ∧ Below W.heap.size W w')) :
    Calls Try.prog 11 #[.agg #[.int .i64 s, .slice g1 m c1], .slice g2 K c2] w (EndsW w) := by
  go_enter Try.func11, Try.ntmps11
  go_wp2_with fail
  refine (HLG.out _ _ (by go_simp) (by go_simp)).mono ?_
  rintro en w1 ⟨rfl, hb1⟩
  have HB1 : Kp (Below w.heap.size w w1) := ⟨Below.trans (by repeat (first | refine Below.alloc ?_ (by (try simp) <;> omega) _ | refine bDrewN ?_ _ | refine Below.drew ?_ | refine Below.setCell ?_ (by (try simp) <;> omega) _ | exact Below.refl _ _)) (hb1.mono (by (try simp) <;> omega))⟩
  have hz1_0 : w.heap.size < w1.heap.size := by have := hb1.size; (try simp at this); omega
  obtain ⟨hc, hf⟩ := bcell hb1
  have c1_0_0 : w1.cell? ⟨w.heap.size, 0, none⟩ = some (.int .i64 s) := (hc _ _ (by (try simp) <;> omega)).trans (by go_simp)
  have c1_0_1 : w1.cell? ⟨w.heap.size, 1, none⟩ = some ((.slice g1 m c1)) := (hc _ _ (by (try simp) <;> omega)).trans (by go_simp)
  have z1_0 : ∀ j, w1.frozen? ⟨w.heap.size, j, none⟩ = false := fun j => (hf _ _ (by (try simp) <;> omega)).trans (by go_simp)
  clear hc hf hb1
  go_wp2_with fail
  refine (HVB.out _).mono ?_
  rintro en w2 ⟨rfl, hb2⟩
  have HB2 : Kp (Below w.heap.size w w2) := ⟨Below.trans (by repeat (first | refine Below.alloc ?_ (by have := HB1.out.size; (try simp) <;> omega) _ | refine bDrewN ?_ _ | refine Below.drew ?_ | refine Below.setCell ?_ (by have := HB1.out.size; (try simp) <;> omega) _ | exact HB1.out)) (hb2.mono (by have := HB1.out.size; (try simp) <;> omega))⟩
  have hz2_0 : w.heap.size < w2.heap.size := by have := hb2.size; (try simp at this); omega
  obtain ⟨hc, hf⟩ := bcell hb2
  have c2_0_0 : w2.cell? ⟨w.heap.size, 0, none⟩ = some (.int .i64 s) := (hc _ _ (by (try simp) <;> omega)).trans (by go_simp)
  have c2_0_1 : w2.cell? ⟨w.heap.size, 1, none⟩ = some ((.slice g1 m c1)) := (hc _ _ (by (try simp) <;> omega)).trans (by go_simp)
  have z2_0 : ∀ j, w2.frozen? ⟨w.heap.size, j, none⟩ = false := fun j => (hf _ _ (by (try simp) <;> omega)).trans (by go_simp)
  clear hc hf hb2 c1_0_0 c1_0_1 z1_0
  go_wp2_with fail
  refine (awake_any _).mono ?_
  rintro en wz ⟨rfl, hbz⟩
  have HBZ : Kp (Below w.heap.size w wz) := ⟨(HB2.out).trans (hbz.mono (HB2.out).size)⟩
  clear hbz
  go_wp2
  go_ret
  exact ⟨rfl, HBZ.out⟩
set_option maxRecDepth 100000 in
set_option maxHeartbeats 4000000 in
theorem ow_bad (s N : Nat) (g1 g2 : Option Addr) (m c1 K c2 : Nat) (h X A0 A1 A2 : List Bool) (w : World) (hK : ¬ (1000 : Int) < (K : Int)) (HLG : Kp (∀ W Y, W.cell? ⟨Y, 0, none⟩ = some (.int .i64 s) → W.cell? ⟨Y, 1, none⟩ = some (.slice g1 m c1) → Calls Try.prog 15 #[.slice (some ⟨Y, 0, none⟩) 1 1] W fun e w' => e = .returned (.bool true) ∧ Below W.heap.size W w')) (HVB : Kp (∀ W, Calls Try.prog 18 #[.agg #[.int .i64 s, .slice g1 m c1]] W fun e w' => e = .returned (.bool true) ∧ Below W.heap.size W w')) (HU : Kp (∀ W, Below w.heap.size w W → LB W (.slice g1 m c1) h)) (HVS : Kp (∀ W g c, LB W (.slice g m c) h → Calls Try.prog 65 #[.agg #[.int .i64 s, .slice g m c]] W fun e w' => ∃ ga ca gb cb gc cc, e = .returned (.tuple #[.agg #[.int .i64 s, .slice ga N ca, .int .i64 s, .slice gb N cb, .int .i64 s, .slice gc N cc], .bool true]) ∧ (LB w' (.slice ga N ca) A0 ∧ LB w' (.slice gb N cb) A1 ∧ LB w' (.slice gc N cc) A2) ∧ Below W.heap.size W w')) (HHU : Kp (∀ W ga ca gb cb gc cc, LB W (.slice ga N ca) A0 → LB W (.slice gb N cb) A1 → LB W (.slice gc N cc) A2 → Calls Try.prog 37 #[.agg #[.int .i64 s, .slice ga N ca], .agg #[.int .i64 s, .slice gb N cb], .agg #[.int .i64 s, .slice gc N cc]] W fun e w' => ∃ g c, e = .returned (.tuple #[.agg #[.int .i64 s, .slice g m c], .int .i64 0]) ∧ LB w' (.slice g m c) X ∧ Below W.heap.size W w')) (HPO : Kp (∀ W ga ca gb cb gc cc, LB W (.slice ga N ca) A0 → LB W (.slice gb N cb) A1 → LB W (.slice gc N cc) A2 → Calls Try.prog 39 #[.agg #[.int .i64 s, .slice ga N ca], .agg #[.int .i64 s, .slice gb N cb], .agg #[.int .i64 s, .slice gc N cc]] W fun e w' => e = .returned (.tuple #[.bool true, .int .i64 0]) ∧ Below W.heap.size W w')) (HW1 : Kp (∀ W g c, Below w.heap.size w W → LB W (.slice g m c) X → Calls Try.prog 45 #[.agg #[.int .i64 s, .slice g1 m c1], .agg #[.int .i64 s, .slice g m c]] W fun e w' => e = .returned (.bool true) ∧ Below W.heap.size W w')) (HCA : Kp (∀ W, Below w.heap.size w W → Calls Try.prog 34 #[.agg #[.int .i64 s, .slice g1 m c1], .slice g2 K c2] W fun e w' => ∃ r z n c, e = .returned (.tuple #[.agg #[.int .i64 r, .slice z n c], .int .i64 7]) ∧ Below W.heap.size W w')) :
    Calls Try.prog 11 #[.agg #[.int .i64 s, .slice g1 m c1], .slice g2 K c2] w (EndsW w) := by
  go_enter Try.func11, Try.ntmps11
  go_wp2_with fail
  refine (HLG.out _ _ (by go_simp) (by go_simp)).mono ?_
  rintro en w1 ⟨rfl, hb1⟩
  have HB1 : Kp (Below w.heap.size w w1) := ⟨Below.trans (by repeat (first | refine Below.alloc ?_ (by (try simp) <;> omega) _ | refine bDrewN ?_ _ | refine Below.drew ?_ | refine Below.setCell ?_ (by (try simp) <;> omega) _ | exact Below.refl _ _)) (hb1.mono (by (try simp) <;> omega))⟩
  have hz1_0 : w.heap.size < w1.heap.size := by have := hb1.size; (try simp at this); omega
  obtain ⟨hc, hf⟩ := bcell hb1
  have c1_0_0 : w1.cell? ⟨w.heap.size, 0, none⟩ = some (.int .i64 s) := (hc _ _ (by (try simp) <;> omega)).trans (by go_simp)
  have c1_0_1 : w1.cell? ⟨w.heap.size, 1, none⟩ = some ((.slice g1 m c1)) := (hc _ _ (by (try simp) <;> omega)).trans (by go_simp)
  have z1_0 : ∀ j, w1.frozen? ⟨w.heap.size, j, none⟩ = false := fun j => (hf _ _ (by (try simp) <;> omega)).trans (by go_simp)
  clear hc hf hb1
  go_wp2_with fail
  refine (HVB.out _).mono ?_
  rintro en w2 ⟨rfl, hb2⟩
  have HB2 : Kp (Below w.heap.size w w2) := ⟨Below.trans (by repeat (first | refine Below.alloc ?_ (by have := HB1.out.size; (try simp) <;> omega) _ | refine bDrewN ?_ _ | refine Below.drew ?_ | refine Below.setCell ?_ (by have := HB1.out.size; (try simp) <;> omega) _ | exact HB1.out)) (hb2.mono (by have := HB1.out.size; (try simp) <;> omega))⟩
  have hz2_0 : w.heap.size < w2.heap.size := by have := hb2.size; (try simp at this); omega
  obtain ⟨hc, hf⟩ := bcell hb2
  have c2_0_0 : w2.cell? ⟨w.heap.size, 0, none⟩ = some (.int .i64 s) := (hc _ _ (by (try simp) <;> omega)).trans (by go_simp)
  have c2_0_1 : w2.cell? ⟨w.heap.size, 1, none⟩ = some ((.slice g1 m c1)) := (hc _ _ (by (try simp) <;> omega)).trans (by go_simp)
  have z2_0 : ∀ j, w2.frozen? ⟨w.heap.size, j, none⟩ = false := fun j => (hf _ _ (by (try simp) <;> omega)).trans (by go_simp)
  clear hc hf hb2 c1_0_0 c1_0_1 z1_0
  go_wp2_with fail
  refine (HVS.out _ _ _ (HU.out _ HB2.out)).mono ?_
  rintro en w3 ⟨ga1, ca1, gb1, cb1, gd1, cd1, rfl, ⟨k0, k1, k2⟩, hb3⟩
  have P0 := Kp.mk k0
  have P1 := Kp.mk k1
  have P2 := Kp.mk k2
  clear k0 k1 k2
  have HB3 : Kp (Below w.heap.size w w3) := ⟨Below.trans (by repeat (first | refine Below.alloc ?_ (by have := HB2.out.size; (try simp) <;> omega) _ | refine bDrewN ?_ _ | refine Below.drew ?_ | refine Below.setCell ?_ (by have := HB2.out.size; (try simp) <;> omega) _ | exact HB2.out)) (hb3.mono (by have := HB2.out.size; (try simp) <;> omega))⟩
  have hz3_0 : w.heap.size < w3.heap.size := by have := hb3.size; (try simp at this); omega
  obtain ⟨hc, hf⟩ := bcell hb3
  have c3_0_0 : w3.cell? ⟨w.heap.size, 0, none⟩ = some (.int .i64 s) := (hc _ _ (by (try simp) <;> omega)).trans (by go_simp)
  have c3_0_1 : w3.cell? ⟨w.heap.size, 1, none⟩ = some ((.slice g1 m c1)) := (hc _ _ (by (try simp) <;> omega)).trans (by go_simp)
  have z3_0 : ∀ j, w3.frozen? ⟨w.heap.size, j, none⟩ = false := fun j => (hf _ _ (by (try simp) <;> omega)).trans (by go_simp)
  clear hc hf hb3 c2_0_0 c2_0_1 z2_0
  go_wp2_with fail
  refine (HHU.out _ _ _ _ _ _ _ (P0.out.below ((Below.refl _ _).alloc (Nat.le_refl _) _)) (P1.out.below ((Below.refl _ _).alloc (Nat.le_refl _) _)) (P2.out.below ((Below.refl _ _).alloc (Nat.le_refl _) _))).mono ?_
  rintro en w4 ⟨gx, cx, rfl, hx, hb4⟩
  have HX := Kp.mk hx
  have P0 := Kp.mk ((P0.out.below ((Below.refl _ _).alloc (Nat.le_refl _) _)).below hb4)
  have P1 := Kp.mk ((P1.out.below ((Below.refl _ _).alloc (Nat.le_refl _) _)).below hb4)
  have P2 := Kp.mk ((P2.out.below ((Below.refl _ _).alloc (Nat.le_refl _) _)).below hb4)
  clear hx
  have HB4 : Kp (Below w.heap.size w w4) := ⟨Below.trans (by repeat (first | refine Below.alloc ?_ (by have := HB3.out.size; (try simp) <;> omega) _ | refine bDrewN ?_ _ | refine Below.drew ?_ | refine Below.setCell ?_ (by have := HB3.out.size; (try simp) <;> omega) _ | exact HB3.out)) (hb4.mono (by have := HB3.out.size; (try simp) <;> omega))⟩
  have hz4_0 : w.heap.size < w4.heap.size := by have := hb4.size; (try simp at this); omega
  have hz4_1 : w3.heap.size < w4.heap.size := by have := hb4.size; (try simp at this); omega
  obtain ⟨hc, hf⟩ := bcell hb4
  have c4_0_0 : w4.cell? ⟨w.heap.size, 0, none⟩ = some (.int .i64 s) := (hc _ _ (by (try simp) <;> omega)).trans (by go_simp)
  have c4_0_1 : w4.cell? ⟨w.heap.size, 1, none⟩ = some ((.slice g1 m c1)) := (hc _ _ (by (try simp) <;> omega)).trans (by go_simp)
  have z4_0 : ∀ j, w4.frozen? ⟨w.heap.size, j, none⟩ = false := fun j => (hf _ _ (by (try simp) <;> omega)).trans (by go_simp)
  have c4_1_0 : w4.cell? ⟨w3.heap.size, 0, none⟩ = some (.int .i64 s) := (hc _ _ (by (try simp) <;> omega)).trans (by go_simp)
  have c4_1_1 : w4.cell? ⟨w3.heap.size, 1, none⟩ = some ((.slice ga1 N ca1)) := (hc _ _ (by (try simp) <;> omega)).trans (by go_simp)
  have c4_1_2 : w4.cell? ⟨w3.heap.size, 2, none⟩ = some (.int .i64 s) := (hc _ _ (by (try simp) <;> omega)).trans (by go_simp)
  have c4_1_3 : w4.cell? ⟨w3.heap.size, 3, none⟩ = some ((.slice gb1 N cb1)) := (hc _ _ (by (try simp) <;> omega)).trans (by go_simp)
  have c4_1_4 : w4.cell? ⟨w3.heap.size, 4, none⟩ = some (.int .i64 s) := (hc _ _ (by (try simp) <;> omega)).trans (by go_simp)
  have c4_1_5 : w4.cell? ⟨w3.heap.size, 5, none⟩ = some ((.slice gd1 N cd1)) := (hc _ _ (by (try simp) <;> omega)).trans (by go_simp)
  have z4_1 : ∀ j, w4.frozen? ⟨w3.heap.size, j, none⟩ = false := fun j => (hf _ _ (by (try simp) <;> omega)).trans (by go_simp)
  clear hc hf hb4 c3_0_0 c3_0_1 z3_0
  go_wp2_with fail
  refine (HPO.out _ _ _ _ _ _ _ (P0.out.below ((Below.refl _ _).alloc (Nat.le_refl _) _)) (P1.out.below ((Below.refl _ _).alloc (Nat.le_refl _) _)) (P2.out.below ((Below.refl _ _).alloc (Nat.le_refl _) _))).mono ?_
  rintro en w5 ⟨rfl, hb5⟩
  have HX := Kp.mk ((HX.out.below ((Below.refl _ _).alloc (Nat.le_refl _) _)).below hb5)
  have P0 := Kp.mk ((P0.out.below ((Below.refl _ _).alloc (Nat.le_refl _) _)).below hb5)
  have P1 := Kp.mk ((P1.out.below ((Below.refl _ _).alloc (Nat.le_refl _) _)).below hb5)
  have P2 := Kp.mk ((P2.out.below ((Below.refl _ _).alloc (Nat.le_refl _) _)).below hb5)
  have HB5 : Kp (Below w.heap.size w w5) := ⟨Below.trans (by repeat (first | refine Below.alloc ?_ (by have := HB4.out.size; (try simp) <;> omega) _ | refine bDrewN ?_ _ | refine Below.drew ?_ | refine Below.setCell ?_ (by have := HB4.out.size; (try simp) <;> omega) _ | exact HB4.out)) (hb5.mono (by have := HB4.out.size; (try simp) <;> omega))⟩
  have hz5_0 : w.heap.size < w5.heap.size := by have := hb5.size; (try simp at this); omega
  have hz5_1 : w3.heap.size < w5.heap.size := by have := hb5.size; (try simp at this); omega
  have hz5_2 : w4.heap.size < w5.heap.size := by have := hb5.size; (try simp at this); omega
  obtain ⟨hc, hf⟩ := bcell hb5
  have c5_0_0 : w5.cell? ⟨w.heap.size, 0, none⟩ = some (.int .i64 s) := (hc _ _ (by (try simp) <;> omega)).trans (by go_simp)
  have c5_0_1 : w5.cell? ⟨w.heap.size, 1, none⟩ = some ((.slice g1 m c1)) := (hc _ _ (by (try simp) <;> omega)).trans (by go_simp)
  have z5_0 : ∀ j, w5.frozen? ⟨w.heap.size, j, none⟩ = false := fun j => (hf _ _ (by (try simp) <;> omega)).trans (by go_simp)
  have c5_1_0 : w5.cell? ⟨w3.heap.size, 0, none⟩ = some (.int .i64 s) := (hc _ _ (by (try simp) <;> omega)).trans (by go_simp)
  have c5_1_1 : w5.cell? ⟨w3.heap.size, 1, none⟩ = some ((.slice ga1 N ca1)) := (hc _ _ (by (try simp) <;> omega)).trans (by go_simp)
  have c5_1_2 : w5.cell? ⟨w3.heap.size, 2, none⟩ = some (.int .i64 s) := (hc _ _ (by (try simp) <;> omega)).trans (by go_simp)
  have c5_1_3 : w5.cell? ⟨w3.heap.size, 3, none⟩ = some ((.slice gb1 N cb1)) := (hc _ _ (by (try simp) <;> omega)).trans (by go_simp)
  have c5_1_4 : w5.cell? ⟨w3.heap.size, 4, none⟩ = some (.int .i64 s) := (hc _ _ (by (try simp) <;> omega)).trans (by go_simp)
  have c5_1_5 : w5.cell? ⟨w3.heap.size, 5, none⟩ = some ((.slice gd1 N cd1)) := (hc _ _ (by (try simp) <;> omega)).trans (by go_simp)
  have z5_1 : ∀ j, w5.frozen? ⟨w3.heap.size, j, none⟩ = false := fun j => (hf _ _ (by (try simp) <;> omega)).trans (by go_simp)
  have c5_2_0 : w5.cell? ⟨w4.heap.size, 0, none⟩ = some (.int .i64 s) := (hc _ _ (by (try simp) <;> omega)).trans (by go_simp)
  have c5_2_1 : w5.cell? ⟨w4.heap.size, 1, none⟩ = some ((.slice gx m cx)) := (hc _ _ (by (try simp) <;> omega)).trans (by go_simp)
  have z5_2 : ∀ j, w5.frozen? ⟨w4.heap.size, j, none⟩ = false := fun j => (hf _ _ (by (try simp) <;> omega)).trans (by go_simp)
  clear hc hf hb5 c4_0_0 c4_0_1 z4_0 c4_1_0 c4_1_1 c4_1_2 c4_1_3 c4_1_4 c4_1_5 z4_1
  go_wp2_with fail
  refine (HW1.out _ _ _ HB5.out HX.out).mono ?_
  rintro en w6 ⟨rfl, hb6⟩
  have P0 := Kp.mk (P0.out.below hb6)
  have P1 := Kp.mk (P1.out.below hb6)
  have P2 := Kp.mk (P2.out.below hb6)
  have HB6 : Kp (Below w.heap.size w w6) := ⟨Below.trans (by repeat (first | refine Below.alloc ?_ (by have := HB5.out.size; (try simp) <;> omega) _ | refine bDrewN ?_ _ | refine Below.drew ?_ | refine Below.setCell ?_ (by have := HB5.out.size; (try simp) <;> omega) _ | exact HB5.out)) (hb6.mono (by have := HB5.out.size; (try simp) <;> omega))⟩
  have hz6_0 : w.heap.size < w6.heap.size := by have := hb6.size; (try simp at this); omega
  have hz6_1 : w3.heap.size < w6.heap.size := by have := hb6.size; (try simp at this); omega
  obtain ⟨hc, hf⟩ := bcell hb6
  have c6_0_0 : w6.cell? ⟨w.heap.size, 0, none⟩ = some (.int .i64 s) := (hc _ _ (by (try simp) <;> omega)).trans (by go_simp)
  have c6_0_1 : w6.cell? ⟨w.heap.size, 1, none⟩ = some ((.slice g1 m c1)) := (hc _ _ (by (try simp) <;> omega)).trans (by go_simp)
  have z6_0 : ∀ j, w6.frozen? ⟨w.heap.size, j, none⟩ = false := fun j => (hf _ _ (by (try simp) <;> omega)).trans (by go_simp)
  have c6_1_0 : w6.cell? ⟨w3.heap.size, 0, none⟩ = some (.int .i64 s) := (hc _ _ (by (try simp) <;> omega)).trans (by go_simp)
  have c6_1_1 : w6.cell? ⟨w3.heap.size, 1, none⟩ = some ((.slice ga1 N ca1)) := (hc _ _ (by (try simp) <;> omega)).trans (by go_simp)
  have c6_1_2 : w6.cell? ⟨w3.heap.size, 2, none⟩ = some (.int .i64 s) := (hc _ _ (by (try simp) <;> omega)).trans (by go_simp)
  have c6_1_3 : w6.cell? ⟨w3.heap.size, 3, none⟩ = some ((.slice gb1 N cb1)) := (hc _ _ (by (try simp) <;> omega)).trans (by go_simp)
  have c6_1_4 : w6.cell? ⟨w3.heap.size, 4, none⟩ = some (.int .i64 s) := (hc _ _ (by (try simp) <;> omega)).trans (by go_simp)
  have c6_1_5 : w6.cell? ⟨w3.heap.size, 5, none⟩ = some ((.slice gd1 N cd1)) := (hc _ _ (by (try simp) <;> omega)).trans (by go_simp)
  have z6_1 : ∀ j, w6.frozen? ⟨w3.heap.size, j, none⟩ = false := fun j => (hf _ _ (by (try simp) <;> omega)).trans (by go_simp)
  clear hc hf hb6 c5_0_0 c5_0_1 z5_0 c5_1_0 c5_1_1 c5_1_2 c5_1_3 c5_1_4 c5_1_5 z5_1 c5_2_0 c5_2_1 z5_2
  go_wp2_with fail
  refine (HCA.out _ HB6.out).mono ?_
  rintro en w7 ⟨r, z, n, c, rfl, hb7⟩
  have HB7 : Kp (Below w.heap.size w w7) := ⟨Below.trans (by repeat (first | refine Below.alloc ?_ (by have := HB6.out.size; (try simp) <;> omega) _ | refine bDrewN ?_ _ | refine Below.drew ?_ | refine Below.setCell ?_ (by have := HB6.out.size; (try simp) <;> omega) _ | exact HB6.out)) (hb7.mono (by have := HB6.out.size; (try simp) <;> omega))⟩
  have hz7_0 : w.heap.size < w7.heap.size := by have := hb7.size; (try simp at this); omega
  obtain ⟨hc, hf⟩ := bcell hb7
  have c7_0_0 : w7.cell? ⟨w.heap.size, 0, none⟩ = some (.int .i64 s) := (hc _ _ (by (try simp) <;> omega)).trans (by go_simp)
  have c7_0_1 : w7.cell? ⟨w.heap.size, 1, none⟩ = some ((.slice g1 m c1)) := (hc _ _ (by (try simp) <;> omega)).trans (by go_simp)
  have z7_0 : ∀ j, w7.frozen? ⟨w.heap.size, j, none⟩ = false := fun j => (hf _ _ (by (try simp) <;> omega)).trans (by go_simp)
  clear hc hf hb7 c6_0_0 c6_0_1 z6_0 c6_1_0 c6_1_1 c6_1_2 c6_1_3 c6_1_4 c6_1_5 z6_1
  go_wp2_with fail
  refine (awake_any _).mono ?_
  rintro en wz ⟨rfl, hbz⟩
  have HBZ : Kp (Below w.heap.size w wz) := ⟨((HB7.out.alloc HB7.out.size _)).trans (hbz.mono ((HB7.out.alloc HB7.out.size _)).size)⟩
  clear hbz
  go_wp2
  go_ret
  exact ⟨rfl, HBZ.out⟩
set_option maxRecDepth 100000 in
set_option maxHeartbeats 4000000 in
theorem ow_good (s N : Nat) (g1 g2 : Option Addr) (m c1 K c2 : Nat) (h X A0 A1 A2 C U0 U1 U2 : List Bool) (w : World) (hK : ¬ (1000 : Int) < (K : Int)) (HLG : Kp (∀ W Y, W.cell? ⟨Y, 0, none⟩ = some (.int .i64 s) → W.cell? ⟨Y, 1, none⟩ = some (.slice g1 m c1) → Calls Try.prog 15 #[.slice (some ⟨Y, 0, none⟩) 1 1] W fun e w' => e = .returned (.bool true) ∧ Below W.heap.size W w')) (HVB : Kp (∀ W, Calls Try.prog 18 #[.agg #[.int .i64 s, .slice g1 m c1]] W fun e w' => e = .returned (.bool true) ∧ Below W.heap.size W w')) (HU : Kp (∀ W, Below w.heap.size w W → LB W (.slice g1 m c1) h)) (HVS : Kp (∀ W g c, LB W (.slice g m c) h → Calls Try.prog 65 #[.agg #[.int .i64 s, .slice g m c]] W fun e w' => ∃ ga ca gb cb gc cc, e = .returned (.tuple #[.agg #[.int .i64 s, .slice ga N ca, .int .i64 s, .slice gb N cb, .int .i64 s, .slice gc N cc], .bool true]) ∧ (LB w' (.slice ga N ca) A0 ∧ LB w' (.slice gb N cb) A1 ∧ LB w' (.slice gc N cc) A2) ∧ Below W.heap.size W w')) (HHU : Kp (∀ W ga ca gb cb gc cc, LB W (.slice ga N ca) A0 → LB W (.slice gb N cb) A1 → LB W (.slice gc N cc) A2 → Calls Try.prog 37 #[.agg #[.int .i64 s, .slice ga N ca], .agg #[.int .i64 s, .slice gb N cb], .agg #[.int .i64 s, .slice gc N cc]] W fun e w' => ∃ g c, e = .returned (.tuple #[.agg #[.int .i64 s, .slice g m c], .int .i64 0]) ∧ LB w' (.slice g m c) X ∧ Below W.heap.size W w')) (HPO : Kp (∀ W ga ca gb cb gc cc, LB W (.slice ga N ca) A0 → LB W (.slice gb N cb) A1 → LB W (.slice gc N cc) A2 → Calls Try.prog 39 #[.agg #[.int .i64 s, .slice ga N ca], .agg #[.int .i64 s, .slice gb N cb], .agg #[.int .i64 s, .slice gc N cc]] W fun e w' => e = .returned (.tuple #[.bool true, .int .i64 0]) ∧ Below W.heap.size W w')) (HW1 : Kp (∀ W g c, Below w.heap.size w W → LB W (.slice g m c) X → Calls Try.prog 45 #[.agg #[.int .i64 s, .slice g1 m c1], .agg #[.int .i64 s, .slice g m c]] W fun e w' => e = .returned (.bool true) ∧ Below W.heap.size W w')) (HCA : Kp (∀ W, Below w.heap.size w W → Calls Try.prog 34 #[.agg #[.int .i64 s, .slice g1 m c1], .slice g2 K c2] W fun e w' => ∃ g c, e = .returned (.tuple #[.agg #[.int .i64 s, .slice g m c], .int .i64 0]) ∧ LB w' (.slice g m c) C ∧ Below W.heap.size W w')) (HVC : Kp (∀ W g c, LB W (.slice g m c) C → Calls Try.prog 65 #[.agg #[.int .i64 s, .slice g m c]] W fun e w' => ∃ ga ca gb cb gc cc, e = .returned (.tuple #[.agg #[.int .i64 s, .slice ga N ca, .int .i64 s, .slice gb N cb, .int .i64 s, .slice gc N cc], .bool true]) ∧ (LB w' (.slice ga N ca) U0 ∧ LB w' (.slice gb N cb) U1 ∧ LB w' (.slice gc N cc) U2) ∧ Below W.heap.size W w')) (HW2 : Kp (∀ W g c, Below w.heap.size w W → LB W (.slice g m c) C → Calls Try.prog 45 #[.agg #[.int .i64 s, .slice g m c], .agg #[.int .i64 s, .slice g1 m c1]] W fun e w' => e = .returned (.bool true) ∧ Below W.heap.size W w')) (HD0 : Kp (∀ W g g' c c', LB W (.slice g N c) U0 → LB W (.slice g' N c') A0 → Calls Try.prog 64 #[.agg #[.int .i64 s, .slice g N c], .agg #[.int .i64 s, .slice g' N c']] W fun e w' => e = .returned (.bool true) ∧ Below W.heap.size W w')) (HD1 : Kp (∀ W g g' c c', LB W (.slice g N c) U1 → LB W (.slice g' N c') A1 → Calls Try.prog 64 #[.agg #[.int .i64 s, .slice g N c], .agg #[.int .i64 s, .slice g' N c']] W fun e w' => e = .returned (.bool true) ∧ Below W.heap.size W w')) (HD2 : Kp (∀ W g g' c c', LB W (.slice g N c) U2 → LB W (.slice g' N c') A2 → Calls Try.prog 64 #[.agg #[.int .i64 s, .slice g N c], .agg #[.int .i64 s, .slice g' N c']] W fun e w' => e = .returned (.bool true) ∧ Below W.heap.size W w')) :
    Calls Try.prog 11 #[.agg #[.int .i64 s, .slice g1 m c1], .slice g2 K c2] w (EndsW w) := by
  go_enter Try.func11, Try.ntmps11
  go_wp2_with fail
  refine (HLG.out _ _ (by go_simp) (by go_simp)).mono ?_
  rintro en w1 ⟨rfl, hb1⟩
  have HB1 : Kp (Below w.heap.size w w1) := ⟨Below.trans (by repeat (first | refine Below.alloc ?_ (by (try simp) <;> omega) _ | refine bDrewN ?_ _ | refine Below.drew ?_ | refine Below.setCell ?_ (by (try simp) <;> omega) _ | exact Below.refl _ _)) (hb1.mono (by (try simp) <;> omega))⟩
  have hz1_0 : w.heap.size < w1.heap.size := by have := hb1.size; (try simp at this); omega
  obtain ⟨hc, hf⟩ := bcell hb1
  have c1_0_0 : w1.cell? ⟨w.heap.size, 0, none⟩ = some (.int .i64 s) := (hc _ _ (by (try simp) <;> omega)).trans (by go_simp)
  have c1_0_1 : w1.cell? ⟨w.heap.size, 1, none⟩ = some ((.slice g1 m c1)) := (hc _ _ (by (try simp) <;> omega)).trans (by go_simp)
  have z1_0 : ∀ j, w1.frozen? ⟨w.heap.size, j, none⟩ = false := fun j => (hf _ _ (by (try simp) <;> omega)).trans (by go_simp)
  clear hc hf hb1
  go_wp2_with fail
  refine (HVB.out _).mono ?_
  rintro en w2 ⟨rfl, hb2⟩
  have HB2 : Kp (Below w.heap.size w w2) := ⟨Below.trans (by repeat (first | refine Below.alloc ?_ (by have := HB1.out.size; (try simp) <;> omega) _ | refine bDrewN ?_ _ | refine Below.drew ?_ | refine Below.setCell ?_ (by have := HB1.out.size; (try simp) <;> omega) _ | exact HB1.out)) (hb2.mono (by have := HB1.out.size; (try simp) <;> omega))⟩
  have hz2_0 : w.heap.size < w2.heap.size := by have := hb2.size; (try simp at this); omega
  obtain ⟨hc, hf⟩ := bcell hb2
  have c2_0_0 : w2.cell? ⟨w.heap.size, 0, none⟩ = some (.int .i64 s) := (hc _ _ (by (try simp) <;> omega)).trans (by go_simp)
  have c2_0_1 : w2.cell? ⟨w.heap.size, 1, none⟩ = some ((.slice g1 m c1)) := (hc _ _ (by (try simp) <;> omega)).trans (by go_simp)
  have z2_0 : ∀ j, w2.frozen? ⟨w.heap.size, j, none⟩ = false := fun j => (hf _ _ (by (try simp) <;> omega)).trans (by go_simp)
  clear hc hf hb2
  go_wp2_with fail
  refine (HVS.out _ _ _ (HU.out _ HB2.out)).mono ?_
  rintro en w3 ⟨ga1, ca1, gb1, cb1, gd1, cd1, rfl, ⟨k0, k1, k2⟩, hb3⟩
  have P0 := Kp.mk k0
  have P1 := Kp.mk k1
  have P2 := Kp.mk k2
  clear k0 k1 k2
  have HB3 : Kp (Below w.heap.size w w3) := ⟨Below.trans (by repeat (first | refine Below.alloc ?_ (by have := HB2.out.size; (try simp) <;> omega) _ | refine bDrewN ?_ _ | refine Below.drew ?_ | refine Below.setCell ?_ (by have := HB2.out.size; (try simp) <;> omega) _ | exact HB2.out)) (hb3.mono (by have := HB2.out.size; (try simp) <;> omega))⟩
  have hz3_0 : w.heap.size < w3.heap.size := by have := hb3.size; (try simp at this); omega
  obtain ⟨hc, hf⟩ := bcell hb3
  have c3_0_0 : w3.cell? ⟨w.heap.size, 0, none⟩ = some (.int .i64 s) := (hc _ _ (by (try simp) <;> omega)).trans (by go_simp)
  have c3_0_1 : w3.cell? ⟨w.heap.size, 1, none⟩ = some ((.slice g1 m c1)) := (hc _ _ (by (try simp) <;> omega)).trans (by go_simp)
  have z3_0 : ∀ j, w3.frozen? ⟨w.heap.size, j, none⟩ = false := fun j => (hf _ _ (by (try simp) <;> omega)).trans (by go_simp)
  clear hc hf hb3
  go_wp2_with fail
  refine (HHU.out _ _ _ _ _ _ _ (P0.out.below ((Below.refl _ _).alloc (Nat.le_refl _) _)) (P1.out.below ((Below.refl _ _).alloc (Nat.le_refl _) _)) (P2.out.below ((Below.refl _ _).alloc (Nat.le_refl _) _))).mono ?_
  rintro en w4 ⟨gx, cx, rfl, hx, hb4⟩
  have HX := Kp.mk hx
  have P0 := Kp.mk ((P0.out.below ((Below.refl _ _).alloc (Nat.le_refl _) _)).below hb4)
  have P1 := Kp.mk ((P1.out.below ((Below.refl _ _).alloc (Nat.le_refl _) _)).below hb4)
  have P2 := Kp.mk ((P2.out.below ((Below.refl _ _).alloc (Nat.le_refl _) _)).below hb4)
  clear hx
  have HB4 : Kp (Below w.heap.size w w4) := ⟨Below.trans (by repeat (first | refine Below.alloc ?_ (by have := HB3.out.size; (try simp) <;> omega) _ | refine bDrewN ?_ _ | refine Below.drew ?_ | refine Below.setCell ?_ (by have := HB3.out.size; (try simp) <;> omega) _ | exact HB3.out)) (hb4.mono (by have := HB3.out.size; (try simp) <;> omega))⟩
  have hz4_0 : w.heap.size < w4.heap.size := by have := hb4.size; (try simp at this); omega
  have hz4_1 : w3.heap.size < w4.heap.size := by have := hb4.size; (try simp at this); omega
  obtain ⟨hc, hf⟩ := bcell hb4
  have c4_0_0 : w4.cell? ⟨w.heap.size, 0, none⟩ = some (.int .i64 s) := (hc _ _ (by (try simp) <;> omega)).trans (by go_simp)
  have c4_0_1 : w4.cell? ⟨w.heap.size, 1, none⟩ = some ((.slice g1 m c1)) := (hc _ _ (by (try simp) <;> omega)).trans (by go_simp)
  have z4_0 : ∀ j, w4.frozen? ⟨w.heap.size, j, none⟩ = false := fun j => (hf _ _ (by (try simp) <;> omega)).trans (by go_simp)
  have c4_1_0 : w4.cell? ⟨w3.heap.size, 0, none⟩ = some (.int .i64 s) := (hc _ _ (by (try simp) <;> omega)).trans (by go_simp)
  have c4_1_1 : w4.cell? ⟨w3.heap.size, 1, none⟩ = some ((.slice ga1 N ca1)) := (hc _ _ (by (try simp) <;> omega)).trans (by go_simp)
  have c4_1_2 : w4.cell? ⟨w3.heap.size, 2, none⟩ = some (.int .i64 s) := (hc _ _ (by (try simp) <;> omega)).trans (by go_simp)
  have c4_1_3 : w4.cell? ⟨w3.heap.size, 3, none⟩ = some ((.slice gb1 N cb1)) := (hc _ _ (by (try simp) <;> omega)).trans (by go_simp)
  have c4_1_4 : w4.cell? ⟨w3.heap.size, 4, none⟩ = some (.int .i64 s) := (hc _ _ (by (try simp) <;> omega)).trans (by go_simp)
  have c4_1_5 : w4.cell? ⟨w3.heap.size, 5, none⟩ = some ((.slice gd1 N cd1)) := (hc _ _ (by (try simp) <;> omega)).trans (by go_simp)
  have z4_1 : ∀ j, w4.frozen? ⟨w3.heap.size, j, none⟩ = false := fun j => (hf _ _ (by (try simp) <;> omega)).trans (by go_simp)
  clear hc hf hb4
  go_wp2_with fail
  refine (HPO.out _ _ _ _ _ _ _ (P0.out.below ((Below.refl _ _).alloc (Nat.le_refl _) _)) (P1.out.below ((Below.refl _ _).alloc (Nat.le_refl _) _)) (P2.out.below ((Below.refl _ _).alloc (Nat.le_refl _) _))).mono ?_
  rintro en w5 ⟨rfl, hb5⟩
  have HX := Kp.mk ((HX.out.below ((Below.refl _ _).alloc (Nat.le_refl _) _)).below hb5)
  have P0 := Kp.mk ((P0.out.below ((Below.refl _ _).alloc (Nat.le_refl _) _)).below hb5)
  have P1 := Kp.mk ((P1.out.below ((Below.refl _ _).alloc (Nat.le_refl _) _)).below hb5)
  have P2 := Kp.mk ((P2.out.below ((Below.refl _ _).alloc (Nat.le_refl _) _)).below hb5)
  have HB5 : Kp (Below w.heap.size w w5) := ⟨Below.trans (by repeat (first | refine Below.alloc ?_ (by have := HB4.out.size; (try simp) <;> omega) _ | refine bDrewN ?_ _ | refine Below.drew ?_ | refine Below.setCell ?_ (by have := HB4.out.size; (try simp) <;> omega) _ | exact HB4.out)) (hb5.mono (by have := HB4.out.size; (try simp) <;> omega))⟩
  have hz5_0 : w.heap.size < w5.heap.size := by have := hb5.size; (try simp at this); omega
  have hz5_1 : w3.heap.size < w5.heap.size := by have := hb5.size; (try simp at this); omega
  have hz5_2 : w4.heap.size < w5.heap.size := by have := hb5.size; (try simp at this); omega
  obtain ⟨hc, hf⟩ := bcell hb5
  have c5_0_0 : w5.cell? ⟨w.heap.size, 0, none⟩ = some (.int .i64 s) := (hc _ _ (by (try simp) <;> omega)).trans (by go_simp)
  have c5_0_1 : w5.cell? ⟨w.heap.size, 1, none⟩ = some ((.slice g1 m c1)) := (hc _ _ (by (try simp) <;> omega)).trans (by go_simp)
  have z5_0 : ∀ j, w5.frozen? ⟨w.heap.size, j, none⟩ = false := fun j => (hf _ _ (by (try simp) <;> omega)).trans (by go_simp)
  have c5_1_0 : w5.cell? ⟨w3.heap.size, 0, none⟩ = some (.int .i64 s) := (hc _ _ (by (try simp) <;> omega)).trans (by go_simp)
  have c5_1_1 : w5.cell? ⟨w3.heap.size, 1, none⟩ = some ((.slice ga1 N ca1)) := (hc _ _ (by (try simp) <;> omega)).trans (by go_simp)
  have c5_1_2 : w5.cell? ⟨w3.heap.size, 2, none⟩ = some (.int .i64 s) := (hc _ _ (by (try simp) <;> omega)).trans (by go_simp)
  have c5_1_3 : w5.cell? ⟨w3.heap.size, 3, none⟩ = some ((.slice gb1 N cb1)) := (hc _ _ (by (try simp) <;> omega)).trans (by go_simp)
  have c5_1_4 : w5.cell? ⟨w3.heap.size, 4, none⟩ = some (.int .i64 s) := (hc _ _ (by (try simp) <;> omega)).trans (by go_simp)
  have c5_1_5 : w5.cell? ⟨w3.heap.size, 5, none⟩ = some ((.slice gd1 N cd1)) := (hc _ _ (by (try simp) <;> omega)).trans (by go_simp)
  have z5_1 : ∀ j, w5.frozen? ⟨w3.heap.size, j, none⟩ = false := fun j => (hf _ _ (by (try simp) <;> omega)).trans (by go_simp)
  have c5_2_0 : w5.cell? ⟨w4.heap.size, 0, none⟩ = some (.int .i64 s) := (hc _ _ (by (try simp) <;> omega)).trans (by go_simp)
  have c5_2_1 : w5.cell? ⟨w4.heap.size, 1, none⟩ = some ((.slice gx m cx)) := (hc _ _ (by (try simp) <;> omega)).trans (by go_simp)
  have z5_2 : ∀ j, w5.frozen? ⟨w4.heap.size, j, none⟩ = false := fun j => (hf _ _ (by (try simp) <;> omega)).trans (by go_simp)
  clear hc hf hb5
  go_wp2_with fail
  refine (HW1.out _ _ _ HB5.out HX.out).mono ?_
  rintro en w6 ⟨rfl, hb6⟩
  have P0 := Kp.mk (P0.out.below hb6)
  have P1 := Kp.mk (P1.out.below hb6)
  have P2 := Kp.mk (P2.out.below hb6)
  have HB6 : Kp (Below w.heap.size w w6) := ⟨Below.trans (by repeat (first | refine Below.alloc ?_ (by have := HB5.out.size; (try simp) <;> omega) _ | refine bDrewN ?_ _ | refine Below.drew ?_ | refine Below.setCell ?_ (by have := HB5.out.size; (try simp) <;> omega) _ | exact HB5.out)) (hb6.mono (by have := HB5.out.size; (try simp) <;> omega))⟩
  have hz6_0 : w.heap.size < w6.heap.size := by have := hb6.size; (try simp at this); omega
  have hz6_1 : w3.heap.size < w6.heap.size := by have := hb6.size; (try simp at this); omega
  obtain ⟨hc, hf⟩ := bcell hb6
  have c6_0_0 : w6.cell? ⟨w.heap.size, 0, none⟩ = some (.int .i64 s) := (hc _ _ (by (try simp) <;> omega)).trans (by go_simp)
  have c6_0_1 : w6.cell? ⟨w.heap.size, 1, none⟩ = some ((.slice g1 m c1)) := (hc _ _ (by (try simp) <;> omega)).trans (by go_simp)
  have z6_0 : ∀ j, w6.frozen? ⟨w.heap.size, j, none⟩ = false := fun j => (hf _ _ (by (try simp) <;> omega)).trans (by go_simp)
  have c6_1_0 : w6.cell? ⟨w3.heap.size, 0, none⟩ = some (.int .i64 s) := (hc _ _ (by (try simp) <;> omega)).trans (by go_simp)
  have c6_1_1 : w6.cell? ⟨w3.heap.size, 1, none⟩ = some ((.slice ga1 N ca1)) := (hc _ _ (by (try simp) <;> omega)).trans (by go_simp)
  have c6_1_2 : w6.cell? ⟨w3.heap.size, 2, none⟩ = some (.int .i64 s) := (hc _ _ (by (try simp) <;> omega)).trans (by go_simp)
  have c6_1_3 : w6.cell? ⟨w3.heap.size, 3, none⟩ = some ((.slice gb1 N cb1)) := (hc _ _ (by (try simp) <;> omega)).trans (by go_simp)
  have c6_1_4 : w6.cell? ⟨w3.heap.size, 4, none⟩ = some (.int .i64 s) := (hc _ _ (by (try simp) <;> omega)).trans (by go_simp)
  have c6_1_5 : w6.cell? ⟨w3.heap.size, 5, none⟩ = some ((.slice gd1 N cd1)) := (hc _ _ (by (try simp) <;> omega)).trans (by go_simp)
  have z6_1 : ∀ j, w6.frozen? ⟨w3.heap.size, j, none⟩ = false := fun j => (hf _ _ (by (try simp) <;> omega)).trans (by go_simp)
  clear hc hf hb6
  go_wp2_with fail
  refine (HCA.out _ HB6.out).mono ?_
  rintro en w7 ⟨gc, cc, rfl, hc', hb7⟩
  have HC := Kp.mk hc'
  have P0 := Kp.mk (P0.out.below hb7)
  have P1 := Kp.mk (P1.out.below hb7)
  have P2 := Kp.mk (P2.out.below hb7)
  clear hc'
  have HB7 : Kp (Below w.heap.size w w7) := ⟨Below.trans (by repeat (first | refine Below.alloc ?_ (by have := HB6.out.size; (try simp) <;> omega) _ | refine bDrewN ?_ _ | refine Below.drew ?_ | refine Below.setCell ?_ (by have := HB6.out.size; (try simp) <;> omega) _ | exact HB6.out)) (hb7.mono (by have := HB6.out.size; (try simp) <;> omega))⟩
  have hz7_0 : w.heap.size < w7.heap.size := by have := hb7.size; (try simp at this); omega
  have hz7_1 : w3.heap.size < w7.heap.size := by have := hb7.size; (try simp at this); omega
  obtain ⟨hc, hf⟩ := bcell hb7
  have c7_0_0 : w7.cell? ⟨w.heap.size, 0, none⟩ = some (.int .i64 s) := (hc _ _ (by (try simp) <;> omega)).trans (by go_simp)
  have c7_0_1 : w7.cell? ⟨w.heap.size, 1, none⟩ = some ((.slice g1 m c1)) := (hc _ _ (by (try simp) <;> omega)).trans (by go_simp)
  have z7_0 : ∀ j, w7.frozen? ⟨w.heap.size, j, none⟩ = false := fun j => (hf _ _ (by (try simp) <;> omega)).trans (by go_simp)
  have c7_1_0 : w7.cell? ⟨w3.heap.size, 0, none⟩ = some (.int .i64 s) := (hc _ _ (by (try simp) <;> omega)).trans (by go_simp)
  have c7_1_1 : w7.cell? ⟨w3.heap.size, 1, none⟩ = some ((.slice ga1 N ca1)) := (hc _ _ (by (try simp) <;> omega)).trans (by go_simp)
  have c7_1_2 : w7.cell? ⟨w3.heap.size, 2, none⟩ = some (.int .i64 s) := (hc _ _ (by (try simp) <;> omega)).trans (by go_simp)
  have c7_1_3 : w7.cell? ⟨w3.heap.size, 3, none⟩ = some ((.slice gb1 N cb1)) := (hc _ _ (by (try simp) <;> omega)).trans (by go_simp)
  have c7_1_4 : w7.cell? ⟨w3.heap.size, 4, none⟩ = some (.int .i64 s) := (hc _ _ (by (try simp) <;> omega)).trans (by go_simp)
  have c7_1_5 : w7.cell? ⟨w3.heap.size, 5, none⟩ = some ((.slice gd1 N cd1)) := (hc _ _ (by (try simp) <;> omega)).trans (by go_simp)
  have z7_1 : ∀ j, w7.frozen? ⟨w3.heap.size, j, none⟩ = false := fun j => (hf _ _ (by (try simp) <;> omega)).trans (by go_simp)
  clear hc hf hb7
  go_wp2_with fail
  refine (HVC.out _ _ _ (HC.out.below ((Below.refl _ _).alloc (Nat.le_refl _) _))).mono ?_
  rintro en w8 ⟨ga2, ca2, gb2, cb2, gd2, cd2, rfl, ⟨k0, k1, k2⟩, hb8⟩
  have Q0 := Kp.mk k0
  have Q1 := Kp.mk k1
  have Q2 := Kp.mk k2
  have HC := Kp.mk ((HC.out.below ((Below.refl _ _).alloc (Nat.le_refl _) _)).below hb8)
  have P0 := Kp.mk ((P0.out.below ((Below.refl _ _).alloc (Nat.le_refl _) _)).below hb8)
  have P1 := Kp.mk ((P1.out.below ((Below.refl _ _).alloc (Nat.le_refl _) _)).below hb8)
  have P2 := Kp.mk ((P2.out.below ((Below.refl _ _).alloc (Nat.le_refl _) _)).below hb8)
  clear k0 k1 k2
  have HB8 : Kp (Below w.heap.size w w8) := ⟨Below.trans (by repeat (first | refine Below.alloc ?_ (by have := HB7.out.size; (try simp) <;> omega) _ | refine bDrewN ?_ _ | refine Below.drew ?_ | refine Below.setCell ?_ (by have := HB7.out.size; (try simp) <;> omega) _ | exact HB7.out)) (hb8.mono (by have := HB7.out.size; (try simp) <;> omega))⟩
  have hz8_0 : w.heap.size < w8.heap.size := by have := hb8.size; (try simp at this); omega
  have hz8_1 : w3.heap.size < w8.heap.size := by have := hb8.size; (try simp at this); omega
  have hz8_2 : w7.heap.size < w8.heap.size := by have := hb8.size; (try simp at this); omega
  obtain ⟨hc, hf⟩ := bcell hb8
  have c8_0_0 : w8.cell? ⟨w.heap.size, 0, none⟩ = some (.int .i64 s) := (hc _ _ (by (try simp) <;> omega)).trans (by go_simp)
  have c8_0_1 : w8.cell? ⟨w.heap.size, 1, none⟩ = some ((.slice g1 m c1)) := (hc _ _ (by (try simp) <;> omega)).trans (by go_simp)
  have z8_0 : ∀ j, w8.frozen? ⟨w.heap.size, j, none⟩ = false := fun j => (hf _ _ (by (try simp) <;> omega)).trans (by go_simp)
  have c8_1_0 : w8.cell? ⟨w3.heap.size, 0, none⟩ = some (.int .i64 s) := (hc _ _ (by (try simp) <;> omega)).trans (by go_simp)
  have c8_1_1 : w8.cell? ⟨w3.heap.size, 1, none⟩ = some ((.slice ga1 N ca1)) := (hc _ _ (by (try simp) <;> omega)).trans (by go_simp)
  have c8_1_2 : w8.cell? ⟨w3.heap.size, 2, none⟩ = some (.int .i64 s) := (hc _ _ (by (try simp) <;> omega)).trans (by go_simp)
  have c8_1_3 : w8.cell? ⟨w3.heap.size, 3, none⟩ = some ((.slice gb1 N cb1)) := (hc _ _ (by (try simp) <;> omega)).trans (by go_simp)
  have c8_1_4 : w8.cell? ⟨w3.heap.size, 4, none⟩ = some (.int .i64 s) := (hc _ _ (by (try simp) <;> omega)).trans (by go_simp)
  have c8_1_5 : w8.cell? ⟨w3.heap.size, 5, none⟩ = some ((.slice gd1 N cd1)) := (hc _ _ (by (try simp) <;> omega)).trans (by go_simp)
  have z8_1 : ∀ j, w8.frozen? ⟨w3.heap.size, j, none⟩ = false := fun j => (hf _ _ (by (try simp) <;> omega)).trans (by go_simp)
  have c8_2_0 : w8.cell? ⟨w7.heap.size, 0, none⟩ = some (.int .i64 s) := (hc _ _ (by (try simp) <;> omega)).trans (by go_simp)
  have c8_2_1 : w8.cell? ⟨w7.heap.size, 1, none⟩ = some ((.slice gc m cc)) := (hc _ _ (by (try simp) <;> omega)).trans (by go_simp)
  have z8_2 : ∀ j, w8.frozen? ⟨w7.heap.size, j, none⟩ = false := fun j => (hf _ _ (by (try simp) <;> omega)).trans (by go_simp)
  clear hc hf hb8
  go_wp2_with fail
  refine (HW2.out _ _ _ (HB8.out.alloc HB8.out.size _) (HC.out.below ((Below.refl _ _).alloc (Nat.le_refl _) _))).mono ?_
  rintro en w9 ⟨rfl, hb9⟩
  have Q0 := Kp.mk ((Q0.out.below ((Below.refl _ _).alloc (Nat.le_refl _) _)).below hb9)
  have Q1 := Kp.mk ((Q1.out.below ((Below.refl _ _).alloc (Nat.le_refl _) _)).below hb9)
  have Q2 := Kp.mk ((Q2.out.below ((Below.refl _ _).alloc (Nat.le_refl _) _)).below hb9)
  have P0 := Kp.mk ((P0.out.below ((Below.refl _ _).alloc (Nat.le_refl _) _)).below hb9)
  have P1 := Kp.mk ((P1.out.below ((Below.refl _ _).alloc (Nat.le_refl _) _)).below hb9)
  have P2 := Kp.mk ((P2.out.below ((Below.refl _ _).alloc (Nat.le_refl _) _)).below hb9)
  have HB9 : Kp (Below w.heap.size w w9) := ⟨Below.trans (by repeat (first | refine Below.alloc ?_ (by have := HB8.out.size; (try simp) <;> omega) _ | refine bDrewN ?_ _ | refine Below.drew ?_ | refine Below.setCell ?_ (by have := HB8.out.size; (try simp) <;> omega) _ | exact HB8.out)) (hb9.mono (by have := HB8.out.size; (try simp) <;> omega))⟩
  have hz9_0 : w3.heap.size < w9.heap.size := by have := hb9.size; (try simp at this); omega
  have hz9_1 : w8.heap.size < w9.heap.size := by have := hb9.size; (try simp at this); omega
  obtain ⟨hc, hf⟩ := bcell hb9
  have c9_0_0 : w9.cell? ⟨w3.heap.size, 0, none⟩ = some (.int .i64 s) := (hc _ _ (by (try simp) <;> omega)).trans (by go_simp)
  have c9_0_1 : w9.cell? ⟨w3.heap.size, 1, none⟩ = some ((.slice ga1 N ca1)) := (hc _ _ (by (try simp) <;> omega)).trans (by go_simp)
  have c9_0_2 : w9.cell? ⟨w3.heap.size, 2, none⟩ = some (.int .i64 s) := (hc _ _ (by (try simp) <;> omega)).trans (by go_simp)
  have c9_0_3 : w9.cell? ⟨w3.heap.size, 3, none⟩ = some ((.slice gb1 N cb1)) := (hc _ _ (by (try simp) <;> omega)).trans (by go_simp)
  have c9_0_4 : w9.cell? ⟨w3.heap.size, 4, none⟩ = some (.int .i64 s) := (hc _ _ (by (try simp) <;> omega)).trans (by go_simp)
  have c9_0_5 : w9.cell? ⟨w3.heap.size, 5, none⟩ = some ((.slice gd1 N cd1)) := (hc _ _ (by (try simp) <;> omega)).trans (by go_simp)
  have z9_0 : ∀ j, w9.frozen? ⟨w3.heap.size, j, none⟩ = false := fun j => (hf _ _ (by (try simp) <;> omega)).trans (by go_simp)
  have c9_1_0 : w9.cell? ⟨w8.heap.size, 0, none⟩ = some (.int .i64 s) := (hc _ _ (by (try simp) <;> omega)).trans (by go_simp)
  have c9_1_1 : w9.cell? ⟨w8.heap.size, 1, none⟩ = some ((.slice ga2 N ca2)) := (hc _ _ (by (try simp) <;> omega)).trans (by go_simp)
  have c9_1_2 : w9.cell? ⟨w8.heap.size, 2, none⟩ = some (.int .i64 s) := (hc _ _ (by (try simp) <;> omega)).trans (by go_simp)
  have c9_1_3 : w9.cell? ⟨w8.heap.size, 3, none⟩ = some ((.slice gb2 N cb2)) := (hc _ _ (by (try simp) <;> omega)).trans (by go_simp)
  have c9_1_4 : w9.cell? ⟨w8.heap.size, 4, none⟩ = some (.int .i64 s) := (hc _ _ (by (try simp) <;> omega)).trans (by go_simp)
  have c9_1_5 : w9.cell? ⟨w8.heap.size, 5, none⟩ = some ((.slice gd2 N cd2)) := (hc _ _ (by (try simp) <;> omega)).trans (by go_simp)
  have z9_1 : ∀ j, w9.frozen? ⟨w8.heap.size, j, none⟩ = false := fun j => (hf _ _ (by (try simp) <;> omega)).trans (by go_simp)
  clear hc hf hb9
  go_wp2_with fail
  refine (HD0.out _ _ _ _ _ Q0.out P0.out).mono ?_
  rintro en w10 ⟨rfl, hb10⟩
  have Q1 := Kp.mk (Q1.out.below hb10)
  have Q2 := Kp.mk (Q2.out.below hb10)
  have P1 := Kp.mk (P1.out.below hb10)
  have P2 := Kp.mk (P2.out.below hb10)
  have HB10 : Kp (Below w.heap.size w w10) := ⟨Below.trans (by repeat (first | refine Below.alloc ?_ (by have := HB9.out.size; (try simp) <;> omega) _ | refine bDrewN ?_ _ | refine Below.drew ?_ | refine Below.setCell ?_ (by have := HB9.out.size; (try simp) <;> omega) _ | exact HB9.out)) (hb10.mono (by have := HB9.out.size; (try simp) <;> omega))⟩
  have hz10_0 : w3.heap.size < w10.heap.size := by have := hb10.size; (try simp at this); omega
  have hz10_1 : w8.heap.size < w10.heap.size := by have := hb10.size; (try simp at this); omega
  obtain ⟨hc, hf⟩ := bcell hb10
  have c10_0_0 : w10.cell? ⟨w3.heap.size, 0, none⟩ = some (.int .i64 s) := (hc _ _ (by (try simp) <;> omega)).trans (by go_simp)
  have c10_0_1 : w10.cell? ⟨w3.heap.size, 1, none⟩ = some ((.slice ga1 N ca1)) := (hc _ _ (by (try simp) <;> omega)).trans (by go_simp)
  have c10_0_2 : w10.cell? ⟨w3.heap.size, 2, none⟩ = some (.int .i64 s) := (hc _ _ (by (try simp) <;> omega)).trans (by go_simp)
  have c10_0_3 : w10.cell? ⟨w3.heap.size, 3, none⟩ = some ((.slice gb1 N cb1)) := (hc _ _ (by (try simp) <;> omega)).trans (by go_simp)
  have c10_0_4 : w10.cell? ⟨w3.heap.size, 4, none⟩ = some (.int .i64 s) := (hc _ _ (by (try simp) <;> omega)).trans (by go_simp)
  have c10_0_5 : w10.cell? ⟨w3.heap.size, 5, none⟩ = some ((.slice gd1 N cd1)) := (hc _ _ (by (try simp) <;> omega)).trans (by go_simp)
  have z10_0 : ∀ j, w10.frozen? ⟨w3.heap.size, j, none⟩ = false := fun j => (hf _ _ (by (try simp) <;> omega)).trans (by go_simp)
  have c10_1_0 : w10.cell? ⟨w8.heap.size, 0, none⟩ = some (.int .i64 s) := (hc _ _ (by (try simp) <;> omega)).trans (by go_simp)
  have c10_1_1 : w10.cell? ⟨w8.heap.size, 1, none⟩ = some ((.slice ga2 N ca2)) := (hc _ _ (by (try simp) <;> omega)).trans (by go_simp)
  have c10_1_2 : w10.cell? ⟨w8.heap.size, 2, none⟩ = some (.int .i64 s) := (hc _ _ (by (try simp) <;> omega)).trans (by go_simp)
  have c10_1_3 : w10.cell? ⟨w8.heap.size, 3, none⟩ = some ((.slice gb2 N cb2)) := (hc _ _ (by (try simp) <;> omega)).trans (by go_simp)
  have c10_1_4 : w10.cell? ⟨w8.heap.size, 4, none⟩ = some (.int .i64 s) := (hc _ _ (by (try simp) <;> omega)).trans (by go_simp)
  have c10_1_5 : w10.cell? ⟨w8.heap.size, 5, none⟩ = some ((.slice gd2 N cd2)) := (hc _ _ (by (try simp) <;> omega)).trans (by go_simp)
  have z10_1 : ∀ j, w10.frozen? ⟨w8.heap.size, j, none⟩ = false := fun j => (hf _ _ (by (try simp) <;> omega)).trans (by go_simp)
  clear hc hf hb10
  go_wp2_with fail
  refine (HD1.out _ _ _ _ _ Q1.out P1.out).mono ?_
  rintro en w11 ⟨rfl, hb11⟩
  have Q2 := Kp.mk (Q2.out.below hb11)
  have P2 := Kp.mk (P2.out.below hb11)
  have HB11 : Kp (Below w.heap.size w w11) := ⟨Below.trans (by repeat (first | refine Below.alloc ?_ (by have := HB10.out.size; (try simp) <;> omega) _ | refine bDrewN ?_ _ | refine Below.drew ?_ | refine Below.setCell ?_ (by have := HB10.out.size; (try simp) <;> omega) _ | exact HB10.out)) (hb11.mono (by have := HB10.out.size; (try simp) <;> omega))⟩
  have hz11_0 : w3.heap.size < w11.heap.size := by have := hb11.size; (try simp at this); omega
  have hz11_1 : w8.heap.size < w11.heap.size := by have := hb11.size; (try simp at this); omega
  obtain ⟨hc, hf⟩ := bcell hb11
  have c11_0_0 : w11.cell? ⟨w3.heap.size, 0, none⟩ = some (.int .i64 s) := (hc _ _ (by (try simp) <;> omega)).trans (by go_simp)
  have c11_0_1 : w11.cell? ⟨w3.heap.size, 1, none⟩ = some ((.slice ga1 N ca1)) := (hc _ _ (by (try simp) <;> omega)).trans (by go_simp)
  have c11_0_2 : w11.cell? ⟨w3.heap.size, 2, none⟩ = some (.int .i64 s) := (hc _ _ (by (try simp) <;> omega)).trans (by go_simp)
  have c11_0_3 : w11.cell? ⟨w3.heap.size, 3, none⟩ = some ((.slice gb1 N cb1)) := (hc _ _ (by (try simp) <;> omega)).trans (by go_simp)
  have c11_0_4 : w11.cell? ⟨w3.heap.size, 4, none⟩ = some (.int .i64 s) := (hc _ _ (by (try simp) <;> omega)).trans (by go_simp)
  have c11_0_5 : w11.cell? ⟨w3.heap.size, 5, none⟩ = some ((.slice gd1 N cd1)) := (hc _ _ (by (try simp) <;> omega)).trans (by go_simp)
  have z11_0 : ∀ j, w11.frozen? ⟨w3.heap.size, j, none⟩ = false := fun j => (hf _ _ (by (try simp) <;> omega)).trans (by go_simp)
  have c11_1_0 : w11.cell? ⟨w8.heap.size, 0, none⟩ = some (.int .i64 s) := (hc _ _ (by (try simp) <;> omega)).trans (by go_simp)
  have c11_1_1 : w11.cell? ⟨w8.heap.size, 1, none⟩ = some ((.slice ga2 N ca2)) := (hc _ _ (by (try simp) <;> omega)).trans (by go_simp)
  have c11_1_2 : w11.cell? ⟨w8.heap.size, 2, none⟩ = some (.int .i64 s) := (hc _ _ (by (try simp) <;> omega)).trans (by go_simp)
  have c11_1_3 : w11.cell? ⟨w8.heap.size, 3, none⟩ = some ((.slice gb2 N cb2)) := (hc _ _ (by (try simp) <;> omega)).trans (by go_simp)
  have c11_1_4 : w11.cell? ⟨w8.heap.size, 4, none⟩ = some (.int .i64 s) := (hc _ _ (by (try simp) <;> omega)).trans (by go_simp)
  have c11_1_5 : w11.cell? ⟨w8.heap.size, 5, none⟩ = some ((.slice gd2 N cd2)) := (hc _ _ (by (try simp) <;> omega)).trans (by go_simp)
  have z11_1 : ∀ j, w11.frozen? ⟨w8.heap.size, j, none⟩ = false := fun j => (hf _ _ (by (try simp) <;> omega)).trans (by go_simp)
  clear hc hf hb11
  go_wp2_with fail
  refine (HD2.out _ _ _ _ _ Q2.out P2.out).mono ?_
  rintro en w12 ⟨rfl, hb12⟩
  have HB12 : Kp (Below w.heap.size w w12) := ⟨HB11.out.trans (hb12.mono HB11.out.size)⟩
  clear hb12
  go_wp2_with fail
  refine (awake_any _).mono ?_
  rintro en wz ⟨rfl, hbz⟩
  have HBZ : Kp (Below w.heap.size w wz) := ⟨(HB12.out).trans (hbz.mono (HB12.out).size)⟩
  clear hbz
  go_wp2
  go_ret
  exact ⟨rfl, HBZ.out⟩
set_option maxHeartbeats 1000000 in
theorem lawOwn_any (s : Int) (u v : Value) (h : List Bool) (l : List Gr) (w : World) (hu : LB w u h) (hv : GS w v l) :
    Calls Try.prog 11 #[.agg #[.int .i64 s, u], v] w (EndsW w) := by
  obtain ⟨g1, c1, rfl⟩ := hu.shape
  obtain ⟨g2, c2, rfl⟩ := hv.shape
  by_cases hL : h.length ≤ 2000
  · have HLG : Kp (∀ W Y, W.cell? ⟨Y, 0, none⟩ = some (.int .i64 s) → W.cell? ⟨Y, 1, none⟩ = some (.slice g1 h.length c1) → Calls Try.prog 15 #[.slice (some ⟨Y, 0, none⟩) 1 1] W fun e w' => e = .returned (.bool true) ∧ Below W.heap.size W w') := ⟨fun W Y h0 h1 => by
      have hh := light_any s g1 h.length c1 Y W h0 h1
      rwa [decide_eq_true hL] at hh⟩
    by_cases hK : l.length ≤ 1000
    · have HVB : Kp (∀ W, Calls Try.prog 18 #[.agg #[.int .i64 s, .slice g1 h.length c1]] W fun e w' => e = .returned (.bool (blockB s h.length)) ∧ Below W.heap.size W w') := ⟨fun W => rValidBlock_any s g1 h.length c1 W⟩
      cases hb : blockB s h.length with
      | false =>
        rw [hb] at HVB
        exact ow_inv s g1 g2 h.length c1 l.length c2 w (by omega) HLG HVB
      | true =>
        rw [hb] at HVB
        have hb2 := hb
        unfold blockB at hb2
        rw [Bool.and_eq_true, decide_eq_true_eq] at hb2
        have hs := side_iff.1 hb2.1
        obtain ⟨x, rfl⟩ : ∃ x : Nat, s = x := ⟨s.toNat, by omega⟩
        have hl : h.length = x * x * x := by have := hb2.2; rw [← Int.natCast_mul, ← Int.natCast_mul] at this; exact Int.ofNat.inj this
        have h1 : 1 ≤ x := by omega
        have h2 : x ≤ 10 := by omega
        have hc := cube_bd h2
        have hok : ∀ {A B D : List Bool}, A.length = x * x → B.length = x * x → D.length = x * x → hullOk x x x A B D = true := fun hA hB hD => by
          have hv : viewB x (x * x) = true := by
            unfold viewB
            rw [side_iff.2 (by omega), decide_eq_true (by rw [Int.natCast_mul])]; rfl
          unfold hullOk
          rw [hA, hB, hD, hv, decide_eq_true rfl]
          rfl
        have hlenH : ∀ {A B D : List Bool}, (hullB x A B D).length = x * x * x := fun {A B D} => by
          unfold hullB
          rw [List.length_map, places_len]
        have al : ∀ {A B : List Bool}, A.length = x * x * x → B.length = x * x * x → withinB x x A B = (grainsL x A).all (hasB x B) := fun {A B} hA hB => by
          unfold withinB alikeB
          rw [hA, hB, ← hl, hb, decide_eq_true rfl]
          rfl
        have HVS : ∀ L : List Bool, L.length = x * x * x → Kp (∀ W g c, LB W (.slice g h.length c) L → Calls Try.prog 65 #[.agg #[.int .i64 x, .slice g h.length c]] W fun e w' => ∃ ga ca gb cb gc cc, e = .returned (.tuple #[.agg #[.int .i64 x, .slice ga (x * x) ca, .int .i64 x, .slice gb (x * x) cb, .int .i64 x, .slice gc (x * x) cc], .bool true]) ∧ (LB w' (.slice ga (x * x) ca) (viewL x 0 L) ∧ LB w' (.slice gb (x * x) cb) (viewL x 1 L) ∧ LB w' (.slice gc (x * x) cc) (viewL x 2 L)) ∧ Below W.heap.size W w') := fun L hL' => ⟨fun W g c hg => views_any x h.length (x * x) g c L W h1 h2 hL' rfl hg⟩
        have HHU : Kp (∀ W ga ca gb cb gc cc, LB W (.slice ga (x * x) ca) (viewL x 0 h) → LB W (.slice gb (x * x) cb) (viewL x 1 h) → LB W (.slice gc (x * x) cc) (viewL x 2 h) → Calls Try.prog 37 #[.agg #[.int .i64 x, .slice ga (x * x) ca], .agg #[.int .i64 x, .slice gb (x * x) cb], .agg #[.int .i64 x, .slice gc (x * x) cc]] W fun e w' => ∃ g c, e = .returned (.tuple #[.agg #[.int .i64 x, .slice g h.length c], .int .i64 0]) ∧ LB w' (.slice g h.length c) (hullB x (viewL x 0 h) (viewL x 1 h) (viewL x 2 h)) ∧ Below W.heap.size W w') := ⟨fun W ga ca gb cb gc cc k0 k1 k2 => by
          refine (Hull_in x _ _ _ _ _ _ W h1 h2 k0 k1 k2 (viewL_len _ _ _) (viewL_len _ _ _) (viewL_len _ _ _)).mono ?_
          rintro e w' ⟨r, rfl, ⟨z, rfl, hz⟩, hbb⟩
          obtain ⟨g, c', rfl⟩ := hz.shape
          rw [hlenH, ← hl] at hz ⊢
          exact ⟨g, c', rfl, hz, hbb⟩⟩
        have HPO : Kp (∀ W ga ca gb cb gc cc, LB W (.slice ga (x * x) ca) (viewL x 0 h) → LB W (.slice gb (x * x) cb) (viewL x 1 h) → LB W (.slice gc (x * x) cc) (viewL x 2 h) → Calls Try.prog 39 #[.agg #[.int .i64 x, .slice ga (x * x) ca], .agg #[.int .i64 x, .slice gb (x * x) cb], .agg #[.int .i64 x, .slice gc (x * x) cc]] W fun e w' => e = .returned (.tuple #[.bool true, .int .i64 0]) ∧ Below W.heap.size W w') := ⟨fun W ga ca gb cb gc cc k0 k1 k2 => by
          have hh := Possible_any x x x _ _ _ _ _ _ W k0 k1 k2
          have hokk := hok (viewL_len x 0 h) (viewL_len x 1 h) (viewL_len x 2 h)
          have e1 : pssB x x x (viewL x 0 h) (viewL x 1 h) (viewL x 2 h) = true := by
            unfold pssB wnR
            rw [hokk, if_pos rfl, Int.toNat_natCast, own_right]
            rfl
          have e2 : hullE x x x (viewL x 0 h) (viewL x 1 h) (viewL x 2 h) = 0 := by unfold hullE; rw [hokk]; rfl
          rwa [e1, e2] at hh⟩
        have HW1 : Kp (∀ W g c, Below w.heap.size w W → LB W (.slice g h.length c) (hullB x (viewL x 0 h) (viewL x 1 h) (viewL x 2 h)) → Calls Try.prog 45 #[.agg #[.int .i64 x, .slice g1 h.length c1], .agg #[.int .i64 x, .slice g h.length c]] W fun e w' => e = .returned (.bool true) ∧ Below W.heap.size W w') := ⟨fun W g c hW hg => by
          have hh := Within_any x x _ _ h _ W (hu.below hW) hg
          rwa [al hl hlenH, own_within] at hh⟩
        have HUU : Kp (∀ W, Below w.heap.size w W → LB W (.slice g1 h.length c1) h) := ⟨fun W hW => hu.below hW⟩
        cases hin : allB x l with
        | false =>
          have e7 : carE x h l = 7 := by unfold carE; rw [hb, hin]; rfl
          refine ow_bad x (x * x) g1 g2 h.length c1 l.length c2 h _ _ _ _ w (by omega) HLG HVB HUU (HVS h hl) HHU HPO HW1 ⟨fun W hW => (Carved_any x _ _ h l W (hu.below hW) (hv.below hW) (by omega)).mono fun e w' ⟨r, he, ⟨z, hz, hr⟩, hbb⟩ => ?_⟩
          subst he hz
          obtain ⟨gz, cz, rfl⟩ := hr.shape
          exact ⟨_, _, _, _, by rw [e7], hbb⟩
        | true =>
          have hlc : (lessL x h l).length = x * x * x := by unfold lessL; rw [List.length_map, places_len]
          have e0 : carE x h l = 0 := by unfold carE; rw [hb, hin]; rfl
          have e1 : carS x h l = x := by unfold carS; rw [e0]; rfl
          have e2 : carL x h l = lessL x h l := by unfold carL; rw [e0]; rfl
          have HD : ∀ k : Nat, Kp (∀ W g g' c c', LB W (.slice g (x * x) c) (viewL x k (lessL x h l)) → LB W (.slice g' (x * x) c') (viewL x k h) → Calls Try.prog 64 #[.agg #[.int .i64 x, .slice g (x * x) c], .agg #[.int .i64 x, .slice g' (x * x) c']] W fun e w' => e = .returned (.bool true) ∧ Below W.heap.size W w') := fun k => ⟨fun W g g' c c' k1 k2 => by
            have hh := dark_any x g g' (x * x) c c' _ _ W k1 k2 (viewL_len _ _ _) (viewL_len _ _ _) (by omega)
            rwa [dark_mono less_mem] at hh⟩
          refine ow_good x (x * x) g1 g2 h.length c1 l.length c2 h _ _ _ _ (lessL x h l) _ _ _ w (by omega) HLG HVB HUU (HVS h hl) HHU HPO HW1 ⟨fun W hW => (Carved_any x _ _ h l W (hu.below hW) (hv.below hW) (by omega)).mono fun e w' ⟨r, he, ⟨z, hz, hr⟩, hbb⟩ => ?_⟩ (HVS _ hlc) ⟨fun W g c hW hg => ?_⟩ (HD 0) (HD 1) (HD 2)
          · subst he hz
            rw [e2] at hr
            obtain ⟨gz, cz, rfl⟩ := hr.shape
            rw [hlc, ← hl] at hr ⊢
            exact ⟨gz, cz, by rw [e0, e1], hr, hbb⟩
          · have hh := Within_any x x _ _ _ h W hg (hu.below hW)
            rwa [al hlc hl, less_within] at hh
    · exact ow_long s g1 g2 h.length c1 l.length c2 w (by omega) HLG
  · refine ow_light s g1 g2 h.length c1 l.length c2 w ⟨fun W Y h0 h1 => ?_⟩
    have hh := light_any s g1 h.length c1 Y W h0 h1
    rwa [decide_eq_false hL] at hh
end Go.Proofs.Yticcafjogmjkiaa.Cv
