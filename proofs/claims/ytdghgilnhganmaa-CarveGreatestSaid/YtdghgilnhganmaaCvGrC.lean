/-
  THE WALK of the law CarveGreatest: the block has the hull's side.
-/
import Derived.Test.YtdghgilnhganmaaCvGrA
namespace Go.Proofs.Ytdghgilnhganmaa.Cv
open Go Go.RowKit Go.Sort

theorem view_start {w W : World} {x y : Value} {t : TypeId} (h : w.alloc (.cells #[x, y] t) = W) : Below w.heap.size w W ∧ W.cell? ⟨w.heap.size, 0, none⟩ = some x ∧ W.cell? ⟨w.heap.size, 1, none⟩ = some y := by
  subst h
  exact ⟨(Below.refl _ _).alloc (Nat.le_refl _) _, by go_simp, by go_simp⟩
set_option maxRecDepth 100000 in
set_option maxHeartbeats 4000000 in
theorem gr_core (s M N : Nat) (g1 g2 g3 g4 : Option Addr) (c1 c2 c3 c4 : Nat) (L A1 A2 A3 D1 D2 D3 E1 E2 E3 X : List Bool) (R : Bool) (w : World) (H3 : Kp (∀ W, Calls Try.prog 35 #[.agg #[.int .i64 s, .slice g1 M c1, .int .i64 s, .slice g2 M c2, .int .i64 s, .slice g3 M c3]] W fun e w' => e = .returned (.bool true) ∧ Below W.heap.size W w')) (HLG : Kp (∀ W Y, W.cell? ⟨Y, 0, none⟩ = some (.int .i64 s) → W.cell? ⟨Y, 1, none⟩ = some (.slice g4 N c4) → Calls Try.prog 14 #[.slice (some ⟨Y, 0, none⟩) 1 1] W fun e w' => e = .returned (.bool true) ∧ Below W.heap.size W w')) (HH : Kp (∀ W, Below w.heap.size w W → Calls Try.prog 36 #[.agg #[.int .i64 s, .slice g1 M c1], .agg #[.int .i64 s, .slice g2 M c2], .agg #[.int .i64 s, .slice g3 M c3]] W fun e w' => ∃ g c, e = .returned (.tuple #[.agg #[.int .i64 s, .slice g N c], .int .i64 0]) ∧ LB w' (.slice g N c) L ∧ Below W.heap.size W w')) (HV0 : Kp (∀ W g c, LB W (.slice g N c) L → Calls Try.prog 27 #[.agg #[.int .i64 s, .slice g N c], .int .i64 0] W fun e w' => ∃ g' c', e = .returned (.tuple #[.agg #[.int .i64 s, .slice g' M c'], .int .i64 0]) ∧ LB w' (.slice g' M c') D1 ∧ Below W.heap.size W w')) (HV1 : Kp (∀ W g c, LB W (.slice g N c) L → Calls Try.prog 27 #[.agg #[.int .i64 s, .slice g N c], .int .i64 1] W fun e w' => ∃ g' c', e = .returned (.tuple #[.agg #[.int .i64 s, .slice g' M c'], .int .i64 0]) ∧ LB w' (.slice g' M c') D2 ∧ Below W.heap.size W w')) (HV2 : Kp (∀ W g c, LB W (.slice g N c) L → Calls Try.prog 27 #[.agg #[.int .i64 s, .slice g N c], .int .i64 2] W fun e w' => ∃ g' c', e = .returned (.tuple #[.agg #[.int .i64 s, .slice g' M c'], .int .i64 0]) ∧ LB w' (.slice g' M c') D3 ∧ Below W.heap.size W w')) (HX1 : Kp (∀ W, Below w.heap.size w W → LB W (.slice g1 M c1) A1)) (HX2 : Kp (∀ W, Below w.heap.size w W → LB W (.slice g2 M c2) A2)) (HX3 : Kp (∀ W, Below w.heap.size w W → LB W (.slice g3 M c3) A3)) (HD : Kp (∀ W (A B : List Bool) g g' c c', LB W (.slice g M c) A → LB W (.slice g' M c') B → A.length = M → B.length = M → Calls Try.prog 63 #[.agg #[.int .i64 s, .slice g M c], .agg #[.int .i64 s, .slice g' M c']] W fun e w' => e = .returned (.bool (darkB A B)) ∧ Below W.heap.size W w')) (HLN : Kp ((A1.length = M ∧ A2.length = M ∧ A3.length = M) ∧ D1.length = M ∧ D2.length = M ∧ D3.length = M)) (HT : Kp (darkB D1 A1 = true ∧ darkB D2 A2 = true ∧ darkB D3 A3 = true)) (HW0 : Kp (∀ W, Below w.heap.size w W → Calls Try.prog 27 #[.agg #[.int .i64 s, .slice g4 N c4], .int .i64 0] W fun e w' => ∃ g c, e = .returned (.tuple #[.agg #[.int .i64 s, .slice g M c], .int .i64 0]) ∧ LB w' (.slice g M c) E1 ∧ Below W.heap.size W w')) (HW1 : Kp (∀ W, Below w.heap.size w W → Calls Try.prog 27 #[.agg #[.int .i64 s, .slice g4 N c4], .int .i64 1] W fun e w' => ∃ g c, e = .returned (.tuple #[.agg #[.int .i64 s, .slice g M c], .int .i64 0]) ∧ LB w' (.slice g M c) E2 ∧ Below W.heap.size W w')) (HW2 : Kp (∀ W, Below w.heap.size w W → Calls Try.prog 27 #[.agg #[.int .i64 s, .slice g4 N c4], .int .i64 2] W fun e w' => ∃ g c, e = .returned (.tuple #[.agg #[.int .i64 s, .slice g M c], .int .i64 0]) ∧ LB w' (.slice g M c) E3 ∧ Below W.heap.size W w')) (HXX : Kp (∀ W, Below w.heap.size w W → LB W (.slice g4 N c4) X)) (HWI : Kp (∀ W g c, LB W (.slice g4 N c4) X → LB W (.slice g N c) L → Calls Try.prog 44 #[.agg #[.int .i64 s, .slice g4 N c4], .agg #[.int .i64 s, .slice g N c]] W fun e w' => e = .returned (.bool R) ∧ Below W.heap.size W w')) (HR : Kp (R = (darkB E1 A1 && (darkB E2 A2 && darkB E3 A3)))) (HEL : Kp (E1.length = M ∧ E2.length = M ∧ E3.length = M)) :
    Calls Try.prog 10 #[.agg #[.int .i64 s, .slice g1 M c1, .int .i64 s, .slice g2 M c2, .int .i64 s, .slice g3 M c3], .agg #[.int .i64 s, .slice g4 N c4]] w (EndsG w) := by
  go_enter Try.func10, Try.ntmps10
  go_wp2_with fail
  refine (H3.out _).mono ?_
  rintro en w1 ⟨rfl, hb1⟩
  have HB1 : Kp (Below w.heap.size w w1) := ⟨Below.trans (by repeat (first | refine Below.alloc ?_ (by (try simp) <;> omega) _ | refine bDrewN ?_ _ | refine Below.drew ?_ | exact Below.refl _ _)) (hb1.mono (by (try simp) <;> omega))⟩
  have hz1_0 : w.heap.size < w1.heap.size := by have := hb1.size; (try simp at this); omega
  have hz1_1 : w.heap.size + 1 < w1.heap.size := by have := hb1.size; (try simp at this); omega
  obtain ⟨hc, hf⟩ := bcell hb1
  have c1_0_0 : w1.cell? ⟨w.heap.size, 0, none⟩ = some (.int .i64 s) := (hc _ _ (by (try simp) <;> omega)).trans (by go_simp)
  have c1_0_1 : w1.cell? ⟨w.heap.size, 1, none⟩ = some ((.slice g1 M c1)) := (hc _ _ (by (try simp) <;> omega)).trans (by go_simp)
  have c1_0_2 : w1.cell? ⟨w.heap.size, 2, none⟩ = some (.int .i64 s) := (hc _ _ (by (try simp) <;> omega)).trans (by go_simp)
  have c1_0_3 : w1.cell? ⟨w.heap.size, 3, none⟩ = some ((.slice g2 M c2)) := (hc _ _ (by (try simp) <;> omega)).trans (by go_simp)
  have c1_0_4 : w1.cell? ⟨w.heap.size, 4, none⟩ = some (.int .i64 s) := (hc _ _ (by (try simp) <;> omega)).trans (by go_simp)
  have c1_0_5 : w1.cell? ⟨w.heap.size, 5, none⟩ = some ((.slice g3 M c3)) := (hc _ _ (by (try simp) <;> omega)).trans (by go_simp)
  have z1_0 : ∀ j, w1.frozen? ⟨w.heap.size, j, none⟩ = false := fun j => (hf _ _ (by (try simp) <;> omega)).trans (by go_simp)
  have c1_1_0 : w1.cell? ⟨w.heap.size + 1, 0, none⟩ = some (.int .i64 s) := (hc _ _ (by (try simp) <;> omega)).trans (by go_simp)
  have c1_1_1 : w1.cell? ⟨w.heap.size + 1, 1, none⟩ = some ((.slice g4 N c4)) := (hc _ _ (by (try simp) <;> omega)).trans (by go_simp)
  have z1_1 : ∀ j, w1.frozen? ⟨w.heap.size + 1, j, none⟩ = false := fun j => (hf _ _ (by (try simp) <;> omega)).trans (by go_simp)
  clear hc hf hb1
  go_wp2_with fail
  refine (HLG.out _ _ (by go_simp) (by go_simp)).mono ?_
  rintro en w2 ⟨rfl, hb2⟩
  have HB2 : Kp (Below w.heap.size w w2) := ⟨Below.trans (by repeat (first | refine Below.alloc ?_ (by have := HB1.out.size; (try simp) <;> omega) _ | refine bDrewN ?_ _ | refine Below.drew ?_ | exact HB1.out)) (hb2.mono (by have := HB1.out.size; (try simp) <;> omega))⟩
  have hz2_0 : w.heap.size < w2.heap.size := by have := hb2.size; (try simp at this); omega
  have hz2_1 : w.heap.size + 1 < w2.heap.size := by have := hb2.size; (try simp at this); omega
  obtain ⟨hc, hf⟩ := bcell hb2
  have c2_0_0 : w2.cell? ⟨w.heap.size, 0, none⟩ = some (.int .i64 s) := (hc _ _ (by (try simp) <;> omega)).trans (by go_simp)
  have c2_0_1 : w2.cell? ⟨w.heap.size, 1, none⟩ = some ((.slice g1 M c1)) := (hc _ _ (by (try simp) <;> omega)).trans (by go_simp)
  have c2_0_2 : w2.cell? ⟨w.heap.size, 2, none⟩ = some (.int .i64 s) := (hc _ _ (by (try simp) <;> omega)).trans (by go_simp)
  have c2_0_3 : w2.cell? ⟨w.heap.size, 3, none⟩ = some ((.slice g2 M c2)) := (hc _ _ (by (try simp) <;> omega)).trans (by go_simp)
  have c2_0_4 : w2.cell? ⟨w.heap.size, 4, none⟩ = some (.int .i64 s) := (hc _ _ (by (try simp) <;> omega)).trans (by go_simp)
  have c2_0_5 : w2.cell? ⟨w.heap.size, 5, none⟩ = some ((.slice g3 M c3)) := (hc _ _ (by (try simp) <;> omega)).trans (by go_simp)
  have z2_0 : ∀ j, w2.frozen? ⟨w.heap.size, j, none⟩ = false := fun j => (hf _ _ (by (try simp) <;> omega)).trans (by go_simp)
  have c2_1_0 : w2.cell? ⟨w.heap.size + 1, 0, none⟩ = some (.int .i64 s) := (hc _ _ (by (try simp) <;> omega)).trans (by go_simp)
  have c2_1_1 : w2.cell? ⟨w.heap.size + 1, 1, none⟩ = some ((.slice g4 N c4)) := (hc _ _ (by (try simp) <;> omega)).trans (by go_simp)
  have z2_1 : ∀ j, w2.frozen? ⟨w.heap.size + 1, j, none⟩ = false := fun j => (hf _ _ (by (try simp) <;> omega)).trans (by go_simp)
  clear hc hf hb2
  go_wp2_with fail
  refine (HH.out _ HB2.out).mono ?_
  rintro en w3 ⟨gh, ch, rfl, hh, hb3⟩
  have HL := Kp.mk hh
  clear hh
  have HB3 : Kp (Below w.heap.size w w3) := ⟨Below.trans (by repeat (first | refine Below.alloc ?_ (by have := HB2.out.size; (try simp) <;> omega) _ | refine bDrewN ?_ _ | refine Below.drew ?_ | exact HB2.out)) (hb3.mono (by have := HB2.out.size; (try simp) <;> omega))⟩
  have hz3_0 : w.heap.size < w3.heap.size := by have := hb3.size; (try simp at this); omega
  have hz3_1 : w.heap.size + 1 < w3.heap.size := by have := hb3.size; (try simp at this); omega
  obtain ⟨hc, hf⟩ := bcell hb3
  have c3_0_0 : w3.cell? ⟨w.heap.size, 0, none⟩ = some (.int .i64 s) := (hc _ _ (by (try simp) <;> omega)).trans (by go_simp)
  have c3_0_1 : w3.cell? ⟨w.heap.size, 1, none⟩ = some ((.slice g1 M c1)) := (hc _ _ (by (try simp) <;> omega)).trans (by go_simp)
  have c3_0_2 : w3.cell? ⟨w.heap.size, 2, none⟩ = some (.int .i64 s) := (hc _ _ (by (try simp) <;> omega)).trans (by go_simp)
  have c3_0_3 : w3.cell? ⟨w.heap.size, 3, none⟩ = some ((.slice g2 M c2)) := (hc _ _ (by (try simp) <;> omega)).trans (by go_simp)
  have c3_0_4 : w3.cell? ⟨w.heap.size, 4, none⟩ = some (.int .i64 s) := (hc _ _ (by (try simp) <;> omega)).trans (by go_simp)
  have c3_0_5 : w3.cell? ⟨w.heap.size, 5, none⟩ = some ((.slice g3 M c3)) := (hc _ _ (by (try simp) <;> omega)).trans (by go_simp)
  have z3_0 : ∀ j, w3.frozen? ⟨w.heap.size, j, none⟩ = false := fun j => (hf _ _ (by (try simp) <;> omega)).trans (by go_simp)
  have c3_1_0 : w3.cell? ⟨w.heap.size + 1, 0, none⟩ = some (.int .i64 s) := (hc _ _ (by (try simp) <;> omega)).trans (by go_simp)
  have c3_1_1 : w3.cell? ⟨w.heap.size + 1, 1, none⟩ = some ((.slice g4 N c4)) := (hc _ _ (by (try simp) <;> omega)).trans (by go_simp)
  have z3_1 : ∀ j, w3.frozen? ⟨w.heap.size + 1, j, none⟩ = false := fun j => (hf _ _ (by (try simp) <;> omega)).trans (by go_simp)
  clear hc hf hb3
  go_wp2_with fail
  refine (HV0.out _ _ _ (HL.out.below ((Below.refl _ _).alloc (Nat.le_refl _) _))).mono ?_
  rintro en w4 ⟨gp, cp, rfl, hp, hb4⟩
  have HP1 := Kp.mk hp
  have HL := Kp.mk ((HL.out.below ((Below.refl _ _).alloc (Nat.le_refl _) _)).below hb4)
  clear hp
  have HB4 : Kp (Below w.heap.size w w4) := ⟨Below.trans (by repeat (first | refine Below.alloc ?_ (by have := HB3.out.size; (try simp) <;> omega) _ | refine bDrewN ?_ _ | refine Below.drew ?_ | exact HB3.out)) (hb4.mono (by have := HB3.out.size; (try simp) <;> omega))⟩
  have hz4_0 : w.heap.size < w4.heap.size := by have := hb4.size; (try simp at this); omega
  have hz4_1 : w.heap.size + 1 < w4.heap.size := by have := hb4.size; (try simp at this); omega
  have hz4_2 : w3.heap.size < w4.heap.size := by have := hb4.size; (try simp at this); omega
  obtain ⟨hc, hf⟩ := bcell hb4
  have c4_0_0 : w4.cell? ⟨w.heap.size, 0, none⟩ = some (.int .i64 s) := (hc _ _ (by (try simp) <;> omega)).trans (by go_simp)
  have c4_0_1 : w4.cell? ⟨w.heap.size, 1, none⟩ = some ((.slice g1 M c1)) := (hc _ _ (by (try simp) <;> omega)).trans (by go_simp)
  have c4_0_2 : w4.cell? ⟨w.heap.size, 2, none⟩ = some (.int .i64 s) := (hc _ _ (by (try simp) <;> omega)).trans (by go_simp)
  have c4_0_3 : w4.cell? ⟨w.heap.size, 3, none⟩ = some ((.slice g2 M c2)) := (hc _ _ (by (try simp) <;> omega)).trans (by go_simp)
  have c4_0_4 : w4.cell? ⟨w.heap.size, 4, none⟩ = some (.int .i64 s) := (hc _ _ (by (try simp) <;> omega)).trans (by go_simp)
  have c4_0_5 : w4.cell? ⟨w.heap.size, 5, none⟩ = some ((.slice g3 M c3)) := (hc _ _ (by (try simp) <;> omega)).trans (by go_simp)
  have z4_0 : ∀ j, w4.frozen? ⟨w.heap.size, j, none⟩ = false := fun j => (hf _ _ (by (try simp) <;> omega)).trans (by go_simp)
  have c4_1_0 : w4.cell? ⟨w.heap.size + 1, 0, none⟩ = some (.int .i64 s) := (hc _ _ (by (try simp) <;> omega)).trans (by go_simp)
  have c4_1_1 : w4.cell? ⟨w.heap.size + 1, 1, none⟩ = some ((.slice g4 N c4)) := (hc _ _ (by (try simp) <;> omega)).trans (by go_simp)
  have z4_1 : ∀ j, w4.frozen? ⟨w.heap.size + 1, j, none⟩ = false := fun j => (hf _ _ (by (try simp) <;> omega)).trans (by go_simp)
  have c4_2_0 : w4.cell? ⟨w3.heap.size, 0, none⟩ = some (.int .i64 s) := (hc _ _ (by (try simp) <;> omega)).trans (by go_simp)
  have c4_2_1 : w4.cell? ⟨w3.heap.size, 1, none⟩ = some ((.slice gh N ch)) := (hc _ _ (by (try simp) <;> omega)).trans (by go_simp)
  have z4_2 : ∀ j, w4.frozen? ⟨w3.heap.size, j, none⟩ = false := fun j => (hf _ _ (by (try simp) <;> omega)).trans (by go_simp)
  clear hc hf hb4
  go_wp2_with fail
  refine (HV1.out _ _ _ (HL.out.below ((Below.refl _ _).alloc (Nat.le_refl _) _))).mono ?_
  rintro en w5 ⟨gq, cq, rfl, hp, hb5⟩
  have HP2 := Kp.mk hp
  have HP1 := Kp.mk ((HP1.out.below ((Below.refl _ _).alloc (Nat.le_refl _) _)).below hb5)
  have HL := Kp.mk ((HL.out.below ((Below.refl _ _).alloc (Nat.le_refl _) _)).below hb5)
  clear hp
  have HB5 : Kp (Below w.heap.size w w5) := ⟨Below.trans (by repeat (first | refine Below.alloc ?_ (by have := HB4.out.size; (try simp) <;> omega) _ | refine bDrewN ?_ _ | refine Below.drew ?_ | exact HB4.out)) (hb5.mono (by have := HB4.out.size; (try simp) <;> omega))⟩
  have hz5_0 : w.heap.size < w5.heap.size := by have := hb5.size; (try simp at this); omega
  have hz5_1 : w.heap.size + 1 < w5.heap.size := by have := hb5.size; (try simp at this); omega
  have hz5_2 : w3.heap.size < w5.heap.size := by have := hb5.size; (try simp at this); omega
  have hz5_3 : w4.heap.size < w5.heap.size := by have := hb5.size; (try simp at this); omega
  obtain ⟨hc, hf⟩ := bcell hb5
  have c5_0_0 : w5.cell? ⟨w.heap.size, 0, none⟩ = some (.int .i64 s) := (hc _ _ (by (try simp) <;> omega)).trans (by go_simp)
  have c5_0_1 : w5.cell? ⟨w.heap.size, 1, none⟩ = some ((.slice g1 M c1)) := (hc _ _ (by (try simp) <;> omega)).trans (by go_simp)
  have c5_0_2 : w5.cell? ⟨w.heap.size, 2, none⟩ = some (.int .i64 s) := (hc _ _ (by (try simp) <;> omega)).trans (by go_simp)
  have c5_0_3 : w5.cell? ⟨w.heap.size, 3, none⟩ = some ((.slice g2 M c2)) := (hc _ _ (by (try simp) <;> omega)).trans (by go_simp)
  have c5_0_4 : w5.cell? ⟨w.heap.size, 4, none⟩ = some (.int .i64 s) := (hc _ _ (by (try simp) <;> omega)).trans (by go_simp)
  have c5_0_5 : w5.cell? ⟨w.heap.size, 5, none⟩ = some ((.slice g3 M c3)) := (hc _ _ (by (try simp) <;> omega)).trans (by go_simp)
  have z5_0 : ∀ j, w5.frozen? ⟨w.heap.size, j, none⟩ = false := fun j => (hf _ _ (by (try simp) <;> omega)).trans (by go_simp)
  have c5_1_0 : w5.cell? ⟨w.heap.size + 1, 0, none⟩ = some (.int .i64 s) := (hc _ _ (by (try simp) <;> omega)).trans (by go_simp)
  have c5_1_1 : w5.cell? ⟨w.heap.size + 1, 1, none⟩ = some ((.slice g4 N c4)) := (hc _ _ (by (try simp) <;> omega)).trans (by go_simp)
  have z5_1 : ∀ j, w5.frozen? ⟨w.heap.size + 1, j, none⟩ = false := fun j => (hf _ _ (by (try simp) <;> omega)).trans (by go_simp)
  have c5_2_0 : w5.cell? ⟨w3.heap.size, 0, none⟩ = some (.int .i64 s) := (hc _ _ (by (try simp) <;> omega)).trans (by go_simp)
  have c5_2_1 : w5.cell? ⟨w3.heap.size, 1, none⟩ = some ((.slice gh N ch)) := (hc _ _ (by (try simp) <;> omega)).trans (by go_simp)
  have z5_2 : ∀ j, w5.frozen? ⟨w3.heap.size, j, none⟩ = false := fun j => (hf _ _ (by (try simp) <;> omega)).trans (by go_simp)
  have c5_3_0 : w5.cell? ⟨w4.heap.size, 0, none⟩ = some (.int .i64 s) := (hc _ _ (by (try simp) <;> omega)).trans (by go_simp)
  have c5_3_1 : w5.cell? ⟨w4.heap.size, 1, none⟩ = some ((.slice gp M cp)) := (hc _ _ (by (try simp) <;> omega)).trans (by go_simp)
  have z5_3 : ∀ j, w5.frozen? ⟨w4.heap.size, j, none⟩ = false := fun j => (hf _ _ (by (try simp) <;> omega)).trans (by go_simp)
  clear hc hf hb5
  go_wp2_with fail
  refine (HV2.out _ _ _ (HL.out.below ((Below.refl _ _).alloc (Nat.le_refl _) _))).mono ?_
  rintro en w6 ⟨gr, cr, rfl, hp, hb6⟩
  have HP3 := Kp.mk hp
  have HP1 := Kp.mk ((HP1.out.below ((Below.refl _ _).alloc (Nat.le_refl _) _)).below hb6)
  have HP2 := Kp.mk ((HP2.out.below ((Below.refl _ _).alloc (Nat.le_refl _) _)).below hb6)
  have HL := Kp.mk ((HL.out.below ((Below.refl _ _).alloc (Nat.le_refl _) _)).below hb6)
  clear hp
  have HB6 : Kp (Below w.heap.size w w6) := ⟨Below.trans (by repeat (first | refine Below.alloc ?_ (by have := HB5.out.size; (try simp) <;> omega) _ | refine bDrewN ?_ _ | refine Below.drew ?_ | exact HB5.out)) (hb6.mono (by have := HB5.out.size; (try simp) <;> omega))⟩
  have hz6_0 : w.heap.size < w6.heap.size := by have := hb6.size; (try simp at this); omega
  have hz6_1 : w.heap.size + 1 < w6.heap.size := by have := hb6.size; (try simp at this); omega
  have hz6_2 : w3.heap.size < w6.heap.size := by have := hb6.size; (try simp at this); omega
  have hz6_3 : w4.heap.size < w6.heap.size := by have := hb6.size; (try simp at this); omega
  have hz6_4 : w5.heap.size < w6.heap.size := by have := hb6.size; (try simp at this); omega
  obtain ⟨hc, hf⟩ := bcell hb6
  have c6_0_0 : w6.cell? ⟨w.heap.size, 0, none⟩ = some (.int .i64 s) := (hc _ _ (by (try simp) <;> omega)).trans (by go_simp)
  have c6_0_1 : w6.cell? ⟨w.heap.size, 1, none⟩ = some ((.slice g1 M c1)) := (hc _ _ (by (try simp) <;> omega)).trans (by go_simp)
  have c6_0_2 : w6.cell? ⟨w.heap.size, 2, none⟩ = some (.int .i64 s) := (hc _ _ (by (try simp) <;> omega)).trans (by go_simp)
  have c6_0_3 : w6.cell? ⟨w.heap.size, 3, none⟩ = some ((.slice g2 M c2)) := (hc _ _ (by (try simp) <;> omega)).trans (by go_simp)
  have c6_0_4 : w6.cell? ⟨w.heap.size, 4, none⟩ = some (.int .i64 s) := (hc _ _ (by (try simp) <;> omega)).trans (by go_simp)
  have c6_0_5 : w6.cell? ⟨w.heap.size, 5, none⟩ = some ((.slice g3 M c3)) := (hc _ _ (by (try simp) <;> omega)).trans (by go_simp)
  have z6_0 : ∀ j, w6.frozen? ⟨w.heap.size, j, none⟩ = false := fun j => (hf _ _ (by (try simp) <;> omega)).trans (by go_simp)
  have c6_1_0 : w6.cell? ⟨w.heap.size + 1, 0, none⟩ = some (.int .i64 s) := (hc _ _ (by (try simp) <;> omega)).trans (by go_simp)
  have c6_1_1 : w6.cell? ⟨w.heap.size + 1, 1, none⟩ = some ((.slice g4 N c4)) := (hc _ _ (by (try simp) <;> omega)).trans (by go_simp)
  have z6_1 : ∀ j, w6.frozen? ⟨w.heap.size + 1, j, none⟩ = false := fun j => (hf _ _ (by (try simp) <;> omega)).trans (by go_simp)
  have c6_2_0 : w6.cell? ⟨w3.heap.size, 0, none⟩ = some (.int .i64 s) := (hc _ _ (by (try simp) <;> omega)).trans (by go_simp)
  have c6_2_1 : w6.cell? ⟨w3.heap.size, 1, none⟩ = some ((.slice gh N ch)) := (hc _ _ (by (try simp) <;> omega)).trans (by go_simp)
  have z6_2 : ∀ j, w6.frozen? ⟨w3.heap.size, j, none⟩ = false := fun j => (hf _ _ (by (try simp) <;> omega)).trans (by go_simp)
  have c6_3_0 : w6.cell? ⟨w4.heap.size, 0, none⟩ = some (.int .i64 s) := (hc _ _ (by (try simp) <;> omega)).trans (by go_simp)
  have c6_3_1 : w6.cell? ⟨w4.heap.size, 1, none⟩ = some ((.slice gp M cp)) := (hc _ _ (by (try simp) <;> omega)).trans (by go_simp)
  have z6_3 : ∀ j, w6.frozen? ⟨w4.heap.size, j, none⟩ = false := fun j => (hf _ _ (by (try simp) <;> omega)).trans (by go_simp)
  have c6_4_0 : w6.cell? ⟨w5.heap.size, 0, none⟩ = some (.int .i64 s) := (hc _ _ (by (try simp) <;> omega)).trans (by go_simp)
  have c6_4_1 : w6.cell? ⟨w5.heap.size, 1, none⟩ = some ((.slice gq M cq)) := (hc _ _ (by (try simp) <;> omega)).trans (by go_simp)
  have z6_4 : ∀ j, w6.frozen? ⟨w5.heap.size, j, none⟩ = false := fun j => (hf _ _ (by (try simp) <;> omega)).trans (by go_simp)
  clear hc hf hb6
  obtain ⟨HT1, HT2, HT3⟩ := HT.out
  obtain ⟨⟨l1, l2, l3⟩, m1, m2, m3⟩ := HLN.out
  have HLL := Lib.hid (And.intro l1 (And.intro l2 (And.intro l3 (And.intro m1 (And.intro m2 m3)))))
  have HTT := Lib.hid (And.intro HT1 (And.intro HT2 HT3))
  clear HT1 HT2 HT3 l1 l2 l3 m1 m2 m3
  go_wp2_with fail
  refine (HD.out _ D1 A1 _ _ _ _ (HP1.out.below ((Below.refl _ _).alloc (Nat.le_refl _) _)) (HX1.out _ (HB6.out.alloc HB6.out.size _)) HLL.out.2.2.2.1 HLL.out.1).mono ?_
  rw [HTT.out.1]
  rintro en w7 ⟨rfl, hb7⟩
  have HP2 := Kp.mk ((HP2.out.below ((Below.refl _ _).alloc (Nat.le_refl _) _)).below hb7)
  have HP3 := Kp.mk ((HP3.out.below ((Below.refl _ _).alloc (Nat.le_refl _) _)).below hb7)
  have HL := Kp.mk ((HL.out.below ((Below.refl _ _).alloc (Nat.le_refl _) _)).below hb7)
  have HB7 : Kp (Below w.heap.size w w7) := ⟨Below.trans (by repeat (first | refine Below.alloc ?_ (by have := HB6.out.size; (try simp) <;> omega) _ | refine bDrewN ?_ _ | refine Below.drew ?_ | exact HB6.out)) (hb7.mono (by have := HB6.out.size; (try simp) <;> omega))⟩
  have hz7_0 : w.heap.size < w7.heap.size := by have := hb7.size; (try simp at this); omega
  have hz7_1 : w.heap.size + 1 < w7.heap.size := by have := hb7.size; (try simp at this); omega
  have hz7_2 : w3.heap.size < w7.heap.size := by have := hb7.size; (try simp at this); omega
  have hz7_3 : w5.heap.size < w7.heap.size := by have := hb7.size; (try simp at this); omega
  have hz7_4 : w6.heap.size < w7.heap.size := by have := hb7.size; (try simp at this); omega
  obtain ⟨hc, hf⟩ := bcell hb7
  have c7_0_0 : w7.cell? ⟨w.heap.size, 0, none⟩ = some (.int .i64 s) := (hc _ _ (by (try simp) <;> omega)).trans (by go_simp)
  have c7_0_1 : w7.cell? ⟨w.heap.size, 1, none⟩ = some ((.slice g1 M c1)) := (hc _ _ (by (try simp) <;> omega)).trans (by go_simp)
  have c7_0_2 : w7.cell? ⟨w.heap.size, 2, none⟩ = some (.int .i64 s) := (hc _ _ (by (try simp) <;> omega)).trans (by go_simp)
  have c7_0_3 : w7.cell? ⟨w.heap.size, 3, none⟩ = some ((.slice g2 M c2)) := (hc _ _ (by (try simp) <;> omega)).trans (by go_simp)
  have c7_0_4 : w7.cell? ⟨w.heap.size, 4, none⟩ = some (.int .i64 s) := (hc _ _ (by (try simp) <;> omega)).trans (by go_simp)
  have c7_0_5 : w7.cell? ⟨w.heap.size, 5, none⟩ = some ((.slice g3 M c3)) := (hc _ _ (by (try simp) <;> omega)).trans (by go_simp)
  have z7_0 : ∀ j, w7.frozen? ⟨w.heap.size, j, none⟩ = false := fun j => (hf _ _ (by (try simp) <;> omega)).trans (by go_simp)
  have c7_1_0 : w7.cell? ⟨w.heap.size + 1, 0, none⟩ = some (.int .i64 s) := (hc _ _ (by (try simp) <;> omega)).trans (by go_simp)
  have c7_1_1 : w7.cell? ⟨w.heap.size + 1, 1, none⟩ = some ((.slice g4 N c4)) := (hc _ _ (by (try simp) <;> omega)).trans (by go_simp)
  have z7_1 : ∀ j, w7.frozen? ⟨w.heap.size + 1, j, none⟩ = false := fun j => (hf _ _ (by (try simp) <;> omega)).trans (by go_simp)
  have c7_2_0 : w7.cell? ⟨w3.heap.size, 0, none⟩ = some (.int .i64 s) := (hc _ _ (by (try simp) <;> omega)).trans (by go_simp)
  have c7_2_1 : w7.cell? ⟨w3.heap.size, 1, none⟩ = some ((.slice gh N ch)) := (hc _ _ (by (try simp) <;> omega)).trans (by go_simp)
  have z7_2 : ∀ j, w7.frozen? ⟨w3.heap.size, j, none⟩ = false := fun j => (hf _ _ (by (try simp) <;> omega)).trans (by go_simp)
  have c7_3_0 : w7.cell? ⟨w5.heap.size, 0, none⟩ = some (.int .i64 s) := (hc _ _ (by (try simp) <;> omega)).trans (by go_simp)
  have c7_3_1 : w7.cell? ⟨w5.heap.size, 1, none⟩ = some ((.slice gq M cq)) := (hc _ _ (by (try simp) <;> omega)).trans (by go_simp)
  have z7_3 : ∀ j, w7.frozen? ⟨w5.heap.size, j, none⟩ = false := fun j => (hf _ _ (by (try simp) <;> omega)).trans (by go_simp)
  have c7_4_0 : w7.cell? ⟨w6.heap.size, 0, none⟩ = some (.int .i64 s) := (hc _ _ (by (try simp) <;> omega)).trans (by go_simp)
  have c7_4_1 : w7.cell? ⟨w6.heap.size, 1, none⟩ = some ((.slice gr M cr)) := (hc _ _ (by (try simp) <;> omega)).trans (by go_simp)
  have z7_4 : ∀ j, w7.frozen? ⟨w6.heap.size, j, none⟩ = false := fun j => (hf _ _ (by (try simp) <;> omega)).trans (by go_simp)
  clear hc hf hb7
  go_wp2_with fail
  refine (HD.out _ D2 A2 _ _ _ _ HP2.out (HX2.out _ HB7.out) HLL.out.2.2.2.2.1 HLL.out.2.1).mono ?_
  rw [HTT.out.2.1]
  rintro en w8 ⟨rfl, hb8⟩
  have HP3 := Kp.mk (HP3.out.below hb8)
  have HL := Kp.mk (HL.out.below hb8)
  have HB8 : Kp (Below w.heap.size w w8) := ⟨Below.trans (by repeat (first | refine Below.alloc ?_ (by have := HB7.out.size; (try simp) <;> omega) _ | refine bDrewN ?_ _ | refine Below.drew ?_ | exact HB7.out)) (hb8.mono (by have := HB7.out.size; (try simp) <;> omega))⟩
  have hz8_0 : w.heap.size < w8.heap.size := by have := hb8.size; (try simp at this); omega
  have hz8_1 : w.heap.size + 1 < w8.heap.size := by have := hb8.size; (try simp at this); omega
  have hz8_2 : w3.heap.size < w8.heap.size := by have := hb8.size; (try simp at this); omega
  have hz8_3 : w6.heap.size < w8.heap.size := by have := hb8.size; (try simp at this); omega
  obtain ⟨hc, hf⟩ := bcell hb8
  have c8_0_0 : w8.cell? ⟨w.heap.size, 0, none⟩ = some (.int .i64 s) := (hc _ _ (by (try simp) <;> omega)).trans (by go_simp)
  have c8_0_1 : w8.cell? ⟨w.heap.size, 1, none⟩ = some ((.slice g1 M c1)) := (hc _ _ (by (try simp) <;> omega)).trans (by go_simp)
  have c8_0_2 : w8.cell? ⟨w.heap.size, 2, none⟩ = some (.int .i64 s) := (hc _ _ (by (try simp) <;> omega)).trans (by go_simp)
  have c8_0_3 : w8.cell? ⟨w.heap.size, 3, none⟩ = some ((.slice g2 M c2)) := (hc _ _ (by (try simp) <;> omega)).trans (by go_simp)
  have c8_0_4 : w8.cell? ⟨w.heap.size, 4, none⟩ = some (.int .i64 s) := (hc _ _ (by (try simp) <;> omega)).trans (by go_simp)
  have c8_0_5 : w8.cell? ⟨w.heap.size, 5, none⟩ = some ((.slice g3 M c3)) := (hc _ _ (by (try simp) <;> omega)).trans (by go_simp)
  have z8_0 : ∀ j, w8.frozen? ⟨w.heap.size, j, none⟩ = false := fun j => (hf _ _ (by (try simp) <;> omega)).trans (by go_simp)
  have c8_1_0 : w8.cell? ⟨w.heap.size + 1, 0, none⟩ = some (.int .i64 s) := (hc _ _ (by (try simp) <;> omega)).trans (by go_simp)
  have c8_1_1 : w8.cell? ⟨w.heap.size + 1, 1, none⟩ = some ((.slice g4 N c4)) := (hc _ _ (by (try simp) <;> omega)).trans (by go_simp)
  have z8_1 : ∀ j, w8.frozen? ⟨w.heap.size + 1, j, none⟩ = false := fun j => (hf _ _ (by (try simp) <;> omega)).trans (by go_simp)
  have c8_2_0 : w8.cell? ⟨w3.heap.size, 0, none⟩ = some (.int .i64 s) := (hc _ _ (by (try simp) <;> omega)).trans (by go_simp)
  have c8_2_1 : w8.cell? ⟨w3.heap.size, 1, none⟩ = some ((.slice gh N ch)) := (hc _ _ (by (try simp) <;> omega)).trans (by go_simp)
  have z8_2 : ∀ j, w8.frozen? ⟨w3.heap.size, j, none⟩ = false := fun j => (hf _ _ (by (try simp) <;> omega)).trans (by go_simp)
  have c8_3_0 : w8.cell? ⟨w6.heap.size, 0, none⟩ = some (.int .i64 s) := (hc _ _ (by (try simp) <;> omega)).trans (by go_simp)
  have c8_3_1 : w8.cell? ⟨w6.heap.size, 1, none⟩ = some ((.slice gr M cr)) := (hc _ _ (by (try simp) <;> omega)).trans (by go_simp)
  have z8_3 : ∀ j, w8.frozen? ⟨w6.heap.size, j, none⟩ = false := fun j => (hf _ _ (by (try simp) <;> omega)).trans (by go_simp)
  clear hc hf hb8
  go_wp2_with fail
  refine (HD.out _ D3 A3 _ _ _ _ HP3.out (HX3.out _ HB8.out) HLL.out.2.2.2.2.2 HLL.out.2.2.1).mono ?_
  rw [HTT.out.2.2]
  rintro en w9 ⟨rfl, hb9⟩
  have HL := Kp.mk (HL.out.below hb9)
  have HB9 : Kp (Below w.heap.size w w9) := ⟨Below.trans (by repeat (first | refine Below.alloc ?_ (by have := HB8.out.size; (try simp) <;> omega) _ | refine bDrewN ?_ _ | refine Below.drew ?_ | exact HB8.out)) (hb9.mono (by have := HB8.out.size; (try simp) <;> omega))⟩
  have hz9_0 : w.heap.size < w9.heap.size := by have := hb9.size; (try simp at this); omega
  have hz9_1 : w.heap.size + 1 < w9.heap.size := by have := hb9.size; (try simp at this); omega
  have hz9_2 : w3.heap.size < w9.heap.size := by have := hb9.size; (try simp at this); omega
  obtain ⟨hc, hf⟩ := bcell hb9
  have c9_0_0 : w9.cell? ⟨w.heap.size, 0, none⟩ = some (.int .i64 s) := (hc _ _ (by (try simp) <;> omega)).trans (by go_simp)
  have c9_0_1 : w9.cell? ⟨w.heap.size, 1, none⟩ = some ((.slice g1 M c1)) := (hc _ _ (by (try simp) <;> omega)).trans (by go_simp)
  have c9_0_2 : w9.cell? ⟨w.heap.size, 2, none⟩ = some (.int .i64 s) := (hc _ _ (by (try simp) <;> omega)).trans (by go_simp)
  have c9_0_3 : w9.cell? ⟨w.heap.size, 3, none⟩ = some ((.slice g2 M c2)) := (hc _ _ (by (try simp) <;> omega)).trans (by go_simp)
  have c9_0_4 : w9.cell? ⟨w.heap.size, 4, none⟩ = some (.int .i64 s) := (hc _ _ (by (try simp) <;> omega)).trans (by go_simp)
  have c9_0_5 : w9.cell? ⟨w.heap.size, 5, none⟩ = some ((.slice g3 M c3)) := (hc _ _ (by (try simp) <;> omega)).trans (by go_simp)
  have z9_0 : ∀ j, w9.frozen? ⟨w.heap.size, j, none⟩ = false := fun j => (hf _ _ (by (try simp) <;> omega)).trans (by go_simp)
  have c9_1_0 : w9.cell? ⟨w.heap.size + 1, 0, none⟩ = some (.int .i64 s) := (hc _ _ (by (try simp) <;> omega)).trans (by go_simp)
  have c9_1_1 : w9.cell? ⟨w.heap.size + 1, 1, none⟩ = some ((.slice g4 N c4)) := (hc _ _ (by (try simp) <;> omega)).trans (by go_simp)
  have z9_1 : ∀ j, w9.frozen? ⟨w.heap.size + 1, j, none⟩ = false := fun j => (hf _ _ (by (try simp) <;> omega)).trans (by go_simp)
  have c9_2_0 : w9.cell? ⟨w3.heap.size, 0, none⟩ = some (.int .i64 s) := (hc _ _ (by (try simp) <;> omega)).trans (by go_simp)
  have c9_2_1 : w9.cell? ⟨w3.heap.size, 1, none⟩ = some ((.slice gh N ch)) := (hc _ _ (by (try simp) <;> omega)).trans (by go_simp)
  have z9_2 : ∀ j, w9.frozen? ⟨w3.heap.size, j, none⟩ = false := fun j => (hf _ _ (by (try simp) <;> omega)).trans (by go_simp)
  clear hc hf hb9
  go_wp2_with fail
  refine (HW0.out _ HB9.out).mono ?_
  rintro en w10 ⟨gx, cx, rfl, hp, hb10⟩
  have HE1 := Kp.mk hp
  have HL := Kp.mk (HL.out.below hb10)
  clear hp
  have HB10 : Kp (Below w.heap.size w w10) := ⟨Below.trans (by repeat (first | refine Below.alloc ?_ (by have := HB9.out.size; (try simp) <;> omega) _ | refine bDrewN ?_ _ | refine Below.drew ?_ | exact HB9.out)) (hb10.mono (by have := HB9.out.size; (try simp) <;> omega))⟩
  have hz10_0 : w.heap.size < w10.heap.size := by have := hb10.size; (try simp at this); omega
  have hz10_1 : w.heap.size + 1 < w10.heap.size := by have := hb10.size; (try simp at this); omega
  have hz10_2 : w3.heap.size < w10.heap.size := by have := hb10.size; (try simp at this); omega
  obtain ⟨hc, hf⟩ := bcell hb10
  have c10_0_0 : w10.cell? ⟨w.heap.size, 0, none⟩ = some (.int .i64 s) := (hc _ _ (by (try simp) <;> omega)).trans (by go_simp)
  have c10_0_1 : w10.cell? ⟨w.heap.size, 1, none⟩ = some ((.slice g1 M c1)) := (hc _ _ (by (try simp) <;> omega)).trans (by go_simp)
  have c10_0_2 : w10.cell? ⟨w.heap.size, 2, none⟩ = some (.int .i64 s) := (hc _ _ (by (try simp) <;> omega)).trans (by go_simp)
  have c10_0_3 : w10.cell? ⟨w.heap.size, 3, none⟩ = some ((.slice g2 M c2)) := (hc _ _ (by (try simp) <;> omega)).trans (by go_simp)
  have c10_0_4 : w10.cell? ⟨w.heap.size, 4, none⟩ = some (.int .i64 s) := (hc _ _ (by (try simp) <;> omega)).trans (by go_simp)
  have c10_0_5 : w10.cell? ⟨w.heap.size, 5, none⟩ = some ((.slice g3 M c3)) := (hc _ _ (by (try simp) <;> omega)).trans (by go_simp)
  have z10_0 : ∀ j, w10.frozen? ⟨w.heap.size, j, none⟩ = false := fun j => (hf _ _ (by (try simp) <;> omega)).trans (by go_simp)
  have c10_1_0 : w10.cell? ⟨w.heap.size + 1, 0, none⟩ = some (.int .i64 s) := (hc _ _ (by (try simp) <;> omega)).trans (by go_simp)
  have c10_1_1 : w10.cell? ⟨w.heap.size + 1, 1, none⟩ = some ((.slice g4 N c4)) := (hc _ _ (by (try simp) <;> omega)).trans (by go_simp)
  have z10_1 : ∀ j, w10.frozen? ⟨w.heap.size + 1, j, none⟩ = false := fun j => (hf _ _ (by (try simp) <;> omega)).trans (by go_simp)
  have c10_2_0 : w10.cell? ⟨w3.heap.size, 0, none⟩ = some (.int .i64 s) := (hc _ _ (by (try simp) <;> omega)).trans (by go_simp)
  have c10_2_1 : w10.cell? ⟨w3.heap.size, 1, none⟩ = some ((.slice gh N ch)) := (hc _ _ (by (try simp) <;> omega)).trans (by go_simp)
  have z10_2 : ∀ j, w10.frozen? ⟨w3.heap.size, j, none⟩ = false := fun j => (hf _ _ (by (try simp) <;> omega)).trans (by go_simp)
  clear hc hf hb10
  go_wp2_with fail
  refine (HW1.out _ (HB10.out.alloc HB10.out.size _)).mono ?_
  rintro en w11 ⟨gy, cy, rfl, hp, hb11⟩
  have HE2 := Kp.mk hp
  have HE1 := Kp.mk ((HE1.out.below ((Below.refl _ _).alloc (Nat.le_refl _) _)).below hb11)
  have HL := Kp.mk ((HL.out.below ((Below.refl _ _).alloc (Nat.le_refl _) _)).below hb11)
  clear hp
  have HB11 : Kp (Below w.heap.size w w11) := ⟨Below.trans (by repeat (first | refine Below.alloc ?_ (by have := HB10.out.size; (try simp) <;> omega) _ | refine bDrewN ?_ _ | refine Below.drew ?_ | exact HB10.out)) (hb11.mono (by have := HB10.out.size; (try simp) <;> omega))⟩
  have hz11_0 : w.heap.size < w11.heap.size := by have := hb11.size; (try simp at this); omega
  have hz11_1 : w.heap.size + 1 < w11.heap.size := by have := hb11.size; (try simp at this); omega
  have hz11_2 : w3.heap.size < w11.heap.size := by have := hb11.size; (try simp at this); omega
  have hz11_3 : w10.heap.size < w11.heap.size := by have := hb11.size; (try simp at this); omega
  obtain ⟨hc, hf⟩ := bcell hb11
  have c11_0_0 : w11.cell? ⟨w.heap.size, 0, none⟩ = some (.int .i64 s) := (hc _ _ (by (try simp) <;> omega)).trans (by go_simp)
  have c11_0_1 : w11.cell? ⟨w.heap.size, 1, none⟩ = some ((.slice g1 M c1)) := (hc _ _ (by (try simp) <;> omega)).trans (by go_simp)
  have c11_0_2 : w11.cell? ⟨w.heap.size, 2, none⟩ = some (.int .i64 s) := (hc _ _ (by (try simp) <;> omega)).trans (by go_simp)
  have c11_0_3 : w11.cell? ⟨w.heap.size, 3, none⟩ = some ((.slice g2 M c2)) := (hc _ _ (by (try simp) <;> omega)).trans (by go_simp)
  have c11_0_4 : w11.cell? ⟨w.heap.size, 4, none⟩ = some (.int .i64 s) := (hc _ _ (by (try simp) <;> omega)).trans (by go_simp)
  have c11_0_5 : w11.cell? ⟨w.heap.size, 5, none⟩ = some ((.slice g3 M c3)) := (hc _ _ (by (try simp) <;> omega)).trans (by go_simp)
  have z11_0 : ∀ j, w11.frozen? ⟨w.heap.size, j, none⟩ = false := fun j => (hf _ _ (by (try simp) <;> omega)).trans (by go_simp)
  have c11_1_0 : w11.cell? ⟨w.heap.size + 1, 0, none⟩ = some (.int .i64 s) := (hc _ _ (by (try simp) <;> omega)).trans (by go_simp)
  have c11_1_1 : w11.cell? ⟨w.heap.size + 1, 1, none⟩ = some ((.slice g4 N c4)) := (hc _ _ (by (try simp) <;> omega)).trans (by go_simp)
  have z11_1 : ∀ j, w11.frozen? ⟨w.heap.size + 1, j, none⟩ = false := fun j => (hf _ _ (by (try simp) <;> omega)).trans (by go_simp)
  have c11_2_0 : w11.cell? ⟨w3.heap.size, 0, none⟩ = some (.int .i64 s) := (hc _ _ (by (try simp) <;> omega)).trans (by go_simp)
  have c11_2_1 : w11.cell? ⟨w3.heap.size, 1, none⟩ = some ((.slice gh N ch)) := (hc _ _ (by (try simp) <;> omega)).trans (by go_simp)
  have z11_2 : ∀ j, w11.frozen? ⟨w3.heap.size, j, none⟩ = false := fun j => (hf _ _ (by (try simp) <;> omega)).trans (by go_simp)
  have c11_3_0 : w11.cell? ⟨w10.heap.size, 0, none⟩ = some (.int .i64 s) := (hc _ _ (by (try simp) <;> omega)).trans (by go_simp)
  have c11_3_1 : w11.cell? ⟨w10.heap.size, 1, none⟩ = some ((.slice gx M cx)) := (hc _ _ (by (try simp) <;> omega)).trans (by go_simp)
  have z11_3 : ∀ j, w11.frozen? ⟨w10.heap.size, j, none⟩ = false := fun j => (hf _ _ (by (try simp) <;> omega)).trans (by go_simp)
  clear hc hf hb11
  go_wp2_with fail
  refine (HW2.out _ (HB11.out.alloc HB11.out.size _)).mono ?_
  rintro en w12 ⟨gz, cz, rfl, hp, hb12⟩
  have HE3 := Kp.mk hp
  have HE1 := Kp.mk ((HE1.out.below ((Below.refl _ _).alloc (Nat.le_refl _) _)).below hb12)
  have HE2 := Kp.mk ((HE2.out.below ((Below.refl _ _).alloc (Nat.le_refl _) _)).below hb12)
  have HL := Kp.mk ((HL.out.below ((Below.refl _ _).alloc (Nat.le_refl _) _)).below hb12)
  clear hp
  have HB12 : Kp (Below w.heap.size w w12) := ⟨Below.trans (by repeat (first | refine Below.alloc ?_ (by have := HB11.out.size; (try simp) <;> omega) _ | refine bDrewN ?_ _ | refine Below.drew ?_ | exact HB11.out)) (hb12.mono (by have := HB11.out.size; (try simp) <;> omega))⟩
  have hz12_0 : w.heap.size < w12.heap.size := by have := hb12.size; (try simp at this); omega
  have hz12_1 : w.heap.size + 1 < w12.heap.size := by have := hb12.size; (try simp at this); omega
  have hz12_2 : w3.heap.size < w12.heap.size := by have := hb12.size; (try simp at this); omega
  have hz12_3 : w10.heap.size < w12.heap.size := by have := hb12.size; (try simp at this); omega
  have hz12_4 : w11.heap.size < w12.heap.size := by have := hb12.size; (try simp at this); omega
  obtain ⟨hc, hf⟩ := bcell hb12
  have c12_0_0 : w12.cell? ⟨w.heap.size, 0, none⟩ = some (.int .i64 s) := (hc _ _ (by (try simp) <;> omega)).trans (by go_simp)
  have c12_0_1 : w12.cell? ⟨w.heap.size, 1, none⟩ = some ((.slice g1 M c1)) := (hc _ _ (by (try simp) <;> omega)).trans (by go_simp)
  have c12_0_2 : w12.cell? ⟨w.heap.size, 2, none⟩ = some (.int .i64 s) := (hc _ _ (by (try simp) <;> omega)).trans (by go_simp)
  have c12_0_3 : w12.cell? ⟨w.heap.size, 3, none⟩ = some ((.slice g2 M c2)) := (hc _ _ (by (try simp) <;> omega)).trans (by go_simp)
  have c12_0_4 : w12.cell? ⟨w.heap.size, 4, none⟩ = some (.int .i64 s) := (hc _ _ (by (try simp) <;> omega)).trans (by go_simp)
  have c12_0_5 : w12.cell? ⟨w.heap.size, 5, none⟩ = some ((.slice g3 M c3)) := (hc _ _ (by (try simp) <;> omega)).trans (by go_simp)
  have z12_0 : ∀ j, w12.frozen? ⟨w.heap.size, j, none⟩ = false := fun j => (hf _ _ (by (try simp) <;> omega)).trans (by go_simp)
  have c12_1_0 : w12.cell? ⟨w.heap.size + 1, 0, none⟩ = some (.int .i64 s) := (hc _ _ (by (try simp) <;> omega)).trans (by go_simp)
  have c12_1_1 : w12.cell? ⟨w.heap.size + 1, 1, none⟩ = some ((.slice g4 N c4)) := (hc _ _ (by (try simp) <;> omega)).trans (by go_simp)
  have z12_1 : ∀ j, w12.frozen? ⟨w.heap.size + 1, j, none⟩ = false := fun j => (hf _ _ (by (try simp) <;> omega)).trans (by go_simp)
  have c12_2_0 : w12.cell? ⟨w3.heap.size, 0, none⟩ = some (.int .i64 s) := (hc _ _ (by (try simp) <;> omega)).trans (by go_simp)
  have c12_2_1 : w12.cell? ⟨w3.heap.size, 1, none⟩ = some ((.slice gh N ch)) := (hc _ _ (by (try simp) <;> omega)).trans (by go_simp)
  have z12_2 : ∀ j, w12.frozen? ⟨w3.heap.size, j, none⟩ = false := fun j => (hf _ _ (by (try simp) <;> omega)).trans (by go_simp)
  have c12_3_0 : w12.cell? ⟨w10.heap.size, 0, none⟩ = some (.int .i64 s) := (hc _ _ (by (try simp) <;> omega)).trans (by go_simp)
  have c12_3_1 : w12.cell? ⟨w10.heap.size, 1, none⟩ = some ((.slice gx M cx)) := (hc _ _ (by (try simp) <;> omega)).trans (by go_simp)
  have z12_3 : ∀ j, w12.frozen? ⟨w10.heap.size, j, none⟩ = false := fun j => (hf _ _ (by (try simp) <;> omega)).trans (by go_simp)
  have c12_4_0 : w12.cell? ⟨w11.heap.size, 0, none⟩ = some (.int .i64 s) := (hc _ _ (by (try simp) <;> omega)).trans (by go_simp)
  have c12_4_1 : w12.cell? ⟨w11.heap.size, 1, none⟩ = some ((.slice gy M cy)) := (hc _ _ (by (try simp) <;> omega)).trans (by go_simp)
  have z12_4 : ∀ j, w12.frozen? ⟨w11.heap.size, j, none⟩ = false := fun j => (hf _ _ (by (try simp) <;> omega)).trans (by go_simp)
  clear hc hf hb12
  obtain ⟨b1, hd1⟩ : ∃ b, darkB E1 A1 = b := ⟨_, rfl⟩
  obtain ⟨b2, hd2⟩ : ∃ b, darkB E2 A2 = b := ⟨_, rfl⟩
  obtain ⟨b3, hd3⟩ : ∃ b, darkB E3 A3 = b := ⟨_, rfl⟩
  have hr := HR.out
  rw [hd1, hd2, hd3] at hr
  subst hr
  have HDD := Lib.hid (And.intro hd1 (And.intro hd2 hd3))
  clear hd1 hd2 hd3 HR
  go_wp2_with fail
  obtain ⟨w13, hw13⟩ : ∃ w13, w12.alloc (.cells #[.int .i64 s, .slice gz M cz] 25) = w13 := ⟨_, rfl⟩
  rw [hw13]
  obtain ⟨hb13, e0, e1⟩ := view_start hw13
  have HE1 := Kp.mk (HE1.out.below hb13)
  have HE2 := Kp.mk (HE2.out.below hb13)
  have HE3 := Kp.mk (HE3.out.below hb13)
  have HL := Kp.mk (HL.out.below hb13)
  clear hw13
  have HB13 : Kp (Below w.heap.size w w13) := ⟨Below.trans (by repeat (first | refine Below.alloc ?_ (by have := HB12.out.size; (try simp) <;> omega) _ | refine bDrewN ?_ _ | refine Below.drew ?_ | exact HB12.out)) (hb13.mono (by have := HB12.out.size; (try simp) <;> omega))⟩
  have hz13_0 : w.heap.size < w13.heap.size := by have := hb13.size; (try simp at this); omega
  have hz13_1 : w.heap.size + 1 < w13.heap.size := by have := hb13.size; (try simp at this); omega
  have hz13_2 : w3.heap.size < w13.heap.size := by have := hb13.size; (try simp at this); omega
  have hz13_3 : w10.heap.size < w13.heap.size := by have := hb13.size; (try simp at this); omega
  have hz13_4 : w11.heap.size < w13.heap.size := by have := hb13.size; (try simp at this); omega
  obtain ⟨hc, hf⟩ := bcell hb13
  have c13_0_0 : w13.cell? ⟨w.heap.size, 0, none⟩ = some (.int .i64 s) := (hc _ _ (by (try simp) <;> omega)).trans (by go_simp)
  have c13_0_1 : w13.cell? ⟨w.heap.size, 1, none⟩ = some ((.slice g1 M c1)) := (hc _ _ (by (try simp) <;> omega)).trans (by go_simp)
  have c13_0_2 : w13.cell? ⟨w.heap.size, 2, none⟩ = some (.int .i64 s) := (hc _ _ (by (try simp) <;> omega)).trans (by go_simp)
  have c13_0_3 : w13.cell? ⟨w.heap.size, 3, none⟩ = some ((.slice g2 M c2)) := (hc _ _ (by (try simp) <;> omega)).trans (by go_simp)
  have c13_0_4 : w13.cell? ⟨w.heap.size, 4, none⟩ = some (.int .i64 s) := (hc _ _ (by (try simp) <;> omega)).trans (by go_simp)
  have c13_0_5 : w13.cell? ⟨w.heap.size, 5, none⟩ = some ((.slice g3 M c3)) := (hc _ _ (by (try simp) <;> omega)).trans (by go_simp)
  have z13_0 : ∀ j, w13.frozen? ⟨w.heap.size, j, none⟩ = false := fun j => (hf _ _ (by (try simp) <;> omega)).trans (by go_simp)
  have c13_1_0 : w13.cell? ⟨w.heap.size + 1, 0, none⟩ = some (.int .i64 s) := (hc _ _ (by (try simp) <;> omega)).trans (by go_simp)
  have c13_1_1 : w13.cell? ⟨w.heap.size + 1, 1, none⟩ = some ((.slice g4 N c4)) := (hc _ _ (by (try simp) <;> omega)).trans (by go_simp)
  have z13_1 : ∀ j, w13.frozen? ⟨w.heap.size + 1, j, none⟩ = false := fun j => (hf _ _ (by (try simp) <;> omega)).trans (by go_simp)
  have c13_2_0 : w13.cell? ⟨w3.heap.size, 0, none⟩ = some (.int .i64 s) := (hc _ _ (by (try simp) <;> omega)).trans (by go_simp)
  have c13_2_1 : w13.cell? ⟨w3.heap.size, 1, none⟩ = some ((.slice gh N ch)) := (hc _ _ (by (try simp) <;> omega)).trans (by go_simp)
  have z13_2 : ∀ j, w13.frozen? ⟨w3.heap.size, j, none⟩ = false := fun j => (hf _ _ (by (try simp) <;> omega)).trans (by go_simp)
  have c13_3_0 : w13.cell? ⟨w10.heap.size, 0, none⟩ = some (.int .i64 s) := (hc _ _ (by (try simp) <;> omega)).trans (by go_simp)
  have c13_3_1 : w13.cell? ⟨w10.heap.size, 1, none⟩ = some ((.slice gx M cx)) := (hc _ _ (by (try simp) <;> omega)).trans (by go_simp)
  have z13_3 : ∀ j, w13.frozen? ⟨w10.heap.size, j, none⟩ = false := fun j => (hf _ _ (by (try simp) <;> omega)).trans (by go_simp)
  have c13_4_0 : w13.cell? ⟨w11.heap.size, 0, none⟩ = some (.int .i64 s) := (hc _ _ (by (try simp) <;> omega)).trans (by go_simp)
  have c13_4_1 : w13.cell? ⟨w11.heap.size, 1, none⟩ = some ((.slice gy M cy)) := (hc _ _ (by (try simp) <;> omega)).trans (by go_simp)
  have z13_4 : ∀ j, w13.frozen? ⟨w11.heap.size, j, none⟩ = false := fun j => (hf _ _ (by (try simp) <;> omega)).trans (by go_simp)
  clear hc hf hb13
  have r13_0_0 := fun d os => cell_regrown c13_0_0 d os
  have r13_0_1 := fun d os => cell_regrown c13_0_1 d os
  have r13_0_2 := fun d os => cell_regrown c13_0_2 d os
  have r13_0_3 := fun d os => cell_regrown c13_0_3 d os
  have r13_0_4 := fun d os => cell_regrown c13_0_4 d os
  have r13_0_5 := fun d os => cell_regrown c13_0_5 d os
  have r13_1_0 := fun d os => cell_regrown c13_1_0 d os
  have r13_1_1 := fun d os => cell_regrown c13_1_1 d os
  have r13_2_0 := fun d os => cell_regrown c13_2_0 d os
  have r13_2_1 := fun d os => cell_regrown c13_2_1 d os
  have r13_3_0 := fun d os => cell_regrown c13_3_0 d os
  have r13_3_1 := fun d os => cell_regrown c13_3_1 d os
  have r13_4_0 := fun d os => cell_regrown c13_4_0 d os
  have r13_4_1 := fun d os => cell_regrown c13_4_1 d os
  have re0 := fun d os => cell_regrown e0 d os
  have re1 := fun d os => cell_regrown e1 d os
  have HCL : Kp (∀ d os, Below w13.heap.size w13 (grow (redrawn w13 d) os) ∧ Below w.heap.size w (grow (redrawn w13 d) os)) := ⟨fun d os => ⟨below_regrown w13 d os, HB13.out.trans ((below_regrown w13 d os).mono HB13.out.size)⟩⟩
  have K1 : Kp (∀ d os, Calls Try.prog 44 #[.agg #[.int .i64 s, .slice g4 N c4], .agg #[.int .i64 s, .slice gh N ch]] (grow (redrawn w13 d) os) fun e w' => e = .returned (.bool (b1 && (b2 && b3))) ∧ Below (grow (redrawn w13 d) os).heap.size (grow (redrawn w13 d) os) w') := ⟨fun d os => HWI.out _ _ _ (HXX.out _ (HCL.out d os).2) (HL.out.below (HCL.out d os).1)⟩
  have K2 : Kp (∀ d os, Calls Try.prog 63 #[.agg #[.int .i64 s, .slice gx M cx], .agg #[.int .i64 s, .slice g1 M c1]] (grow (redrawn w13 d) os) fun e w' => e = .returned (.bool b1) ∧ Below (grow (redrawn w13 d) os).heap.size (grow (redrawn w13 d) os) w') := ⟨fun d os => by
    have h := HD.out (grow (redrawn w13 d) os) E1 A1 gx g1 cx c1 (HE1.out.below (HCL.out d os).1) (HX1.out _ (HCL.out d os).2) HEL.out.1 HLL.out.1
    rwa [HDD.out.1] at h⟩
  have K3 : Kp (∀ d os, Calls Try.prog 63 #[.agg #[.int .i64 s, .slice gy M cy], .agg #[.int .i64 s, .slice g2 M c2]] (grow (redrawn w13 d) os) fun e w' => e = .returned (.bool b2) ∧ Below (grow (redrawn w13 d) os).heap.size (grow (redrawn w13 d) os) w') := ⟨fun d os => by
    have h := HD.out (grow (redrawn w13 d) os) E2 A2 gy g2 cy c2 (HE2.out.below (HCL.out d os).1) (HX2.out _ (HCL.out d os).2) HEL.out.2.1 HLL.out.2.1
    rwa [HDD.out.2.1] at h⟩
  have K4 : Kp (∀ d os, Calls Try.prog 63 #[.agg #[.int .i64 s, .slice gz M cz], .agg #[.int .i64 s, .slice g3 M c3]] (grow (redrawn w13 d) os) fun e w' => e = .returned (.bool b3) ∧ Below (grow (redrawn w13 d) os).heap.size (grow (redrawn w13 d) os) w') := ⟨fun d os => by
    have h := HD.out (grow (redrawn w13 d) os) E3 A3 gz g3 cz c3 (HE3.out.below (HCL.out d os).1) (HX3.out _ (HCL.out d os).2) HEL.out.2.2 HLL.out.2.2.1
    rwa [HDD.out.2.2] at h⟩
  have K5 : Kp (∀ d os, Calls Try.prog 15 #[] (grow (redrawn w13 d) os) fun e w' => e = .returned (.bool true) ∧ Below (grow (redrawn w13 d) os).heap.size (grow (redrawn w13 d) os) w') := ⟨fun d os => awake_any _⟩
  clear HDD HE1 HE2 HE3 HL HW0 HW1 HW2 HV0 HV1 HV2 H3 HLG HH c13_0_0 c13_0_1 c13_0_2 c13_0_3 c13_0_4 c13_0_5 c13_1_0 c13_1_1 c13_2_0 c13_2_1 c13_3_0 c13_3_1 c13_4_0 c13_4_1 z13_0 z13_1 z13_2 z13_3 z13_4 hz13_0 hz13_1 hz13_2 hz13_3 hz13_4 e0 e1
  cases b1 with
  | false =>
    have HTRU := Kp.mk True.intro
    clear HTRU
    refine wp_region_quiet_below (by kernel_rfl) (by kernel_rfl) ?_
    repeat (any_goals (first | go_big_quiet_step (first | (with_reducible exact Calls.regrown_of (K1.out _ _)) | (with_reducible exact Calls.regrown_of (K2.out _ _)) | (with_reducible exact Calls.regrown_of (K3.out _ _)) | (with_reducible exact Calls.regrown_of (K4.out _ _)) | (with_reducible exact Calls.regrown_of (K5.out _ _))) | quiet_step (first | (with_reducible exact Calls.regrown_of (K1.out _ _)) | (with_reducible exact Calls.regrown_of (K2.out _ _)) | (with_reducible exact Calls.regrown_of (K3.out _ _)) | (with_reducible exact Calls.regrown_of (K4.out _ _)) | (with_reducible exact Calls.regrown_of (K5.out _ _)))))
    refine wpQuiet_nil ?_
    intro _ hqw
    obtain ⟨⟨dq, osq⟩, hqv⟩ := hqw
    subst hqv
    have HBQ := Kp.mk (HCL.out dq osq).2
    clear K1 K2 K3 K4 K5 HCL
    go_wp2
    go_ret
    exact ⟨rfl, HBQ.out⟩
  | true =>
    cases b2 with
    | false =>
      have HTRU := Kp.mk True.intro
      clear HTRU
      refine wp_region_quiet_below (by kernel_rfl) (by kernel_rfl) ?_
      repeat (any_goals (first | go_big_quiet_step (first | (with_reducible exact Calls.regrown_of (K1.out _ _)) | (with_reducible exact Calls.regrown_of (K2.out _ _)) | (with_reducible exact Calls.regrown_of (K3.out _ _)) | (with_reducible exact Calls.regrown_of (K4.out _ _)) | (with_reducible exact Calls.regrown_of (K5.out _ _))) | quiet_step (first | (with_reducible exact Calls.regrown_of (K1.out _ _)) | (with_reducible exact Calls.regrown_of (K2.out _ _)) | (with_reducible exact Calls.regrown_of (K3.out _ _)) | (with_reducible exact Calls.regrown_of (K4.out _ _)) | (with_reducible exact Calls.regrown_of (K5.out _ _)))))
      refine wpQuiet_nil ?_
      intro _ hqw
      obtain ⟨⟨dq, osq⟩, hqv⟩ := hqw
      subst hqv
      have HBQ := Kp.mk (HCL.out dq osq).2
      clear K1 K2 K3 K4 K5 HCL
      go_wp2
      go_ret
      exact ⟨rfl, HBQ.out⟩
    | true =>
      cases b3 with
      | false =>
        have HTRU := Kp.mk True.intro
        clear HTRU
        refine wp_region_quiet_below (by kernel_rfl) (by kernel_rfl) ?_
        repeat (any_goals (first | go_big_quiet_step (first | (with_reducible exact Calls.regrown_of (K1.out _ _)) | (with_reducible exact Calls.regrown_of (K2.out _ _)) | (with_reducible exact Calls.regrown_of (K3.out _ _)) | (with_reducible exact Calls.regrown_of (K4.out _ _)) | (with_reducible exact Calls.regrown_of (K5.out _ _))) | quiet_step (first | (with_reducible exact Calls.regrown_of (K1.out _ _)) | (with_reducible exact Calls.regrown_of (K2.out _ _)) | (with_reducible exact Calls.regrown_of (K3.out _ _)) | (with_reducible exact Calls.regrown_of (K4.out _ _)) | (with_reducible exact Calls.regrown_of (K5.out _ _)))))
        refine wpQuiet_nil ?_
        intro _ hqw
        obtain ⟨⟨dq, osq⟩, hqv⟩ := hqw
        subst hqv
        have HBQ := Kp.mk (HCL.out dq osq).2
        clear K1 K2 K3 K4 K5 HCL
        go_wp2
        go_ret
        exact ⟨rfl, HBQ.out⟩
      | true =>
        have HTRU := Kp.mk True.intro
        clear HTRU
        refine wp_region_quiet_below (by kernel_rfl) (by kernel_rfl) ?_
        repeat (any_goals (first | go_big_quiet_step (first | (with_reducible exact Calls.regrown_of (K1.out _ _)) | (with_reducible exact Calls.regrown_of (K2.out _ _)) | (with_reducible exact Calls.regrown_of (K3.out _ _)) | (with_reducible exact Calls.regrown_of (K4.out _ _)) | (with_reducible exact Calls.regrown_of (K5.out _ _))) | quiet_step (first | (with_reducible exact Calls.regrown_of (K1.out _ _)) | (with_reducible exact Calls.regrown_of (K2.out _ _)) | (with_reducible exact Calls.regrown_of (K3.out _ _)) | (with_reducible exact Calls.regrown_of (K4.out _ _)) | (with_reducible exact Calls.regrown_of (K5.out _ _)))))
        refine wpQuiet_nil ?_
        intro _ hqw
        obtain ⟨⟨dq, osq⟩, hqv⟩ := hqw
        subst hqv
        have HBQ := Kp.mk (HCL.out dq osq).2
        clear K1 K2 K3 K4 K5 HCL
        go_wp2
        go_ret
        exact ⟨rfl, HBQ.out⟩

end Go.Proofs.Ytdghgilnhganmaa.Cv
