/-
  THE WALK of the law BathStrengths.
-/
import Derived.Test.YtopbbghjmdhplaaBtAwake
import Derived.Test.YtopbbghjmdhplaaBtStg
import Derived.Test.YtopbbghjmdhplaaBtRWater
namespace Go.Proofs.Ytopbbghjmdhplaa.Bt
open Go Go.RowKit

theorem lawStr_any (x y z u v r n d : Int) (w : World) : Calls Try.prog 8 #[.agg #[.int .i64 x, .int .i64 y, .int .i64 z], .agg #[.int .i64 u, .int .i64 v, .int .i64 r], .agg #[.int .i64 n, .int .i64 d]] w (Ends w) := by
  go_enter Try.func8, Try.ntmps8
  go_wp2_with fail
  refine (Strength_any _ _ _ _).mono ?_
  rintro e w1 ⟨rfl, hb1⟩
  have HB1 : Kp (Below w.heap.size w w1) := ⟨Below.trans (by repeat (first | refine Below.alloc ?_ (by (try simp) <;> omega) _ | refine bDrewN ?_ _ | refine Below.drew ?_ | exact Below.refl _ _)) (hb1.mono (by (try simp) <;> omega))⟩
  have hz1_0 : w.heap.size < w1.heap.size := by have := hb1.size; (try simp at this); omega
  have hz1_1 : w.heap.size + 1 < w1.heap.size := by have := hb1.size; (try simp at this); omega
  have hz1_2 : w.heap.size + 1 + 1 < w1.heap.size := by have := hb1.size; (try simp at this); omega
  obtain ⟨hc, hf⟩ := bcell hb1
  have c1_0_0 : w1.cell? ⟨w.heap.size, 0, none⟩ = some (.int .i64 x) := (hc _ _ (by (try simp) <;> omega)).trans (by go_simp)
  have c1_0_1 : w1.cell? ⟨w.heap.size, 1, none⟩ = some (.int .i64 y) := (hc _ _ (by (try simp) <;> omega)).trans (by go_simp)
  have c1_0_2 : w1.cell? ⟨w.heap.size, 2, none⟩ = some (.int .i64 z) := (hc _ _ (by (try simp) <;> omega)).trans (by go_simp)
  have z1_0 : ∀ j, w1.frozen? ⟨w.heap.size, j, none⟩ = false := fun j => (hf _ _ (by (try simp) <;> omega)).trans (by go_simp)
  have c1_1_0 : w1.cell? ⟨w.heap.size + 1, 0, none⟩ = some (.int .i64 u) := (hc _ _ (by (try simp) <;> omega)).trans (by go_simp)
  have c1_1_1 : w1.cell? ⟨w.heap.size + 1, 1, none⟩ = some (.int .i64 v) := (hc _ _ (by (try simp) <;> omega)).trans (by go_simp)
  have c1_1_2 : w1.cell? ⟨w.heap.size + 1, 2, none⟩ = some (.int .i64 r) := (hc _ _ (by (try simp) <;> omega)).trans (by go_simp)
  have z1_1 : ∀ j, w1.frozen? ⟨w.heap.size + 1, j, none⟩ = false := fun j => (hf _ _ (by (try simp) <;> omega)).trans (by go_simp)
  have c1_2_0 : w1.cell? ⟨w.heap.size + 1 + 1, 0, none⟩ = some (.int .i64 n) := (hc _ _ (by (try simp) <;> omega)).trans (by go_simp)
  have c1_2_1 : w1.cell? ⟨w.heap.size + 1 + 1, 1, none⟩ = some (.int .i64 d) := (hc _ _ (by (try simp) <;> omega)).trans (by go_simp)
  have z1_2 : ∀ j, w1.frozen? ⟨w.heap.size + 1 + 1, j, none⟩ = false := fun j => (hf _ _ (by (try simp) <;> omega)).trans (by go_simp)
  clear hc hf hb1
  go_wp2_with fail
  refine (rStrength_any _ _ _ _).mono ?_
  rintro e w2 ⟨rfl, hb2⟩
  have HB2 : Kp (Below w.heap.size w w2) := ⟨Below.trans (by repeat (first | refine Below.alloc ?_ (by have := HB1.out.size; (try simp) <;> omega) _ | refine bDrewN ?_ _ | refine Below.drew ?_ | exact HB1.out)) (hb2.mono (by have := HB1.out.size; (try simp) <;> omega))⟩
  have hz2_0 : w.heap.size < w2.heap.size := by have := hb2.size; (try simp at this); omega
  have hz2_1 : w.heap.size + 1 < w2.heap.size := by have := hb2.size; (try simp at this); omega
  have hz2_2 : w.heap.size + 1 + 1 < w2.heap.size := by have := hb2.size; (try simp at this); omega
  have hz2_3 : w1.heap.size < w2.heap.size := by have := hb2.size; (try simp at this); omega
  obtain ⟨hc, hf⟩ := bcell hb2
  have c2_0_0 : w2.cell? ⟨w.heap.size, 0, none⟩ = some (.int .i64 x) := (hc _ _ (by (try simp) <;> omega)).trans (by go_simp)
  have c2_0_1 : w2.cell? ⟨w.heap.size, 1, none⟩ = some (.int .i64 y) := (hc _ _ (by (try simp) <;> omega)).trans (by go_simp)
  have c2_0_2 : w2.cell? ⟨w.heap.size, 2, none⟩ = some (.int .i64 z) := (hc _ _ (by (try simp) <;> omega)).trans (by go_simp)
  have z2_0 : ∀ j, w2.frozen? ⟨w.heap.size, j, none⟩ = false := fun j => (hf _ _ (by (try simp) <;> omega)).trans (by go_simp)
  have c2_1_0 : w2.cell? ⟨w.heap.size + 1, 0, none⟩ = some (.int .i64 u) := (hc _ _ (by (try simp) <;> omega)).trans (by go_simp)
  have c2_1_1 : w2.cell? ⟨w.heap.size + 1, 1, none⟩ = some (.int .i64 v) := (hc _ _ (by (try simp) <;> omega)).trans (by go_simp)
  have c2_1_2 : w2.cell? ⟨w.heap.size + 1, 2, none⟩ = some (.int .i64 r) := (hc _ _ (by (try simp) <;> omega)).trans (by go_simp)
  have z2_1 : ∀ j, w2.frozen? ⟨w.heap.size + 1, j, none⟩ = false := fun j => (hf _ _ (by (try simp) <;> omega)).trans (by go_simp)
  have c2_2_0 : w2.cell? ⟨w.heap.size + 1 + 1, 0, none⟩ = some (.int .i64 n) := (hc _ _ (by (try simp) <;> omega)).trans (by go_simp)
  have c2_2_1 : w2.cell? ⟨w.heap.size + 1 + 1, 1, none⟩ = some (.int .i64 d) := (hc _ _ (by (try simp) <;> omega)).trans (by go_simp)
  have z2_2 : ∀ j, w2.frozen? ⟨w.heap.size + 1 + 1, j, none⟩ = false := fun j => (hf _ _ (by (try simp) <;> omega)).trans (by go_simp)
  have c2_3_0 : w2.cell? ⟨w1.heap.size, 0, none⟩ = some (.int .i64 (strN ⟨x, y, z⟩)) := (hc _ _ (by (try simp) <;> omega)).trans (by go_simp)
  have c2_3_1 : w2.cell? ⟨w1.heap.size, 1, none⟩ = some (.int .i64 (strD ⟨x, y, z⟩)) := (hc _ _ (by (try simp) <;> omega)).trans (by go_simp)
  have z2_3 : ∀ j, w2.frozen? ⟨w1.heap.size, j, none⟩ = false := fun j => (hf _ _ (by (try simp) <;> omega)).trans (by go_simp)
  clear hc hf hb2
  go_wp2_with fail
  refine (Stronger_any _ _ _ _ _ _ _).mono ?_
  rintro e w3 ⟨rfl, hb3⟩
  have HB3 : Kp (Below w.heap.size w w3) := ⟨Below.trans (by repeat (first | refine Below.alloc ?_ (by have := HB2.out.size; (try simp) <;> omega) _ | refine bDrewN ?_ _ | refine Below.drew ?_ | exact HB2.out)) (hb3.mono (by have := HB2.out.size; (try simp) <;> omega))⟩
  have hz3_0 : w.heap.size < w3.heap.size := by have := hb3.size; (try simp at this); omega
  have hz3_1 : w.heap.size + 1 < w3.heap.size := by have := hb3.size; (try simp at this); omega
  have hz3_2 : w.heap.size + 1 + 1 < w3.heap.size := by have := hb3.size; (try simp at this); omega
  have hz3_3 : w1.heap.size < w3.heap.size := by have := hb3.size; (try simp at this); omega
  have hz3_4 : w2.heap.size < w3.heap.size := by have := hb3.size; (try simp at this); omega
  obtain ⟨hc, hf⟩ := bcell hb3
  have c3_0_0 : w3.cell? ⟨w.heap.size, 0, none⟩ = some (.int .i64 x) := (hc _ _ (by (try simp) <;> omega)).trans (by go_simp)
  have c3_0_1 : w3.cell? ⟨w.heap.size, 1, none⟩ = some (.int .i64 y) := (hc _ _ (by (try simp) <;> omega)).trans (by go_simp)
  have c3_0_2 : w3.cell? ⟨w.heap.size, 2, none⟩ = some (.int .i64 z) := (hc _ _ (by (try simp) <;> omega)).trans (by go_simp)
  have z3_0 : ∀ j, w3.frozen? ⟨w.heap.size, j, none⟩ = false := fun j => (hf _ _ (by (try simp) <;> omega)).trans (by go_simp)
  have c3_1_0 : w3.cell? ⟨w.heap.size + 1, 0, none⟩ = some (.int .i64 u) := (hc _ _ (by (try simp) <;> omega)).trans (by go_simp)
  have c3_1_1 : w3.cell? ⟨w.heap.size + 1, 1, none⟩ = some (.int .i64 v) := (hc _ _ (by (try simp) <;> omega)).trans (by go_simp)
  have c3_1_2 : w3.cell? ⟨w.heap.size + 1, 2, none⟩ = some (.int .i64 r) := (hc _ _ (by (try simp) <;> omega)).trans (by go_simp)
  have z3_1 : ∀ j, w3.frozen? ⟨w.heap.size + 1, j, none⟩ = false := fun j => (hf _ _ (by (try simp) <;> omega)).trans (by go_simp)
  have c3_2_0 : w3.cell? ⟨w.heap.size + 1 + 1, 0, none⟩ = some (.int .i64 n) := (hc _ _ (by (try simp) <;> omega)).trans (by go_simp)
  have c3_2_1 : w3.cell? ⟨w.heap.size + 1 + 1, 1, none⟩ = some (.int .i64 d) := (hc _ _ (by (try simp) <;> omega)).trans (by go_simp)
  have z3_2 : ∀ j, w3.frozen? ⟨w.heap.size + 1 + 1, j, none⟩ = false := fun j => (hf _ _ (by (try simp) <;> omega)).trans (by go_simp)
  have c3_3_0 : w3.cell? ⟨w1.heap.size, 0, none⟩ = some (.int .i64 (strN ⟨x, y, z⟩)) := (hc _ _ (by (try simp) <;> omega)).trans (by go_simp)
  have c3_3_1 : w3.cell? ⟨w1.heap.size, 1, none⟩ = some (.int .i64 (strD ⟨x, y, z⟩)) := (hc _ _ (by (try simp) <;> omega)).trans (by go_simp)
  have z3_3 : ∀ j, w3.frozen? ⟨w1.heap.size, j, none⟩ = false := fun j => (hf _ _ (by (try simp) <;> omega)).trans (by go_simp)
  have c3_4_0 : w3.cell? ⟨w2.heap.size, 0, none⟩ = some (.int .i64 (strN ⟨x, y, z⟩)) := (hc _ _ (by (try simp) <;> omega)).trans (by go_simp)
  have c3_4_1 : w3.cell? ⟨w2.heap.size, 1, none⟩ = some (.int .i64 (strD ⟨x, y, z⟩)) := (hc _ _ (by (try simp) <;> omega)).trans (by go_simp)
  have z3_4 : ∀ j, w3.frozen? ⟨w2.heap.size, j, none⟩ = false := fun j => (hf _ _ (by (try simp) <;> omega)).trans (by go_simp)
  clear hc hf hb3
  go_wp2_with fail
  refine (rStronger_any _ _ _ _ _ _ _).mono ?_
  rintro e w4 ⟨rfl, hb4⟩
  have HB4 : Kp (Below w.heap.size w w4) := ⟨Below.trans (by repeat (first | refine Below.alloc ?_ (by have := HB3.out.size; (try simp) <;> omega) _ | refine bDrewN ?_ _ | refine Below.drew ?_ | exact HB3.out)) (hb4.mono (by have := HB3.out.size; (try simp) <;> omega))⟩
  have hz4_0 : w.heap.size < w4.heap.size := by have := hb4.size; (try simp at this); omega
  have hz4_1 : w.heap.size + 1 < w4.heap.size := by have := hb4.size; (try simp at this); omega
  have hz4_2 : w.heap.size + 1 + 1 < w4.heap.size := by have := hb4.size; (try simp at this); omega
  have hz4_3 : w1.heap.size < w4.heap.size := by have := hb4.size; (try simp at this); omega
  have hz4_4 : w2.heap.size < w4.heap.size := by have := hb4.size; (try simp at this); omega
  obtain ⟨hc, hf⟩ := bcell hb4
  have c4_0_0 : w4.cell? ⟨w.heap.size, 0, none⟩ = some (.int .i64 x) := (hc _ _ (by (try simp) <;> omega)).trans (by go_simp)
  have c4_0_1 : w4.cell? ⟨w.heap.size, 1, none⟩ = some (.int .i64 y) := (hc _ _ (by (try simp) <;> omega)).trans (by go_simp)
  have c4_0_2 : w4.cell? ⟨w.heap.size, 2, none⟩ = some (.int .i64 z) := (hc _ _ (by (try simp) <;> omega)).trans (by go_simp)
  have z4_0 : ∀ j, w4.frozen? ⟨w.heap.size, j, none⟩ = false := fun j => (hf _ _ (by (try simp) <;> omega)).trans (by go_simp)
  have c4_1_0 : w4.cell? ⟨w.heap.size + 1, 0, none⟩ = some (.int .i64 u) := (hc _ _ (by (try simp) <;> omega)).trans (by go_simp)
  have c4_1_1 : w4.cell? ⟨w.heap.size + 1, 1, none⟩ = some (.int .i64 v) := (hc _ _ (by (try simp) <;> omega)).trans (by go_simp)
  have c4_1_2 : w4.cell? ⟨w.heap.size + 1, 2, none⟩ = some (.int .i64 r) := (hc _ _ (by (try simp) <;> omega)).trans (by go_simp)
  have z4_1 : ∀ j, w4.frozen? ⟨w.heap.size + 1, j, none⟩ = false := fun j => (hf _ _ (by (try simp) <;> omega)).trans (by go_simp)
  have c4_2_0 : w4.cell? ⟨w.heap.size + 1 + 1, 0, none⟩ = some (.int .i64 n) := (hc _ _ (by (try simp) <;> omega)).trans (by go_simp)
  have c4_2_1 : w4.cell? ⟨w.heap.size + 1 + 1, 1, none⟩ = some (.int .i64 d) := (hc _ _ (by (try simp) <;> omega)).trans (by go_simp)
  have z4_2 : ∀ j, w4.frozen? ⟨w.heap.size + 1 + 1, j, none⟩ = false := fun j => (hf _ _ (by (try simp) <;> omega)).trans (by go_simp)
  have c4_3_0 : w4.cell? ⟨w1.heap.size, 0, none⟩ = some (.int .i64 (strN ⟨x, y, z⟩)) := (hc _ _ (by (try simp) <;> omega)).trans (by go_simp)
  have c4_3_1 : w4.cell? ⟨w1.heap.size, 1, none⟩ = some (.int .i64 (strD ⟨x, y, z⟩)) := (hc _ _ (by (try simp) <;> omega)).trans (by go_simp)
  have z4_3 : ∀ j, w4.frozen? ⟨w1.heap.size, j, none⟩ = false := fun j => (hf _ _ (by (try simp) <;> omega)).trans (by go_simp)
  have c4_4_0 : w4.cell? ⟨w2.heap.size, 0, none⟩ = some (.int .i64 (strN ⟨x, y, z⟩)) := (hc _ _ (by (try simp) <;> omega)).trans (by go_simp)
  have c4_4_1 : w4.cell? ⟨w2.heap.size, 1, none⟩ = some (.int .i64 (strD ⟨x, y, z⟩)) := (hc _ _ (by (try simp) <;> omega)).trans (by go_simp)
  have z4_4 : ∀ j, w4.frozen? ⟨w2.heap.size, j, none⟩ = false := fun j => (hf _ _ (by (try simp) <;> omega)).trans (by go_simp)
  clear hc hf hb4
  go_wp2_with fail
  refine (Water_any _ _ _ _ _ _).mono ?_
  rintro e w5 ⟨rfl, hb5⟩
  have HB5 : Kp (Below w.heap.size w w5) := ⟨Below.trans (by repeat (first | refine Below.alloc ?_ (by have := HB4.out.size; (try simp) <;> omega) _ | refine bDrewN ?_ _ | refine Below.drew ?_ | exact HB4.out)) (hb5.mono (by have := HB4.out.size; (try simp) <;> omega))⟩
  have hz5_0 : w.heap.size < w5.heap.size := by have := hb5.size; (try simp at this); omega
  have hz5_1 : w.heap.size + 1 < w5.heap.size := by have := hb5.size; (try simp at this); omega
  have hz5_2 : w.heap.size + 1 + 1 < w5.heap.size := by have := hb5.size; (try simp at this); omega
  have hz5_3 : w1.heap.size < w5.heap.size := by have := hb5.size; (try simp at this); omega
  have hz5_4 : w2.heap.size < w5.heap.size := by have := hb5.size; (try simp at this); omega
  obtain ⟨hc, hf⟩ := bcell hb5
  have c5_0_0 : w5.cell? ⟨w.heap.size, 0, none⟩ = some (.int .i64 x) := (hc _ _ (by (try simp) <;> omega)).trans (by go_simp)
  have c5_0_1 : w5.cell? ⟨w.heap.size, 1, none⟩ = some (.int .i64 y) := (hc _ _ (by (try simp) <;> omega)).trans (by go_simp)
  have c5_0_2 : w5.cell? ⟨w.heap.size, 2, none⟩ = some (.int .i64 z) := (hc _ _ (by (try simp) <;> omega)).trans (by go_simp)
  have z5_0 : ∀ j, w5.frozen? ⟨w.heap.size, j, none⟩ = false := fun j => (hf _ _ (by (try simp) <;> omega)).trans (by go_simp)
  have c5_1_0 : w5.cell? ⟨w.heap.size + 1, 0, none⟩ = some (.int .i64 u) := (hc _ _ (by (try simp) <;> omega)).trans (by go_simp)
  have c5_1_1 : w5.cell? ⟨w.heap.size + 1, 1, none⟩ = some (.int .i64 v) := (hc _ _ (by (try simp) <;> omega)).trans (by go_simp)
  have c5_1_2 : w5.cell? ⟨w.heap.size + 1, 2, none⟩ = some (.int .i64 r) := (hc _ _ (by (try simp) <;> omega)).trans (by go_simp)
  have z5_1 : ∀ j, w5.frozen? ⟨w.heap.size + 1, j, none⟩ = false := fun j => (hf _ _ (by (try simp) <;> omega)).trans (by go_simp)
  have c5_2_0 : w5.cell? ⟨w.heap.size + 1 + 1, 0, none⟩ = some (.int .i64 n) := (hc _ _ (by (try simp) <;> omega)).trans (by go_simp)
  have c5_2_1 : w5.cell? ⟨w.heap.size + 1 + 1, 1, none⟩ = some (.int .i64 d) := (hc _ _ (by (try simp) <;> omega)).trans (by go_simp)
  have z5_2 : ∀ j, w5.frozen? ⟨w.heap.size + 1 + 1, j, none⟩ = false := fun j => (hf _ _ (by (try simp) <;> omega)).trans (by go_simp)
  have c5_3_0 : w5.cell? ⟨w1.heap.size, 0, none⟩ = some (.int .i64 (strN ⟨x, y, z⟩)) := (hc _ _ (by (try simp) <;> omega)).trans (by go_simp)
  have c5_3_1 : w5.cell? ⟨w1.heap.size, 1, none⟩ = some (.int .i64 (strD ⟨x, y, z⟩)) := (hc _ _ (by (try simp) <;> omega)).trans (by go_simp)
  have z5_3 : ∀ j, w5.frozen? ⟨w1.heap.size, j, none⟩ = false := fun j => (hf _ _ (by (try simp) <;> omega)).trans (by go_simp)
  have c5_4_0 : w5.cell? ⟨w2.heap.size, 0, none⟩ = some (.int .i64 (strN ⟨x, y, z⟩)) := (hc _ _ (by (try simp) <;> omega)).trans (by go_simp)
  have c5_4_1 : w5.cell? ⟨w2.heap.size, 1, none⟩ = some (.int .i64 (strD ⟨x, y, z⟩)) := (hc _ _ (by (try simp) <;> omega)).trans (by go_simp)
  have z5_4 : ∀ j, w5.frozen? ⟨w2.heap.size, j, none⟩ = false := fun j => (hf _ _ (by (try simp) <;> omega)).trans (by go_simp)
  clear hc hf hb5
  go_wp2_with fail
  refine (rWater_any _ _ _ _ _ _).mono ?_
  rintro e w6 ⟨rfl, hb6⟩
  have HB6 : Kp (Below w.heap.size w w6) := ⟨Below.trans (by repeat (first | refine Below.alloc ?_ (by have := HB5.out.size; (try simp) <;> omega) _ | refine bDrewN ?_ _ | refine Below.drew ?_ | exact HB5.out)) (hb6.mono (by have := HB5.out.size; (try simp) <;> omega))⟩
  have hz6_0 : w.heap.size < w6.heap.size := by have := hb6.size; (try simp at this); omega
  have hz6_1 : w.heap.size + 1 < w6.heap.size := by have := hb6.size; (try simp at this); omega
  have hz6_2 : w.heap.size + 1 + 1 < w6.heap.size := by have := hb6.size; (try simp at this); omega
  have hz6_3 : w1.heap.size < w6.heap.size := by have := hb6.size; (try simp at this); omega
  have hz6_4 : w2.heap.size < w6.heap.size := by have := hb6.size; (try simp at this); omega
  obtain ⟨hc, hf⟩ := bcell hb6
  have c6_0_0 : w6.cell? ⟨w.heap.size, 0, none⟩ = some (.int .i64 x) := (hc _ _ (by (try simp) <;> omega)).trans (by go_simp)
  have c6_0_1 : w6.cell? ⟨w.heap.size, 1, none⟩ = some (.int .i64 y) := (hc _ _ (by (try simp) <;> omega)).trans (by go_simp)
  have c6_0_2 : w6.cell? ⟨w.heap.size, 2, none⟩ = some (.int .i64 z) := (hc _ _ (by (try simp) <;> omega)).trans (by go_simp)
  have z6_0 : ∀ j, w6.frozen? ⟨w.heap.size, j, none⟩ = false := fun j => (hf _ _ (by (try simp) <;> omega)).trans (by go_simp)
  have c6_1_0 : w6.cell? ⟨w.heap.size + 1, 0, none⟩ = some (.int .i64 u) := (hc _ _ (by (try simp) <;> omega)).trans (by go_simp)
  have c6_1_1 : w6.cell? ⟨w.heap.size + 1, 1, none⟩ = some (.int .i64 v) := (hc _ _ (by (try simp) <;> omega)).trans (by go_simp)
  have c6_1_2 : w6.cell? ⟨w.heap.size + 1, 2, none⟩ = some (.int .i64 r) := (hc _ _ (by (try simp) <;> omega)).trans (by go_simp)
  have z6_1 : ∀ j, w6.frozen? ⟨w.heap.size + 1, j, none⟩ = false := fun j => (hf _ _ (by (try simp) <;> omega)).trans (by go_simp)
  have c6_2_0 : w6.cell? ⟨w.heap.size + 1 + 1, 0, none⟩ = some (.int .i64 n) := (hc _ _ (by (try simp) <;> omega)).trans (by go_simp)
  have c6_2_1 : w6.cell? ⟨w.heap.size + 1 + 1, 1, none⟩ = some (.int .i64 d) := (hc _ _ (by (try simp) <;> omega)).trans (by go_simp)
  have z6_2 : ∀ j, w6.frozen? ⟨w.heap.size + 1 + 1, j, none⟩ = false := fun j => (hf _ _ (by (try simp) <;> omega)).trans (by go_simp)
  have c6_3_0 : w6.cell? ⟨w1.heap.size, 0, none⟩ = some (.int .i64 (strN ⟨x, y, z⟩)) := (hc _ _ (by (try simp) <;> omega)).trans (by go_simp)
  have c6_3_1 : w6.cell? ⟨w1.heap.size, 1, none⟩ = some (.int .i64 (strD ⟨x, y, z⟩)) := (hc _ _ (by (try simp) <;> omega)).trans (by go_simp)
  have z6_3 : ∀ j, w6.frozen? ⟨w1.heap.size, j, none⟩ = false := fun j => (hf _ _ (by (try simp) <;> omega)).trans (by go_simp)
  have c6_4_0 : w6.cell? ⟨w2.heap.size, 0, none⟩ = some (.int .i64 (strN ⟨x, y, z⟩)) := (hc _ _ (by (try simp) <;> omega)).trans (by go_simp)
  have c6_4_1 : w6.cell? ⟨w2.heap.size, 1, none⟩ = some (.int .i64 (strD ⟨x, y, z⟩)) := (hc _ _ (by (try simp) <;> omega)).trans (by go_simp)
  have z6_4 : ∀ j, w6.frozen? ⟨w2.heap.size, j, none⟩ = false := fun j => (hf _ _ (by (try simp) <;> omega)).trans (by go_simp)
  clear hc hf hb6
  go_wp2_with fail
  refine (awake_any _).mono ?_
  rintro e w7 ⟨rfl, hb7⟩
  have HB7 := Lib.hid (HB6.out.trans (hb7.mono HB6.out.size))
  clear hb7
  go_wp2
  go_ret
  exact ⟨rfl, HB7.out⟩
end Go.Proofs.Ytopbbghjmdhplaa.Bt
