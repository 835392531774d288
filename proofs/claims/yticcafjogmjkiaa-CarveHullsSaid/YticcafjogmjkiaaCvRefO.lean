/-
  WALKS (layer 5, carve): the hull, by the reference.
-/
import Derived.Test.YticcafjogmjkiaaCvRefL
namespace Go.Proofs.Yticcafjogmjkiaa.Cv
open Go Go.RowKit Go.Sort

theorem rHull_no0 (sx sy sz : Int) (g1 g2 g3 : Option Addr) (m1 c1 m2 c2 m3 c3 : Nat) (w : World) (h1 : viewB sx m1 = false) : Calls Try.prog 38 #[.agg #[.int .i64 sx, .slice g1 m1 c1], .agg #[.int .i64 sy, .slice g2 m2 c2], .agg #[.int .i64 sz, .slice g3 m3 c3]] w (OfNo w 1) := by
  have H1 : Kp (∀ W, Calls Try.prog 20 #[.agg #[.int .i64 sx, .slice g1 m1 c1]] W fun e w' => e = .returned (.bool false) ∧ Below W.heap.size W w') := ⟨fun W => h1 ▸ rValidView_any sx g1 m1 c1 W⟩
  clear h1
  go_enter Try.func38, Try.ntmps38
  go_wp2_with fail
  refine (H1.out _).mono ?_
  rintro en w1 ⟨rfl, hb1⟩
  have HB1 : Kp (Below w.heap.size w w1) := ⟨Below.trans (by repeat (first | refine Below.alloc ?_ (by (try simp) <;> omega) _ | refine bDrewN ?_ _ | refine Below.drew ?_ | refine Below.setCell ?_ (by (try simp) <;> omega) _ | exact Below.refl _ _)) (hb1.mono (by (try simp) <;> omega))⟩
  have hz1_0 : w.heap.size < w1.heap.size := by have := hb1.size; (try simp at this); omega
  have hz1_1 : w.heap.size + 1 < w1.heap.size := by have := hb1.size; (try simp at this); omega
  have hz1_2 : w.heap.size + 1 + 1 < w1.heap.size := by have := hb1.size; (try simp at this); omega
  have hz1_3 : w.heap.size + 1 + 1 + 1 < w1.heap.size := by have := hb1.size; (try simp at this); omega
  obtain ⟨hc, hf⟩ := bcell hb1
  have c1_0_0 : w1.cell? ⟨w.heap.size, 0, none⟩ = some (.int .i64 sx) := (hc _ _ (by (try simp) <;> omega)).trans (by go_simp)
  have c1_0_1 : w1.cell? ⟨w.heap.size, 1, none⟩ = some ((.slice g1 m1 c1)) := (hc _ _ (by (try simp) <;> omega)).trans (by go_simp)
  have z1_0 : ∀ j, w1.frozen? ⟨w.heap.size, j, none⟩ = false := fun j => (hf _ _ (by (try simp) <;> omega)).trans (by go_simp)
  have c1_1_0 : w1.cell? ⟨w.heap.size + 1, 0, none⟩ = some (.int .i64 sy) := (hc _ _ (by (try simp) <;> omega)).trans (by go_simp)
  have c1_1_1 : w1.cell? ⟨w.heap.size + 1, 1, none⟩ = some ((.slice g2 m2 c2)) := (hc _ _ (by (try simp) <;> omega)).trans (by go_simp)
  have z1_1 : ∀ j, w1.frozen? ⟨w.heap.size + 1, j, none⟩ = false := fun j => (hf _ _ (by (try simp) <;> omega)).trans (by go_simp)
  have c1_2_0 : w1.cell? ⟨w.heap.size + 1 + 1, 0, none⟩ = some (.int .i64 sz) := (hc _ _ (by (try simp) <;> omega)).trans (by go_simp)
  have c1_2_1 : w1.cell? ⟨w.heap.size + 1 + 1, 1, none⟩ = some ((.slice g3 m3 c3)) := (hc _ _ (by (try simp) <;> omega)).trans (by go_simp)
  have z1_2 : ∀ j, w1.frozen? ⟨w.heap.size + 1 + 1, j, none⟩ = false := fun j => (hf _ _ (by (try simp) <;> omega)).trans (by go_simp)
  have c1_3_0 : w1.cell? ⟨w.heap.size + 1 + 1 + 1, 0, none⟩ = some (.int .i64 0) := (hc _ _ (by (try simp) <;> omega)).trans (by go_simp)
  have c1_3_1 : w1.cell? ⟨w.heap.size + 1 + 1 + 1, 1, none⟩ = some ((.slice none 0 0)) := (hc _ _ (by (try simp) <;> omega)).trans (by go_simp)
  have z1_3 : ∀ j, w1.frozen? ⟨w.heap.size + 1 + 1 + 1, j, none⟩ = false := fun j => (hf _ _ (by (try simp) <;> omega)).trans (by go_simp)
  clear hc hf hb1
  go_wp2
  exact bodyPost_ret (v := .tuple #[.agg #[.int .i64 0, .slice none 0 0], .int .i64 1]) (by simp [results, Try.results38, go_sem, c1_3_0, c1_3_1]) rfl ⟨rfl, by (have hzS := HB1.out.size; (repeat (with_reducible first | exact HB1.out | refine Below.setCell ?_ ?_ _ | refine Below.alloc ?_ ?_ _ | refine Below.drew ?_ | refine bDrewN ?_ _)); all_goals ((try simp) <;> omega))⟩
theorem rHull_no1 (sx sy sz : Int) (g1 g2 g3 : Option Addr) (m1 c1 m2 c2 m3 c3 : Nat) (w : World) (h1 : viewB sx m1 = true) (h2 : viewB sy m2 = false) : Calls Try.prog 38 #[.agg #[.int .i64 sx, .slice g1 m1 c1], .agg #[.int .i64 sy, .slice g2 m2 c2], .agg #[.int .i64 sz, .slice g3 m3 c3]] w (OfNo w 1) := by
  have H1 : Kp (∀ W, Calls Try.prog 20 #[.agg #[.int .i64 sx, .slice g1 m1 c1]] W fun e w' => e = .returned (.bool true) ∧ Below W.heap.size W w') := ⟨fun W => h1 ▸ rValidView_any sx g1 m1 c1 W⟩
  have H2 : Kp (∀ W, Calls Try.prog 20 #[.agg #[.int .i64 sy, .slice g2 m2 c2]] W fun e w' => e = .returned (.bool false) ∧ Below W.heap.size W w') := ⟨fun W => h2 ▸ rValidView_any sy g2 m2 c2 W⟩
  clear h1 h2
  go_enter Try.func38, Try.ntmps38
  go_wp2_with fail
  refine (H1.out _).mono ?_
  rintro en w1 ⟨rfl, hb1⟩
  have HB1 : Kp (Below w.heap.size w w1) := ⟨Below.trans (by repeat (first | refine Below.alloc ?_ (by (try simp) <;> omega) _ | refine bDrewN ?_ _ | refine Below.drew ?_ | refine Below.setCell ?_ (by (try simp) <;> omega) _ | exact Below.refl _ _)) (hb1.mono (by (try simp) <;> omega))⟩
  have hz1_0 : w.heap.size < w1.heap.size := by have := hb1.size; (try simp at this); omega
  have hz1_1 : w.heap.size + 1 < w1.heap.size := by have := hb1.size; (try simp at this); omega
  have hz1_2 : w.heap.size + 1 + 1 < w1.heap.size := by have := hb1.size; (try simp at this); omega
  have hz1_3 : w.heap.size + 1 + 1 + 1 < w1.heap.size := by have := hb1.size; (try simp at this); omega
  obtain ⟨hc, hf⟩ := bcell hb1
  have c1_0_0 : w1.cell? ⟨w.heap.size, 0, none⟩ = some (.int .i64 sx) := (hc _ _ (by (try simp) <;> omega)).trans (by go_simp)
  have c1_0_1 : w1.cell? ⟨w.heap.size, 1, none⟩ = some ((.slice g1 m1 c1)) := (hc _ _ (by (try simp) <;> omega)).trans (by go_simp)
  have z1_0 : ∀ j, w1.frozen? ⟨w.heap.size, j, none⟩ = false := fun j => (hf _ _ (by (try simp) <;> omega)).trans (by go_simp)
  have c1_1_0 : w1.cell? ⟨w.heap.size + 1, 0, none⟩ = some (.int .i64 sy) := (hc _ _ (by (try simp) <;> omega)).trans (by go_simp)
  have c1_1_1 : w1.cell? ⟨w.heap.size + 1, 1, none⟩ = some ((.slice g2 m2 c2)) := (hc _ _ (by (try simp) <;> omega)).trans (by go_simp)
  have z1_1 : ∀ j, w1.frozen? ⟨w.heap.size + 1, j, none⟩ = false := fun j => (hf _ _ (by (try simp) <;> omega)).trans (by go_simp)
  have c1_2_0 : w1.cell? ⟨w.heap.size + 1 + 1, 0, none⟩ = some (.int .i64 sz) := (hc _ _ (by (try simp) <;> omega)).trans (by go_simp)
  have c1_2_1 : w1.cell? ⟨w.heap.size + 1 + 1, 1, none⟩ = some ((.slice g3 m3 c3)) := (hc _ _ (by (try simp) <;> omega)).trans (by go_simp)
  have z1_2 : ∀ j, w1.frozen? ⟨w.heap.size + 1 + 1, j, none⟩ = false := fun j => (hf _ _ (by (try simp) <;> omega)).trans (by go_simp)
  have c1_3_0 : w1.cell? ⟨w.heap.size + 1 + 1 + 1, 0, none⟩ = some (.int .i64 0) := (hc _ _ (by (try simp) <;> omega)).trans (by go_simp)
  have c1_3_1 : w1.cell? ⟨w.heap.size + 1 + 1 + 1, 1, none⟩ = some ((.slice none 0 0)) := (hc _ _ (by (try simp) <;> omega)).trans (by go_simp)
  have z1_3 : ∀ j, w1.frozen? ⟨w.heap.size + 1 + 1 + 1, j, none⟩ = false := fun j => (hf _ _ (by (try simp) <;> omega)).trans (by go_simp)
  clear hc hf hb1
  go_wp2_with fail
  refine (H2.out _).mono ?_
  rintro en w2 ⟨rfl, hb2⟩
  have HB2 : Kp (Below w.heap.size w w2) := ⟨Below.trans (by repeat (first | refine Below.alloc ?_ (by have := HB1.out.size; (try simp) <;> omega) _ | refine bDrewN ?_ _ | refine Below.drew ?_ | refine Below.setCell ?_ (by have := HB1.out.size; (try simp) <;> omega) _ | exact HB1.out)) (hb2.mono (by have := HB1.out.size; (try simp) <;> omega))⟩
  have hz2_0 : w.heap.size < w2.heap.size := by have := hb2.size; (try simp at this); omega
  have hz2_1 : w.heap.size + 1 < w2.heap.size := by have := hb2.size; (try simp at this); omega
  have hz2_2 : w.heap.size + 1 + 1 < w2.heap.size := by have := hb2.size; (try simp at this); omega
  have hz2_3 : w.heap.size + 1 + 1 + 1 < w2.heap.size := by have := hb2.size; (try simp at this); omega
  obtain ⟨hc, hf⟩ := bcell hb2
  have c2_0_0 : w2.cell? ⟨w.heap.size, 0, none⟩ = some (.int .i64 sx) := (hc _ _ (by (try simp) <;> omega)).trans (by go_simp)
  have c2_0_1 : w2.cell? ⟨w.heap.size, 1, none⟩ = some ((.slice g1 m1 c1)) := (hc _ _ (by (try simp) <;> omega)).trans (by go_simp)
  have z2_0 : ∀ j, w2.frozen? ⟨w.heap.size, j, none⟩ = false := fun j => (hf _ _ (by (try simp) <;> omega)).trans (by go_simp)
  have c2_1_0 : w2.cell? ⟨w.heap.size + 1, 0, none⟩ = some (.int .i64 sy) := (hc _ _ (by (try simp) <;> omega)).trans (by go_simp)
  have c2_1_1 : w2.cell? ⟨w.heap.size + 1, 1, none⟩ = some ((.slice g2 m2 c2)) := (hc _ _ (by (try simp) <;> omega)).trans (by go_simp)
  have z2_1 : ∀ j, w2.frozen? ⟨w.heap.size + 1, j, none⟩ = false := fun j => (hf _ _ (by (try simp) <;> omega)).trans (by go_simp)
  have c2_2_0 : w2.cell? ⟨w.heap.size + 1 + 1, 0, none⟩ = some (.int .i64 sz) := (hc _ _ (by (try simp) <;> omega)).trans (by go_simp)
  have c2_2_1 : w2.cell? ⟨w.heap.size + 1 + 1, 1, none⟩ = some ((.slice g3 m3 c3)) := (hc _ _ (by (try simp) <;> omega)).trans (by go_simp)
  have z2_2 : ∀ j, w2.frozen? ⟨w.heap.size + 1 + 1, j, none⟩ = false := fun j => (hf _ _ (by (try simp) <;> omega)).trans (by go_simp)
  have c2_3_0 : w2.cell? ⟨w.heap.size + 1 + 1 + 1, 0, none⟩ = some (.int .i64 0) := (hc _ _ (by (try simp) <;> omega)).trans (by go_simp)
  have c2_3_1 : w2.cell? ⟨w.heap.size + 1 + 1 + 1, 1, none⟩ = some ((.slice none 0 0)) := (hc _ _ (by (try simp) <;> omega)).trans (by go_simp)
  have z2_3 : ∀ j, w2.frozen? ⟨w.heap.size + 1 + 1 + 1, j, none⟩ = false := fun j => (hf _ _ (by (try simp) <;> omega)).trans (by go_simp)
  clear hc hf hb2 c1_0_0 c1_0_1 z1_0 c1_1_0 c1_1_1 z1_1 c1_2_0 c1_2_1 z1_2 c1_3_0 c1_3_1 z1_3
  go_wp2
  exact bodyPost_ret (v := .tuple #[.agg #[.int .i64 0, .slice none 0 0], .int .i64 1]) (by simp [results, Try.results38, go_sem, c2_3_0, c2_3_1]) rfl ⟨rfl, by (have hzS := HB2.out.size; (repeat (with_reducible first | exact HB2.out | refine Below.setCell ?_ ?_ _ | refine Below.alloc ?_ ?_ _ | refine Below.drew ?_ | refine bDrewN ?_ _)); all_goals ((try simp) <;> omega))⟩
theorem rHull_no2 (sx sy sz : Int) (g1 g2 g3 : Option Addr) (m1 c1 m2 c2 m3 c3 : Nat) (w : World) (h1 : viewB sx m1 = true) (h2 : viewB sy m2 = true) (h3 : viewB sz m3 = false) : Calls Try.prog 38 #[.agg #[.int .i64 sx, .slice g1 m1 c1], .agg #[.int .i64 sy, .slice g2 m2 c2], .agg #[.int .i64 sz, .slice g3 m3 c3]] w (OfNo w 1) := by
  have H1 : Kp (∀ W, Calls Try.prog 20 #[.agg #[.int .i64 sx, .slice g1 m1 c1]] W fun e w' => e = .returned (.bool true) ∧ Below W.heap.size W w') := ⟨fun W => h1 ▸ rValidView_any sx g1 m1 c1 W⟩
  have H2 : Kp (∀ W, Calls Try.prog 20 #[.agg #[.int .i64 sy, .slice g2 m2 c2]] W fun e w' => e = .returned (.bool true) ∧ Below W.heap.size W w') := ⟨fun W => h2 ▸ rValidView_any sy g2 m2 c2 W⟩
  have H3 : Kp (∀ W, Calls Try.prog 20 #[.agg #[.int .i64 sz, .slice g3 m3 c3]] W fun e w' => e = .returned (.bool false) ∧ Below W.heap.size W w') := ⟨fun W => h3 ▸ rValidView_any sz g3 m3 c3 W⟩
  clear h1 h2 h3
  go_enter Try.func38, Try.ntmps38
  go_wp2_with fail
  refine (H1.out _).mono ?_
  rintro en w1 ⟨rfl, hb1⟩
  have HB1 : Kp (Below w.heap.size w w1) := ⟨Below.trans (by repeat (first | refine Below.alloc ?_ (by (try simp) <;> omega) _ | refine bDrewN ?_ _ | refine Below.drew ?_ | refine Below.setCell ?_ (by (try simp) <;> omega) _ | exact Below.refl _ _)) (hb1.mono (by (try simp) <;> omega))⟩
  have hz1_0 : w.heap.size < w1.heap.size := by have := hb1.size; (try simp at this); omega
  have hz1_1 : w.heap.size + 1 < w1.heap.size := by have := hb1.size; (try simp at this); omega
  have hz1_2 : w.heap.size + 1 + 1 < w1.heap.size := by have := hb1.size; (try simp at this); omega
  have hz1_3 : w.heap.size + 1 + 1 + 1 < w1.heap.size := by have := hb1.size; (try simp at this); omega
  obtain ⟨hc, hf⟩ := bcell hb1
  have c1_0_0 : w1.cell? ⟨w.heap.size, 0, none⟩ = some (.int .i64 sx) := (hc _ _ (by (try simp) <;> omega)).trans (by go_simp)
  have c1_0_1 : w1.cell? ⟨w.heap.size, 1, none⟩ = some ((.slice g1 m1 c1)) := (hc _ _ (by (try simp) <;> omega)).trans (by go_simp)
  have z1_0 : ∀ j, w1.frozen? ⟨w.heap.size, j, none⟩ = false := fun j => (hf _ _ (by (try simp) <;> omega)).trans (by go_simp)
  have c1_1_0 : w1.cell? ⟨w.heap.size + 1, 0, none⟩ = some (.int .i64 sy) := (hc _ _ (by (try simp) <;> omega)).trans (by go_simp)
  have c1_1_1 : w1.cell? ⟨w.heap.size + 1, 1, none⟩ = some ((.slice g2 m2 c2)) := (hc _ _ (by (try simp) <;> omega)).trans (by go_simp)
  have z1_1 : ∀ j, w1.frozen? ⟨w.heap.size + 1, j, none⟩ = false := fun j => (hf _ _ (by (try simp) <;> omega)).trans (by go_simp)
  have c1_2_0 : w1.cell? ⟨w.heap.size + 1 + 1, 0, none⟩ = some (.int .i64 sz) := (hc _ _ (by (try simp) <;> omega)).trans (by go_simp)
  have c1_2_1 : w1.cell? ⟨w.heap.size + 1 + 1, 1, none⟩ = some ((.slice g3 m3 c3)) := (hc _ _ (by (try simp) <;> omega)).trans (by go_simp)
  have z1_2 : ∀ j, w1.frozen? ⟨w.heap.size + 1 + 1, j, none⟩ = false := fun j => (hf _ _ (by (try simp) <;> omega)).trans (by go_simp)
  have c1_3_0 : w1.cell? ⟨w.heap.size + 1 + 1 + 1, 0, none⟩ = some (.int .i64 0) := (hc _ _ (by (try simp) <;> omega)).trans (by go_simp)
  have c1_3_1 : w1.cell? ⟨w.heap.size + 1 + 1 + 1, 1, none⟩ = some ((.slice none 0 0)) := (hc _ _ (by (try simp) <;> omega)).trans (by go_simp)
  have z1_3 : ∀ j, w1.frozen? ⟨w.heap.size + 1 + 1 + 1, j, none⟩ = false := fun j => (hf _ _ (by (try simp) <;> omega)).trans (by go_simp)
  clear hc hf hb1
  go_wp2_with fail
  refine (H2.out _).mono ?_
  rintro en w2 ⟨rfl, hb2⟩
  have HB2 : Kp (Below w.heap.size w w2) := ⟨Below.trans (by repeat (first | refine Below.alloc ?_ (by have := HB1.out.size; (try simp) <;> omega) _ | refine bDrewN ?_ _ | refine Below.drew ?_ | refine Below.setCell ?_ (by have := HB1.out.size; (try simp) <;> omega) _ | exact HB1.out)) (hb2.mono (by have := HB1.out.size; (try simp) <;> omega))⟩
  have hz2_0 : w.heap.size < w2.heap.size := by have := hb2.size; (try simp at this); omega
  have hz2_1 : w.heap.size + 1 < w2.heap.size := by have := hb2.size; (try simp at this); omega
  have hz2_2 : w.heap.size + 1 + 1 < w2.heap.size := by have := hb2.size; (try simp at this); omega
  have hz2_3 : w.heap.size + 1 + 1 + 1 < w2.heap.size := by have := hb2.size; (try simp at this); omega
  obtain ⟨hc, hf⟩ := bcell hb2
  have c2_0_0 : w2.cell? ⟨w.heap.size, 0, none⟩ = some (.int .i64 sx) := (hc _ _ (by (try simp) <;> omega)).trans (by go_simp)
  have c2_0_1 : w2.cell? ⟨w.heap.size, 1, none⟩ = some ((.slice g1 m1 c1)) := (hc _ _ (by (try simp) <;> omega)).trans (by go_simp)
  have z2_0 : ∀ j, w2.frozen? ⟨w.heap.size, j, none⟩ = false := fun j => (hf _ _ (by (try simp) <;> omega)).trans (by go_simp)
  have c2_1_0 : w2.cell? ⟨w.heap.size + 1, 0, none⟩ = some (.int .i64 sy) := (hc _ _ (by (try simp) <;> omega)).trans (by go_simp)
  have c2_1_1 : w2.cell? ⟨w.heap.size + 1, 1, none⟩ = some ((.slice g2 m2 c2)) := (hc _ _ (by (try simp) <;> omega)).trans (by go_simp)
  have z2_1 : ∀ j, w2.frozen? ⟨w.heap.size + 1, j, none⟩ = false := fun j => (hf _ _ (by (try simp) <;> omega)).trans (by go_simp)
  have c2_2_0 : w2.cell? ⟨w.heap.size + 1 + 1, 0, none⟩ = some (.int .i64 sz) := (hc _ _ (by (try simp) <;> omega)).trans (by go_simp)
  have c2_2_1 : w2.cell? ⟨w.heap.size + 1 + 1, 1, none⟩ = some ((.slice g3 m3 c3)) := (hc _ _ (by (try simp) <;> omega)).trans (by go_simp)
  have z2_2 : ∀ j, w2.frozen? ⟨w.heap.size + 1 + 1, j, none⟩ = false := fun j => (hf _ _ (by (try simp) <;> omega)).trans (by go_simp)
  have c2_3_0 : w2.cell? ⟨w.heap.size + 1 + 1 + 1, 0, none⟩ = some (.int .i64 0) := (hc _ _ (by (try simp) <;> omega)).trans (by go_simp)
  have c2_3_1 : w2.cell? ⟨w.heap.size + 1 + 1 + 1, 1, none⟩ = some ((.slice none 0 0)) := (hc _ _ (by (try simp) <;> omega)).trans (by go_simp)
  have z2_3 : ∀ j, w2.frozen? ⟨w.heap.size + 1 + 1 + 1, j, none⟩ = false := fun j => (hf _ _ (by (try simp) <;> omega)).trans (by go_simp)
  clear hc hf hb2 c1_0_0 c1_0_1 z1_0 c1_1_0 c1_1_1 z1_1 c1_2_0 c1_2_1 z1_2 c1_3_0 c1_3_1 z1_3
  go_wp2_with fail
  refine (H3.out _).mono ?_
  rintro en w3 ⟨rfl, hb3⟩
  have HB3 : Kp (Below w.heap.size w w3) := ⟨Below.trans (by repeat (first | refine Below.alloc ?_ (by have := HB2.out.size; (try simp) <;> omega) _ | refine bDrewN ?_ _ | refine Below.drew ?_ | refine Below.setCell ?_ (by have := HB2.out.size; (try simp) <;> omega) _ | exact HB2.out)) (hb3.mono (by have := HB2.out.size; (try simp) <;> omega))⟩
  have hz3_0 : w.heap.size < w3.heap.size := by have := hb3.size; (try simp at this); omega
  have hz3_1 : w.heap.size + 1 < w3.heap.size := by have := hb3.size; (try simp at this); omega
  have hz3_2 : w.heap.size + 1 + 1 < w3.heap.size := by have := hb3.size; (try simp at this); omega
  have hz3_3 : w.heap.size + 1 + 1 + 1 < w3.heap.size := by have := hb3.size; (try simp at this); omega
  obtain ⟨hc, hf⟩ := bcell hb3
  have c3_0_0 : w3.cell? ⟨w.heap.size, 0, none⟩ = some (.int .i64 sx) := (hc _ _ (by (try simp) <;> omega)).trans (by go_simp)
  have c3_0_1 : w3.cell? ⟨w.heap.size, 1, none⟩ = some ((.slice g1 m1 c1)) := (hc _ _ (by (try simp) <;> omega)).trans (by go_simp)
  have z3_0 : ∀ j, w3.frozen? ⟨w.heap.size, j, none⟩ = false := fun j => (hf _ _ (by (try simp) <;> omega)).trans (by go_simp)
  have c3_1_0 : w3.cell? ⟨w.heap.size + 1, 0, none⟩ = some (.int .i64 sy) := (hc _ _ (by (try simp) <;> omega)).trans (by go_simp)
  have c3_1_1 : w3.cell? ⟨w.heap.size + 1, 1, none⟩ = some ((.slice g2 m2 c2)) := (hc _ _ (by (try simp) <;> omega)).trans (by go_simp)
  have z3_1 : ∀ j, w3.frozen? ⟨w.heap.size + 1, j, none⟩ = false := fun j => (hf _ _ (by (try simp) <;> omega)).trans (by go_simp)
  have c3_2_0 : w3.cell? ⟨w.heap.size + 1 + 1, 0, none⟩ = some (.int .i64 sz) := (hc _ _ (by (try simp) <;> omega)).trans (by go_simp)
  have c3_2_1 : w3.cell? ⟨w.heap.size + 1 + 1, 1, none⟩ = some ((.slice g3 m3 c3)) := (hc _ _ (by (try simp) <;> omega)).trans (by go_simp)
  have z3_2 : ∀ j, w3.frozen? ⟨w.heap.size + 1 + 1, j, none⟩ = false := fun j => (hf _ _ (by (try simp) <;> omega)).trans (by go_simp)
  have c3_3_0 : w3.cell? ⟨w.heap.size + 1 + 1 + 1, 0, none⟩ = some (.int .i64 0) := (hc _ _ (by (try simp) <;> omega)).trans (by go_simp)
  have c3_3_1 : w3.cell? ⟨w.heap.size + 1 + 1 + 1, 1, none⟩ = some ((.slice none 0 0)) := (hc _ _ (by (try simp) <;> omega)).trans (by go_simp)
  have z3_3 : ∀ j, w3.frozen? ⟨w.heap.size + 1 + 1 + 1, j, none⟩ = false := fun j => (hf _ _ (by (try simp) <;> omega)).trans (by go_simp)
  clear hc hf hb3 c2_0_0 c2_0_1 z2_0 c2_1_0 c2_1_1 z2_1 c2_2_0 c2_2_1 z2_2 c2_3_0 c2_3_1 z2_3
  go_wp2
  exact bodyPost_ret (v := .tuple #[.agg #[.int .i64 0, .slice none 0 0], .int .i64 1]) (by simp [results, Try.results38, go_sem, c3_3_0, c3_3_1]) rfl ⟨rfl, by (have hzS := HB3.out.size; (repeat (with_reducible first | exact HB3.out | refine Below.setCell ?_ ?_ _ | refine Below.alloc ?_ ?_ _ | refine Below.drew ?_ | refine bDrewN ?_ _)); all_goals ((try simp) <;> omega))⟩
theorem rHull_no3 (sx sy sz : Int) (g1 g2 g3 : Option Addr) (m1 c1 m2 c2 m3 c3 : Nat) (w : World) (h1 : viewB sx m1 = true) (h2 : viewB sy m2 = true) (h3 : viewB sz m3 = true) (hz : (sx != sy) = true) : Calls Try.prog 38 #[.agg #[.int .i64 sx, .slice g1 m1 c1], .agg #[.int .i64 sy, .slice g2 m2 c2], .agg #[.int .i64 sz, .slice g3 m3 c3]] w (OfNo w 1) := by
  have H1 : Kp (∀ W, Calls Try.prog 20 #[.agg #[.int .i64 sx, .slice g1 m1 c1]] W fun e w' => e = .returned (.bool true) ∧ Below W.heap.size W w') := ⟨fun W => h1 ▸ rValidView_any sx g1 m1 c1 W⟩
  have H2 : Kp (∀ W, Calls Try.prog 20 #[.agg #[.int .i64 sy, .slice g2 m2 c2]] W fun e w' => e = .returned (.bool true) ∧ Below W.heap.size W w') := ⟨fun W => h2 ▸ rValidView_any sy g2 m2 c2 W⟩
  have H3 : Kp (∀ W, Calls Try.prog 20 #[.agg #[.int .i64 sz, .slice g3 m3 c3]] W fun e w' => e = .returned (.bool true) ∧ Below W.heap.size W w') := ⟨fun W => h3 ▸ rValidView_any sz g3 m3 c3 W⟩
  clear h1 h2 h3
  go_enter Try.func38, Try.ntmps38
  go_wp2_with fail
  refine (H1.out _).mono ?_
  rintro en w1 ⟨rfl, hb1⟩
  have HB1 : Kp (Below w.heap.size w w1) := ⟨Below.trans (by repeat (first | refine Below.alloc ?_ (by (try simp) <;> omega) _ | refine bDrewN ?_ _ | refine Below.drew ?_ | refine Below.setCell ?_ (by (try simp) <;> omega) _ | exact Below.refl _ _)) (hb1.mono (by (try simp) <;> omega))⟩
  have hz1_0 : w.heap.size < w1.heap.size := by have := hb1.size; (try simp at this); omega
  have hz1_1 : w.heap.size + 1 < w1.heap.size := by have := hb1.size; (try simp at this); omega
  have hz1_2 : w.heap.size + 1 + 1 < w1.heap.size := by have := hb1.size; (try simp at this); omega
  have hz1_3 : w.heap.size + 1 + 1 + 1 < w1.heap.size := by have := hb1.size; (try simp at this); omega
  obtain ⟨hc, hf⟩ := bcell hb1
  have c1_0_0 : w1.cell? ⟨w.heap.size, 0, none⟩ = some (.int .i64 sx) := (hc _ _ (by (try simp) <;> omega)).trans (by go_simp)
  have c1_0_1 : w1.cell? ⟨w.heap.size, 1, none⟩ = some ((.slice g1 m1 c1)) := (hc _ _ (by (try simp) <;> omega)).trans (by go_simp)
  have z1_0 : ∀ j, w1.frozen? ⟨w.heap.size, j, none⟩ = false := fun j => (hf _ _ (by (try simp) <;> omega)).trans (by go_simp)
  have c1_1_0 : w1.cell? ⟨w.heap.size + 1, 0, none⟩ = some (.int .i64 sy) := (hc _ _ (by (try simp) <;> omega)).trans (by go_simp)
  have c1_1_1 : w1.cell? ⟨w.heap.size + 1, 1, none⟩ = some ((.slice g2 m2 c2)) := (hc _ _ (by (try simp) <;> omega)).trans (by go_simp)
  have z1_1 : ∀ j, w1.frozen? ⟨w.heap.size + 1, j, none⟩ = false := fun j => (hf _ _ (by (try simp) <;> omega)).trans (by go_simp)
  have c1_2_0 : w1.cell? ⟨w.heap.size + 1 + 1, 0, none⟩ = some (.int .i64 sz) := (hc _ _ (by (try simp) <;> omega)).trans (by go_simp)
  have c1_2_1 : w1.cell? ⟨w.heap.size + 1 + 1, 1, none⟩ = some ((.slice g3 m3 c3)) := (hc _ _ (by (try simp) <;> omega)).trans (by go_simp)
  have z1_2 : ∀ j, w1.frozen? ⟨w.heap.size + 1 + 1, j, none⟩ = false := fun j => (hf _ _ (by (try simp) <;> omega)).trans (by go_simp)
  have c1_3_0 : w1.cell? ⟨w.heap.size + 1 + 1 + 1, 0, none⟩ = some (.int .i64 0) := (hc _ _ (by (try simp) <;> omega)).trans (by go_simp)
  have c1_3_1 : w1.cell? ⟨w.heap.size + 1 + 1 + 1, 1, none⟩ = some ((.slice none 0 0)) := (hc _ _ (by (try simp) <;> omega)).trans (by go_simp)
  have z1_3 : ∀ j, w1.frozen? ⟨w.heap.size + 1 + 1 + 1, j, none⟩ = false := fun j => (hf _ _ (by (try simp) <;> omega)).trans (by go_simp)
  clear hc hf hb1
  go_wp2_with fail
  refine (H2.out _).mono ?_
  rintro en w2 ⟨rfl, hb2⟩
  have HB2 : Kp (Below w.heap.size w w2) := ⟨Below.trans (by repeat (first | refine Below.alloc ?_ (by have := HB1.out.size; (try simp) <;> omega) _ | refine bDrewN ?_ _ | refine Below.drew ?_ | refine Below.setCell ?_ (by have := HB1.out.size; (try simp) <;> omega) _ | exact HB1.out)) (hb2.mono (by have := HB1.out.size; (try simp) <;> omega))⟩
  have hz2_0 : w.heap.size < w2.heap.size := by have := hb2.size; (try simp at this); omega
  have hz2_1 : w.heap.size + 1 < w2.heap.size := by have := hb2.size; (try simp at this); omega
  have hz2_2 : w.heap.size + 1 + 1 < w2.heap.size := by have := hb2.size; (try simp at this); omega
  have hz2_3 : w.heap.size + 1 + 1 + 1 < w2.heap.size := by have := hb2.size; (try simp at this); omega
  obtain ⟨hc, hf⟩ := bcell hb2
  have c2_0_0 : w2.cell? ⟨w.heap.size, 0, none⟩ = some (.int .i64 sx) := (hc _ _ (by (try simp) <;> omega)).trans (by go_simp)
  have c2_0_1 : w2.cell? ⟨w.heap.size, 1, none⟩ = some ((.slice g1 m1 c1)) := (hc _ _ (by (try simp) <;> omega)).trans (by go_simp)
  have z2_0 : ∀ j, w2.frozen? ⟨w.heap.size, j, none⟩ = false := fun j => (hf _ _ (by (try simp) <;> omega)).trans (by go_simp)
  have c2_1_0 : w2.cell? ⟨w.heap.size + 1, 0, none⟩ = some (.int .i64 sy) := (hc _ _ (by (try simp) <;> omega)).trans (by go_simp)
  have c2_1_1 : w2.cell? ⟨w.heap.size + 1, 1, none⟩ = some ((.slice g2 m2 c2)) := (hc _ _ (by (try simp) <;> omega)).trans (by go_simp)
  have z2_1 : ∀ j, w2.frozen? ⟨w.heap.size + 1, j, none⟩ = false := fun j => (hf _ _ (by (try simp) <;> omega)).trans (by go_simp)
  have c2_2_0 : w2.cell? ⟨w.heap.size + 1 + 1, 0, none⟩ = some (.int .i64 sz) := (hc _ _ (by (try simp) <;> omega)).trans (by go_simp)
  have c2_2_1 : w2.cell? ⟨w.heap.size + 1 + 1, 1, none⟩ = some ((.slice g3 m3 c3)) := (hc _ _ (by (try simp) <;> omega)).trans (by go_simp)
  have z2_2 : ∀ j, w2.frozen? ⟨w.heap.size + 1 + 1, j, none⟩ = false := fun j => (hf _ _ (by (try simp) <;> omega)).trans (by go_simp)
  have c2_3_0 : w2.cell? ⟨w.heap.size + 1 + 1 + 1, 0, none⟩ = some (.int .i64 0) := (hc _ _ (by (try simp) <;> omega)).trans (by go_simp)
  have c2_3_1 : w2.cell? ⟨w.heap.size + 1 + 1 + 1, 1, none⟩ = some ((.slice none 0 0)) := (hc _ _ (by (try simp) <;> omega)).trans (by go_simp)
  have z2_3 : ∀ j, w2.frozen? ⟨w.heap.size + 1 + 1 + 1, j, none⟩ = false := fun j => (hf _ _ (by (try simp) <;> omega)).trans (by go_simp)
  clear hc hf hb2 c1_0_0 c1_0_1 z1_0 c1_1_0 c1_1_1 z1_1 c1_2_0 c1_2_1 z1_2 c1_3_0 c1_3_1 z1_3
  go_wp2_with fail
  refine (H3.out _).mono ?_
  rintro en w3 ⟨rfl, hb3⟩
  have HB3 : Kp (Below w.heap.size w w3) := ⟨Below.trans (by repeat (first | refine Below.alloc ?_ (by have := HB2.out.size; (try simp) <;> omega) _ | refine bDrewN ?_ _ | refine Below.drew ?_ | refine Below.setCell ?_ (by have := HB2.out.size; (try simp) <;> omega) _ | exact HB2.out)) (hb3.mono (by have := HB2.out.size; (try simp) <;> omega))⟩
  have hz3_0 : w.heap.size < w3.heap.size := by have := hb3.size; (try simp at this); omega
  have hz3_1 : w.heap.size + 1 < w3.heap.size := by have := hb3.size; (try simp at this); omega
  have hz3_2 : w.heap.size + 1 + 1 < w3.heap.size := by have := hb3.size; (try simp at this); omega
  have hz3_3 : w.heap.size + 1 + 1 + 1 < w3.heap.size := by have := hb3.size; (try simp at this); omega
  obtain ⟨hc, hf⟩ := bcell hb3
  have c3_0_0 : w3.cell? ⟨w.heap.size, 0, none⟩ = some (.int .i64 sx) := (hc _ _ (by (try simp) <;> omega)).trans (by go_simp)
  have c3_0_1 : w3.cell? ⟨w.heap.size, 1, none⟩ = some ((.slice g1 m1 c1)) := (hc _ _ (by (try simp) <;> omega)).trans (by go_simp)
  have z3_0 : ∀ j, w3.frozen? ⟨w.heap.size, j, none⟩ = false := fun j => (hf _ _ (by (try simp) <;> omega)).trans (by go_simp)
  have c3_1_0 : w3.cell? ⟨w.heap.size + 1, 0, none⟩ = some (.int .i64 sy) := (hc _ _ (by (try simp) <;> omega)).trans (by go_simp)
  have c3_1_1 : w3.cell? ⟨w.heap.size + 1, 1, none⟩ = some ((.slice g2 m2 c2)) := (hc _ _ (by (try simp) <;> omega)).trans (by go_simp)
  have z3_1 : ∀ j, w3.frozen? ⟨w.heap.size + 1, j, none⟩ = false := fun j => (hf _ _ (by (try simp) <;> omega)).trans (by go_simp)
  have c3_2_0 : w3.cell? ⟨w.heap.size + 1 + 1, 0, none⟩ = some (.int .i64 sz) := (hc _ _ (by (try simp) <;> omega)).trans (by go_simp)
  have c3_2_1 : w3.cell? ⟨w.heap.size + 1 + 1, 1, none⟩ = some ((.slice g3 m3 c3)) := (hc _ _ (by (try simp) <;> omega)).trans (by go_simp)
  have z3_2 : ∀ j, w3.frozen? ⟨w.heap.size + 1 + 1, j, none⟩ = false := fun j => (hf _ _ (by (try simp) <;> omega)).trans (by go_simp)
  have c3_3_0 : w3.cell? ⟨w.heap.size + 1 + 1 + 1, 0, none⟩ = some (.int .i64 0) := (hc _ _ (by (try simp) <;> omega)).trans (by go_simp)
  have c3_3_1 : w3.cell? ⟨w.heap.size + 1 + 1 + 1, 1, none⟩ = some ((.slice none 0 0)) := (hc _ _ (by (try simp) <;> omega)).trans (by go_simp)
  have z3_3 : ∀ j, w3.frozen? ⟨w.heap.size + 1 + 1 + 1, j, none⟩ = false := fun j => (hf _ _ (by (try simp) <;> omega)).trans (by go_simp)
  clear hc hf hb3 c2_0_0 c2_0_1 z2_0 c2_1_0 c2_1_1 z2_1 c2_2_0 c2_2_1 z2_2 c2_3_0 c2_3_1 z2_3
  go_wp2
  exact bodyPost_ret (v := .tuple #[.agg #[.int .i64 0, .slice none 0 0], .int .i64 1]) (by simp [results, Try.results38, go_sem, c3_3_0, c3_3_1]) rfl ⟨rfl, by (have hzS := HB3.out.size; (repeat (with_reducible first | exact HB3.out | refine Below.setCell ?_ ?_ _ | refine Below.alloc ?_ ?_ _ | refine Below.drew ?_ | refine bDrewN ?_ _)); all_goals ((try simp) <;> omega))⟩
theorem rHull_no4 (sx sy sz : Int) (g1 g2 g3 : Option Addr) (m1 c1 m2 c2 m3 c3 : Nat) (w : World) (h1 : viewB sx m1 = true) (h2 : viewB sy m2 = true) (h3 : viewB sz m3 = true) (hq : (sx != sy) = false) (hz : (sy != sz) = true) : Calls Try.prog 38 #[.agg #[.int .i64 sx, .slice g1 m1 c1], .agg #[.int .i64 sy, .slice g2 m2 c2], .agg #[.int .i64 sz, .slice g3 m3 c3]] w (OfNo w 1) := by
  have H1 : Kp (∀ W, Calls Try.prog 20 #[.agg #[.int .i64 sx, .slice g1 m1 c1]] W fun e w' => e = .returned (.bool true) ∧ Below W.heap.size W w') := ⟨fun W => h1 ▸ rValidView_any sx g1 m1 c1 W⟩
  have H2 : Kp (∀ W, Calls Try.prog 20 #[.agg #[.int .i64 sy, .slice g2 m2 c2]] W fun e w' => e = .returned (.bool true) ∧ Below W.heap.size W w') := ⟨fun W => h2 ▸ rValidView_any sy g2 m2 c2 W⟩
  have H3 : Kp (∀ W, Calls Try.prog 20 #[.agg #[.int .i64 sz, .slice g3 m3 c3]] W fun e w' => e = .returned (.bool true) ∧ Below W.heap.size W w') := ⟨fun W => h3 ▸ rValidView_any sz g3 m3 c3 W⟩
  clear h1 h2 h3
  go_enter Try.func38, Try.ntmps38
  go_wp2_with fail
  refine (H1.out _).mono ?_
  rintro en w1 ⟨rfl, hb1⟩
  have HB1 : Kp (Below w.heap.size w w1) := ⟨Below.trans (by repeat (first | refine Below.alloc ?_ (by (try simp) <;> omega) _ | refine bDrewN ?_ _ | refine Below.drew ?_ | refine Below.setCell ?_ (by (try simp) <;> omega) _ | exact Below.refl _ _)) (hb1.mono (by (try simp) <;> omega))⟩
  have hz1_0 : w.heap.size < w1.heap.size := by have := hb1.size; (try simp at this); omega
  have hz1_1 : w.heap.size + 1 < w1.heap.size := by have := hb1.size; (try simp at this); omega
  have hz1_2 : w.heap.size + 1 + 1 < w1.heap.size := by have := hb1.size; (try simp at this); omega
  have hz1_3 : w.heap.size + 1 + 1 + 1 < w1.heap.size := by have := hb1.size; (try simp at this); omega
  obtain ⟨hc, hf⟩ := bcell hb1
  have c1_0_0 : w1.cell? ⟨w.heap.size, 0, none⟩ = some (.int .i64 sx) := (hc _ _ (by (try simp) <;> omega)).trans (by go_simp)
  have c1_0_1 : w1.cell? ⟨w.heap.size, 1, none⟩ = some ((.slice g1 m1 c1)) := (hc _ _ (by (try simp) <;> omega)).trans (by go_simp)
  have z1_0 : ∀ j, w1.frozen? ⟨w.heap.size, j, none⟩ = false := fun j => (hf _ _ (by (try simp) <;> omega)).trans (by go_simp)
  have c1_1_0 : w1.cell? ⟨w.heap.size + 1, 0, none⟩ = some (.int .i64 sy) := (hc _ _ (by (try simp) <;> omega)).trans (by go_simp)
  have c1_1_1 : w1.cell? ⟨w.heap.size + 1, 1, none⟩ = some ((.slice g2 m2 c2)) := (hc _ _ (by (try simp) <;> omega)).trans (by go_simp)
  have z1_1 : ∀ j, w1.frozen? ⟨w.heap.size + 1, j, none⟩ = false := fun j => (hf _ _ (by (try simp) <;> omega)).trans (by go_simp)
  have c1_2_0 : w1.cell? ⟨w.heap.size + 1 + 1, 0, none⟩ = some (.int .i64 sz) := (hc _ _ (by (try simp) <;> omega)).trans (by go_simp)
  have c1_2_1 : w1.cell? ⟨w.heap.size + 1 + 1, 1, none⟩ = some ((.slice g3 m3 c3)) := (hc _ _ (by (try simp) <;> omega)).trans (by go_simp)
  have z1_2 : ∀ j, w1.frozen? ⟨w.heap.size + 1 + 1, j, none⟩ = false := fun j => (hf _ _ (by (try simp) <;> omega)).trans (by go_simp)
  have c1_3_0 : w1.cell? ⟨w.heap.size + 1 + 1 + 1, 0, none⟩ = some (.int .i64 0) := (hc _ _ (by (try simp) <;> omega)).trans (by go_simp)
  have c1_3_1 : w1.cell? ⟨w.heap.size + 1 + 1 + 1, 1, none⟩ = some ((.slice none 0 0)) := (hc _ _ (by (try simp) <;> omega)).trans (by go_simp)
  have z1_3 : ∀ j, w1.frozen? ⟨w.heap.size + 1 + 1 + 1, j, none⟩ = false := fun j => (hf _ _ (by (try simp) <;> omega)).trans (by go_simp)
  clear hc hf hb1
  go_wp2_with fail
  refine (H2.out _).mono ?_
  rintro en w2 ⟨rfl, hb2⟩
  have HB2 : Kp (Below w.heap.size w w2) := ⟨Below.trans (by repeat (first | refine Below.alloc ?_ (by have := HB1.out.size; (try simp) <;> omega) _ | refine bDrewN ?_ _ | refine Below.drew ?_ | refine Below.setCell ?_ (by have := HB1.out.size; (try simp) <;> omega) _ | exact HB1.out)) (hb2.mono (by have := HB1.out.size; (try simp) <;> omega))⟩
  have hz2_0 : w.heap.size < w2.heap.size := by have := hb2.size; (try simp at this); omega
  have hz2_1 : w.heap.size + 1 < w2.heap.size := by have := hb2.size; (try simp at this); omega
  have hz2_2 : w.heap.size + 1 + 1 < w2.heap.size := by have := hb2.size; (try simp at this); omega
  have hz2_3 : w.heap.size + 1 + 1 + 1 < w2.heap.size := by have := hb2.size; (try simp at this); omega
  obtain ⟨hc, hf⟩ := bcell hb2
  have c2_0_0 : w2.cell? ⟨w.heap.size, 0, none⟩ = some (.int .i64 sx) := (hc _ _ (by (try simp) <;> omega)).trans (by go_simp)
  have c2_0_1 : w2.cell? ⟨w.heap.size, 1, none⟩ = some ((.slice g1 m1 c1)) := (hc _ _ (by (try simp) <;> omega)).trans (by go_simp)
  have z2_0 : ∀ j, w2.frozen? ⟨w.heap.size, j, none⟩ = false := fun j => (hf _ _ (by (try simp) <;> omega)).trans (by go_simp)
  have c2_1_0 : w2.cell? ⟨w.heap.size + 1, 0, none⟩ = some (.int .i64 sy) := (hc _ _ (by (try simp) <;> omega)).trans (by go_simp)
  have c2_1_1 : w2.cell? ⟨w.heap.size + 1, 1, none⟩ = some ((.slice g2 m2 c2)) := (hc _ _ (by (try simp) <;> omega)).trans (by go_simp)
  have z2_1 : ∀ j, w2.frozen? ⟨w.heap.size + 1, j, none⟩ = false := fun j => (hf _ _ (by (try simp) <;> omega)).trans (by go_simp)
  have c2_2_0 : w2.cell? ⟨w.heap.size + 1 + 1, 0, none⟩ = some (.int .i64 sz) := (hc _ _ (by (try simp) <;> omega)).trans (by go_simp)
  have c2_2_1 : w2.cell? ⟨w.heap.size + 1 + 1, 1, none⟩ = some ((.slice g3 m3 c3)) := (hc _ _ (by (try simp) <;> omega)).trans (by go_simp)
  have z2_2 : ∀ j, w2.frozen? ⟨w.heap.size + 1 + 1, j, none⟩ = false := fun j => (hf _ _ (by (try simp) <;> omega)).trans (by go_simp)
  have c2_3_0 : w2.cell? ⟨w.heap.size + 1 + 1 + 1, 0, none⟩ = some (.int .i64 0) := (hc _ _ (by (try simp) <;> omega)).trans (by go_simp)
  have c2_3_1 : w2.cell? ⟨w.heap.size + 1 + 1 + 1, 1, none⟩ = some ((.slice none 0 0)) := (hc _ _ (by (try simp) <;> omega)).trans (by go_simp)
  have z2_3 : ∀ j, w2.frozen? ⟨w.heap.size + 1 + 1 + 1, j, none⟩ = false := fun j => (hf _ _ (by (try simp) <;> omega)).trans (by go_simp)
  clear hc hf hb2 c1_0_0 c1_0_1 z1_0 c1_1_0 c1_1_1 z1_1 c1_2_0 c1_2_1 z1_2 c1_3_0 c1_3_1 z1_3
  go_wp2_with fail
  refine (H3.out _).mono ?_
  rintro en w3 ⟨rfl, hb3⟩
  have HB3 : Kp (Below w.heap.size w w3) := ⟨Below.trans (by repeat (first | refine Below.alloc ?_ (by have := HB2.out.size; (try simp) <;> omega) _ | refine bDrewN ?_ _ | refine Below.drew ?_ | refine Below.setCell ?_ (by have := HB2.out.size; (try simp) <;> omega) _ | exact HB2.out)) (hb3.mono (by have := HB2.out.size; (try simp) <;> omega))⟩
  have hz3_0 : w.heap.size < w3.heap.size := by have := hb3.size; (try simp at this); omega
  have hz3_1 : w.heap.size + 1 < w3.heap.size := by have := hb3.size; (try simp at this); omega
  have hz3_2 : w.heap.size + 1 + 1 < w3.heap.size := by have := hb3.size; (try simp at this); omega
  have hz3_3 : w.heap.size + 1 + 1 + 1 < w3.heap.size := by have := hb3.size; (try simp at this); omega
  obtain ⟨hc, hf⟩ := bcell hb3
  have c3_0_0 : w3.cell? ⟨w.heap.size, 0, none⟩ = some (.int .i64 sx) := (hc _ _ (by (try simp) <;> omega)).trans (by go_simp)
  have c3_0_1 : w3.cell? ⟨w.heap.size, 1, none⟩ = some ((.slice g1 m1 c1)) := (hc _ _ (by (try simp) <;> omega)).trans (by go_simp)
  have z3_0 : ∀ j, w3.frozen? ⟨w.heap.size, j, none⟩ = false := fun j => (hf _ _ (by (try simp) <;> omega)).trans (by go_simp)
  have c3_1_0 : w3.cell? ⟨w.heap.size + 1, 0, none⟩ = some (.int .i64 sy) := (hc _ _ (by (try simp) <;> omega)).trans (by go_simp)
  have c3_1_1 : w3.cell? ⟨w.heap.size + 1, 1, none⟩ = some ((.slice g2 m2 c2)) := (hc _ _ (by (try simp) <;> omega)).trans (by go_simp)
  have z3_1 : ∀ j, w3.frozen? ⟨w.heap.size + 1, j, none⟩ = false := fun j => (hf _ _ (by (try simp) <;> omega)).trans (by go_simp)
  have c3_2_0 : w3.cell? ⟨w.heap.size + 1 + 1, 0, none⟩ = some (.int .i64 sz) := (hc _ _ (by (try simp) <;> omega)).trans (by go_simp)
  have c3_2_1 : w3.cell? ⟨w.heap.size + 1 + 1, 1, none⟩ = some ((.slice g3 m3 c3)) := (hc _ _ (by (try simp) <;> omega)).trans (by go_simp)
  have z3_2 : ∀ j, w3.frozen? ⟨w.heap.size + 1 + 1, j, none⟩ = false := fun j => (hf _ _ (by (try simp) <;> omega)).trans (by go_simp)
  have c3_3_0 : w3.cell? ⟨w.heap.size + 1 + 1 + 1, 0, none⟩ = some (.int .i64 0) := (hc _ _ (by (try simp) <;> omega)).trans (by go_simp)
  have c3_3_1 : w3.cell? ⟨w.heap.size + 1 + 1 + 1, 1, none⟩ = some ((.slice none 0 0)) := (hc _ _ (by (try simp) <;> omega)).trans (by go_simp)
  have z3_3 : ∀ j, w3.frozen? ⟨w.heap.size + 1 + 1 + 1, j, none⟩ = false := fun j => (hf _ _ (by (try simp) <;> omega)).trans (by go_simp)
  clear hc hf hb3 c2_0_0 c2_0_1 z2_0 c2_1_0 c2_1_1 z2_1 c2_2_0 c2_2_1 z2_2 c2_3_0 c2_3_1 z2_3
  go_wp2
  exact bodyPost_ret (v := .tuple #[.agg #[.int .i64 0, .slice none 0 0], .int .i64 1]) (by simp [results, Try.results38, go_sem, c3_3_0, c3_3_1]) rfl ⟨rfl, by (have hzS := HB3.out.size; (repeat (with_reducible first | exact HB3.out | refine Below.setCell ?_ ?_ _ | refine Below.alloc ?_ ?_ _ | refine Below.drew ?_ | refine bDrewN ?_ _)); all_goals ((try simp) <;> omega))⟩
theorem below_step {A B C : World} (h : Below A.heap.size A B) (k : Below B.heap.size B C) : Below A.heap.size A C := h.trans (k.mono h.size)
theorem below_drewn (A : World) : Below A.heap.size A A.drew := (Below.refl _ _).drew
/-- The cells of the call's own while the hull is made. -/
def huP (Z s N N3 M Q : Nat) (g1 g2 g3 : Option Addr) (c1 c2 c3 : Nat) : List (Nat × Nat × Value) := [(Z, 0, .int .i64 s), (Z, 1, .slice g1 N c1), (Z + 1, 1, .slice g2 N c2), (Z + 1 + 1, 1, .slice g3 N c3), (Q, 0, .int .i64 s), (Q, 1, .slice (some ⟨M, 0, none⟩) N3 N3), (Z + 1 + 1 + 1, 0, .int .i64 0), (Z + 1 + 1 + 1, 1, .slice none 0 0)]
structure HuI (w : World) (Z s N N3 M Q : Nat) (g1 g2 g3 : Option Addr) (c1 c2 c3 : Nat) (L : List Bool) (W : World) : Prop where
  hd : Hd w (huP Z s N N3 M Q g1 g2 g3 c1 c2 c3) W
  mr : MR M N3 N3 L W
variable {w W V : World} {Z s N N3 M Q : Nat} {g1 g2 g3 : Option Addr} {c1 c2 c3 : Nat} {L : List Bool}
theorem HuI.on (k : HuI w Z s N N3 M Q g1 g2 g3 c1 c2 c3 L W) (hN : 0 < N3) (hb : Below W.heap.size W V) : HuI w Z s N N3 M Q g1 g2 g3 c1 c2 c3 L V := ⟨k.hd.on hb, k.mr.on hN hb⟩
theorem HuI.fill {j : Nat} {x : Bool} (k : HuI w Z s N N3 M Q g1 g2 g3 c1 c2 c3 (fillL L j) W) (hx : L[j]? = some x) (hj : j < N3) (hZ : w.heap.size = Z) (hM : Z + 3 < M) (hMQ : M ≠ Q) : HuI w Z s N N3 M Q g1 g2 g3 c1 c2 c3 (fillL L (j + 1)) (W.setCell ⟨M, j, none⟩ (.bool x)) :=
  ⟨k.hd.store (by omega) (fun p hp => by
    simp only [huP, List.mem_cons, List.not_mem_nil, or_false] at hp
    rcases hp with rfl | rfl | rfl | rfl | rfl | rfl | rfl | rfl <;> simp only <;> omega), fill_set hx ▸ k.mr.set_ hj x⟩
theorem HuI.cells (k : HuI w Z s N N3 M Q g1 g2 g3 c1 c2 c3 L W) : W.cell? ⟨Z, 0, none⟩ = some (.int .i64 s) ∧ W.cell? ⟨Z, 1, none⟩ = some (.slice g1 N c1) ∧ W.cell? ⟨Z + 1, 1, none⟩ = some (.slice g2 N c2) ∧ W.cell? ⟨Z + 1 + 1, 1, none⟩ = some (.slice g3 N c3) ∧ W.cell? ⟨Q, 0, none⟩ = some (.int .i64 s) ∧ W.cell? ⟨Q, 1, none⟩ = some (.slice (some ⟨M, 0, none⟩) N3 N3) := by
  have h := k.hd.cells
  exact ⟨(h (Z, 0, .int .i64 s) (by simp [huP])).1, (h (Z, 1, .slice g1 N c1) (by simp [huP])).1, (h (Z + 1, 1, .slice g2 N c2) (by simp [huP])).1, (h (Z + 1 + 1, 1, .slice g3 N c3) (by simp [huP])).1, (h (Q, 0, .int .i64 s) (by simp [huP])).1, (h (Q, 1, .slice (some ⟨M, 0, none⟩) N3 N3) (by simp [huP])).1⟩
theorem HuI.res (k : HuI w Z s N N3 M Q g1 g2 g3 c1 c2 c3 L W) : W.cell? ⟨Z + 1 + 1 + 1, 0, none⟩ = some (.int .i64 0) ∧ W.cell? ⟨Z + 1 + 1 + 1, 1, none⟩ = some (.slice none 0 0) ∧ W.frozen? ⟨Z + 1 + 1 + 1, 0, none⟩ = false ∧ W.frozen? ⟨Z + 1 + 1 + 1, 1, none⟩ = false := by
  have h := k.hd.cells
  exact ⟨(h (Z + 1 + 1 + 1, 0, .int .i64 0) (by simp [huP])).1, (h (Z + 1 + 1 + 1, 1, .slice none 0 0) (by simp [huP])).1, (h (Z + 1 + 1 + 1, 0, .int .i64 0) (by simp [huP])).2, (h (Z + 1 + 1 + 1, 1, .slice none 0 0) (by simp [huP])).2⟩
theorem HuI.start {w3 : World} {t : TypeId} (h : w3.alloc (.cells #[.int .i64 s, .slice (some ⟨M, 0, none⟩) N3 N3] t) = V) (hN : 0 < N3) (hb : Below w.heap.size w w3) (hm : MR M N3 N3 L w3)
    (h0 : w3.cell? ⟨Z, 0, none⟩ = some (.int .i64 s)) (h1 : w3.cell? ⟨Z, 1, none⟩ = some (.slice g1 N c1)) (h2 : w3.cell? ⟨Z + 1, 1, none⟩ = some (.slice g2 N c2)) (h5 : w3.cell? ⟨Z + 1 + 1, 1, none⟩ = some (.slice g3 N c3)) (h3 : w3.cell? ⟨Z + 1 + 1 + 1, 0, none⟩ = some (.int .i64 0)) (h4 : w3.cell? ⟨Z + 1 + 1 + 1, 1, none⟩ = some (.slice none 0 0))
    (z1 : ∀ j, w3.frozen? ⟨Z, j, none⟩ = false) (z2 : ∀ j, w3.frozen? ⟨Z + 1, j, none⟩ = false) (z5 : ∀ j, w3.frozen? ⟨Z + 1 + 1, j, none⟩ = false) (z3 : ∀ j, w3.frozen? ⟨Z + 1 + 1 + 1, j, none⟩ = false) : HuI w Z s N N3 M w3.heap.size g1 g2 g3 c1 c2 c3 L V ∧ M ≠ w3.heap.size := by
  subst h
  have hb2 : Below w3.heap.size w3 (w3.alloc (.cells #[.int .i64 s, .slice (some ⟨M, 0, none⟩) N3 N3] t)) := by repeat (first | exact Below.refl _ _ | refine Below.alloc ?_ (by simp <;> omega) _ | refine bDrewN ?_ _ | refine Below.drew ?_)
  refine ⟨⟨⟨hb.alloc hb.size _, ?_⟩, hm.on hN hb2⟩, Nat.ne_of_lt (hm.lt hN)⟩
  intro p hp
  have up : ∀ {b i : Nat} {v : Value}, w3.cell? ⟨b, i, none⟩ = some v → w3.frozen? ⟨b, i, none⟩ = false → (w3.alloc (.cells #[.int .i64 s, .slice (some ⟨M, 0, none⟩) N3 N3] t)).cell? ⟨b, i, none⟩ = some v ∧ (w3.alloc (.cells #[.int .i64 s, .slice (some ⟨M, 0, none⟩) N3 N3] t)).frozen? ⟨b, i, none⟩ = false := fun hv hz => ⟨(hb2.cell (p := ⟨_, _, none⟩) (World.block_lt_of_cell? _ _ hv)).trans hv, (hb2.frozen (p := ⟨_, _, none⟩) (World.block_lt_of_cell? _ _ hv)).trans hz⟩
  simp only [huP, List.mem_cons, List.not_mem_nil, or_false] at hp
  rcases hp with rfl | rfl | rfl | rfl | rfl | rfl | rfl | rfl
  · exact up h0 (z1 _)
  · exact up h1 (z1 _)
  · exact up h2 (z2 _)
  · exact up h5 (z5 _)
  · exact ⟨by go_simp, by go_simp⟩
  · exact ⟨by go_simp, by go_simp⟩
  · exact up h3 (z3 _)
  · exact up h4 (z3 _)
theorem hull_at {s j : Nat} {a b c : List Bool} {x y z : Bool} (hj : j < s * s * s) (hx : a[sqIx s (axSq 0) (grAt s j)]? = some x) (hy : b[sqIx s (axSq 1) (grAt s j)]? = some y) (hz : c[sqIx s (axSq 2) (grAt s j)]? = some z) : (hullB s a b c)[j]? = some (x && (y && z)) := by
  unfold hullB
  rw [List.getElem?_map, places_at hj, Option.map_some]
  unfold onB
  have e : List.range 3 = [0, 1, 2] := rfl
  rw [e]
  simp only [List.all_cons, List.all_nil, Bool.and_true]
  have e0 : (hs3 a b c 0).getD (sqIx s (axSq 0) (grAt s j)) false = x := by rw [List.getD_eq_getElem?_getD]; exact (congrArg (fun o => o.getD false) hx)
  have e1 : (hs3 a b c 1).getD (sqIx s (axSq 1) (grAt s j)) false = y := by rw [List.getD_eq_getElem?_getD]; exact (congrArg (fun o => o.getD false) hy)
  have e2 : (hs3 a b c 2).getD (sqIx s (axSq 2) (grAt s j)) false = z := by rw [List.getD_eq_getElem?_getD]; exact (congrArg (fun o => o.getD false) hz)
  rw [e0, e1, e2]
/-- What the drawn statement reads. -/
def SqS (Z Q G M s N N3 c1 c2 c3 b1 o1 b2 o2 b3 o3 q0 q1 q2 : Nat) (x y z : Bool) (gx gy gz : Int) (w' : World) : Prop :=
  w'.cell? ⟨Q, 1, none⟩ = some (.slice (some ⟨M, 0, none⟩) N3 N3) ∧ w'.cell? ⟨Z, 0, none⟩ = some (.int .i64 s) ∧ w'.cell? ⟨Z, 1, none⟩ = some (.slice (some ⟨b1, o1, none⟩) N c1) ∧ w'.cell? ⟨Z + 1, 1, none⟩ = some (.slice (some ⟨b2, o2, none⟩) N c2) ∧ w'.cell? ⟨Z + 1 + 1, 1, none⟩ = some (.slice (some ⟨b3, o3, none⟩) N c3) ∧ w'.cell? ⟨G, 0, none⟩ = some (.int .i64 gx) ∧ w'.cell? ⟨G, 1, none⟩ = some (.int .i64 gy) ∧ w'.cell? ⟨G, 2, none⟩ = some (.int .i64 gz) ∧ w'.cell? ⟨b1, o1 + q0, none⟩ = some (.bool x) ∧ w'.cell? ⟨b2, o2 + q1, none⟩ = some (.bool y) ∧ w'.cell? ⟨b3, o3 + q2, none⟩ = some (.bool z)
set_option maxRecDepth 100000 in
set_option maxHeartbeats 16000000 in
theorem rHull_walk (s N N3 : Nat) (g1 g2 g3 : Option Addr) (c1 c2 c3 : Nat) (a b c : List Bool) (w : World) (hs1 : 1 ≤ s) (hs2 : s ≤ 10) (hN : s * s = N) (hN3 : s * s * s = N3) (hu : LB w (.slice g1 N c1) a) (hv : LB w (.slice g2 N c2) b) (ht : LB w (.slice g3 N c3) c) (la : a.length = N) (lb : b.length = N) (lc : c.length = N) (hvb : viewB s N = true) :
    Calls Try.prog 38 #[.agg #[.int .i64 s, .slice g1 N c1], .agg #[.int .i64 s, .slice g2 N c2], .agg #[.int .i64 s, .slice g3 N c3]] w fun e w' => ∃ r, e = .returned (.tuple #[r, .int .i64 0]) ∧ VB w' r s (hullB s a b c) ∧ Below w.heap.size w w' := by
  have HW : Kp (∀ W g c, Calls Try.prog 20 #[.agg #[.int .i64 s, .slice g N c]] W fun e w' => e = .returned (.bool true) ∧ Below W.heap.size W w') := ⟨fun W g c => hvb ▸ rValidView_any s g N c W⟩
  have HE : Kp (∀ W, Calls Try.prog 81 #[.int .i64 s] W fun e w' => ∃ M, e = .returned (.agg #[.int .i64 s, .slice (some ⟨M, 0, none⟩) N3 N3]) ∧ W.heap.size < M ∧ MR M N3 N3 (List.replicate N3 false) w' ∧ Below W.heap.size W w') := ⟨fun W => hN3 ▸ rempty_any s hs2 W⟩
  have HGR : Kp (∀ W (k : Nat), k ≤ 100000 → Calls Try.prog 99 #[.int .i64 s, .int .i64 k] W fun e w' => e = .returned (.agg #[.int .i64 (grAt s k).x, .int .i64 (grAt s k).y, .int .i64 (grAt s k).z]) ∧ Below W.heap.size W w') := ⟨fun W k hk => rgrain_any s k hs1 hk W⟩
  have HSQ : Kp (∀ W j, j < N3 → ∀ k : Nat, k < 3 → Calls Try.prog 100 #[.int .i64 s, .agg #[.int .i64 (grAt s j).x, .int .i64 (grAt s j).y, .int .i64 (grAt s j).z], .int .i64 (k : Int)] W fun e w' => e = .returned (.int .i64 (sqIx s (axSq k) (grAt s j))) ∧ Below W.heap.size W w') := ⟨fun W j hj k hk => rsquare_any s k (grAt s j) hk hs2 (grAt_ins (hN3 ▸ hj)) W⟩
  have HLT : Kp (∀ j k, j < N3 → sqIx s (axSq k) (grAt s j) < N) := ⟨fun j k hj => hN ▸ axSq_lt (grAt_ins (hN3 ▸ hj))⟩
  obtain ⟨L, hL⟩ : ∃ L, hullB s a b c = L := ⟨_, rfl⟩
  have HLL : Kp (L.length = N3) := ⟨by rw [← hL, ← hN3]; unfold hullB; rw [List.length_map, places_len]⟩
  have HLA : Kp (∀ j x y z, j < N3 → a[sqIx s (axSq 0) (grAt s j)]? = some x → b[sqIx s (axSq 1) (grAt s j)]? = some y → c[sqIx s (axSq 2) (grAt s j)]? = some z → L[j]? = some (x && (y && z))) := ⟨fun j x y z hj hx hy hz => hL ▸ hull_at (hN3 ▸ hj) hx hy hz⟩
  rw [hL]
  have HN : Kp (N ≤ 100 ∧ N3 ≤ 1000) := ⟨by rw [← hN, ← hN3]; exact cube_bd hs2⟩
  have HP : Kp (0 < N3) := ⟨by rw [← hN3]; exact Nat.mul_pos (Nat.mul_pos hs1 hs1) hs1⟩
  obtain ⟨ga, ca, ea, -, hia⟩ := hu
  obtain ⟨gb, cb, eb, -, hib⟩ := hv
  obtain ⟨gc, cc, ec, -, hic⟩ := ht
  simp only [Value.slice.injEq] at ea eb ec
  obtain ⟨rfl, -, rfl⟩ := ea
  obtain ⟨rfl, -, rfl⟩ := eb
  obtain ⟨rfl, -, rfl⟩ := ec
  have HA := Lib.hid hia
  have HB := Lib.hid hib
  have HC := Lib.hid hic
  have HLN := Kp.mk (And.intro la (And.intro lb lc))
  have t1 : ((s : Int) != (s : Int)) = false := by simp
  clear hia hib hic la lb lc hvb hN hN3 hL hs1 hs2
  go_enter Try.func38, Try.ntmps38
  go_wp2_with fail
  refine (HW.out _ _ _).mono ?_
  rintro en w1 ⟨rfl, hb1⟩
  have HB1 : Kp (Below w.heap.size w w1) := ⟨Below.trans (by repeat (first | refine Below.alloc ?_ (by (try simp) <;> omega) _ | refine bDrewN ?_ _ | refine Below.drew ?_ | refine Below.setCell ?_ (by (try simp) <;> omega) _ | exact Below.refl _ _)) (hb1.mono (by (try simp) <;> omega))⟩
  have hz1_0 : w.heap.size < w1.heap.size := by have := hb1.size; (try simp at this); omega
  have hz1_1 : w.heap.size + 1 < w1.heap.size := by have := hb1.size; (try simp at this); omega
  have hz1_2 : w.heap.size + 1 + 1 < w1.heap.size := by have := hb1.size; (try simp at this); omega
  have hz1_3 : w.heap.size + 1 + 1 + 1 < w1.heap.size := by have := hb1.size; (try simp at this); omega
  obtain ⟨hc, hf⟩ := bcell hb1
  have c1_0_0 : w1.cell? ⟨w.heap.size, 0, none⟩ = some (.int .i64 s) := (hc _ _ (by (try simp) <;> omega)).trans (by go_simp)
  have c1_0_1 : w1.cell? ⟨w.heap.size, 1, none⟩ = some ((.slice g1 N c1)) := (hc _ _ (by (try simp) <;> omega)).trans (by go_simp)
  have z1_0 : ∀ j, w1.frozen? ⟨w.heap.size, j, none⟩ = false := fun j => (hf _ _ (by (try simp) <;> omega)).trans (by go_simp)
  have c1_1_0 : w1.cell? ⟨w.heap.size + 1, 0, none⟩ = some (.int .i64 s) := (hc _ _ (by (try simp) <;> omega)).trans (by go_simp)
  have c1_1_1 : w1.cell? ⟨w.heap.size + 1, 1, none⟩ = some ((.slice g2 N c2)) := (hc _ _ (by (try simp) <;> omega)).trans (by go_simp)
  have z1_1 : ∀ j, w1.frozen? ⟨w.heap.size + 1, j, none⟩ = false := fun j => (hf _ _ (by (try simp) <;> omega)).trans (by go_simp)
  have c1_2_0 : w1.cell? ⟨w.heap.size + 1 + 1, 0, none⟩ = some (.int .i64 s) := (hc _ _ (by (try simp) <;> omega)).trans (by go_simp)
  have c1_2_1 : w1.cell? ⟨w.heap.size + 1 + 1, 1, none⟩ = some ((.slice g3 N c3)) := (hc _ _ (by (try simp) <;> omega)).trans (by go_simp)
  have z1_2 : ∀ j, w1.frozen? ⟨w.heap.size + 1 + 1, j, none⟩ = false := fun j => (hf _ _ (by (try simp) <;> omega)).trans (by go_simp)
  have c1_3_0 : w1.cell? ⟨w.heap.size + 1 + 1 + 1, 0, none⟩ = some (.int .i64 0) := (hc _ _ (by (try simp) <;> omega)).trans (by go_simp)
  have c1_3_1 : w1.cell? ⟨w.heap.size + 1 + 1 + 1, 1, none⟩ = some ((.slice none 0 0)) := (hc _ _ (by (try simp) <;> omega)).trans (by go_simp)
  have z1_3 : ∀ j, w1.frozen? ⟨w.heap.size + 1 + 1 + 1, j, none⟩ = false := fun j => (hf _ _ (by (try simp) <;> omega)).trans (by go_simp)
  clear hc hf hb1
  go_wp2_with fail
  refine (HW.out _ _ _).mono ?_
  rintro en w2 ⟨rfl, hb2⟩
  have HB2 : Kp (Below w.heap.size w w2) := ⟨Below.trans (by repeat (first | refine Below.alloc ?_ (by have := HB1.out.size; (try simp) <;> omega) _ | refine bDrewN ?_ _ | refine Below.drew ?_ | refine Below.setCell ?_ (by have := HB1.out.size; (try simp) <;> omega) _ | exact HB1.out)) (hb2.mono (by have := HB1.out.size; (try simp) <;> omega))⟩
  have hz2_0 : w.heap.size < w2.heap.size := by have := hb2.size; (try simp at this); omega
  have hz2_1 : w.heap.size + 1 < w2.heap.size := by have := hb2.size; (try simp at this); omega
  have hz2_2 : w.heap.size + 1 + 1 < w2.heap.size := by have := hb2.size; (try simp at this); omega
  have hz2_3 : w.heap.size + 1 + 1 + 1 < w2.heap.size := by have := hb2.size; (try simp at this); omega
  obtain ⟨hc, hf⟩ := bcell hb2
  have c2_0_0 : w2.cell? ⟨w.heap.size, 0, none⟩ = some (.int .i64 s) := (hc _ _ (by (try simp) <;> omega)).trans (by go_simp)
  have c2_0_1 : w2.cell? ⟨w.heap.size, 1, none⟩ = some ((.slice g1 N c1)) := (hc _ _ (by (try simp) <;> omega)).trans (by go_simp)
  have z2_0 : ∀ j, w2.frozen? ⟨w.heap.size, j, none⟩ = false := fun j => (hf _ _ (by (try simp) <;> omega)).trans (by go_simp)
  have c2_1_0 : w2.cell? ⟨w.heap.size + 1, 0, none⟩ = some (.int .i64 s) := (hc _ _ (by (try simp) <;> omega)).trans (by go_simp)
  have c2_1_1 : w2.cell? ⟨w.heap.size + 1, 1, none⟩ = some ((.slice g2 N c2)) := (hc _ _ (by (try simp) <;> omega)).trans (by go_simp)
  have z2_1 : ∀ j, w2.frozen? ⟨w.heap.size + 1, j, none⟩ = false := fun j => (hf _ _ (by (try simp) <;> omega)).trans (by go_simp)
  have c2_2_0 : w2.cell? ⟨w.heap.size + 1 + 1, 0, none⟩ = some (.int .i64 s) := (hc _ _ (by (try simp) <;> omega)).trans (by go_simp)
  have c2_2_1 : w2.cell? ⟨w.heap.size + 1 + 1, 1, none⟩ = some ((.slice g3 N c3)) := (hc _ _ (by (try simp) <;> omega)).trans (by go_simp)
  have z2_2 : ∀ j, w2.frozen? ⟨w.heap.size + 1 + 1, j, none⟩ = false := fun j => (hf _ _ (by (try simp) <;> omega)).trans (by go_simp)
  have c2_3_0 : w2.cell? ⟨w.heap.size + 1 + 1 + 1, 0, none⟩ = some (.int .i64 0) := (hc _ _ (by (try simp) <;> omega)).trans (by go_simp)
  have c2_3_1 : w2.cell? ⟨w.heap.size + 1 + 1 + 1, 1, none⟩ = some ((.slice none 0 0)) := (hc _ _ (by (try simp) <;> omega)).trans (by go_simp)
  have z2_3 : ∀ j, w2.frozen? ⟨w.heap.size + 1 + 1 + 1, j, none⟩ = false := fun j => (hf _ _ (by (try simp) <;> omega)).trans (by go_simp)
  clear hc hf hb2
  go_wp2_with fail
  refine (HW.out _ _ _).mono ?_
  rintro en w3 ⟨rfl, hb3⟩
  have HB3 : Kp (Below w.heap.size w w3) := ⟨Below.trans (by repeat (first | refine Below.alloc ?_ (by have := HB2.out.size; (try simp) <;> omega) _ | refine bDrewN ?_ _ | refine Below.drew ?_ | refine Below.setCell ?_ (by have := HB2.out.size; (try simp) <;> omega) _ | exact HB2.out)) (hb3.mono (by have := HB2.out.size; (try simp) <;> omega))⟩
  have hz3_0 : w.heap.size < w3.heap.size := by have := hb3.size; (try simp at this); omega
  have hz3_1 : w.heap.size + 1 < w3.heap.size := by have := hb3.size; (try simp at this); omega
  have hz3_2 : w.heap.size + 1 + 1 < w3.heap.size := by have := hb3.size; (try simp at this); omega
  have hz3_3 : w.heap.size + 1 + 1 + 1 < w3.heap.size := by have := hb3.size; (try simp at this); omega
  obtain ⟨hc, hf⟩ := bcell hb3
  have c3_0_0 : w3.cell? ⟨w.heap.size, 0, none⟩ = some (.int .i64 s) := (hc _ _ (by (try simp) <;> omega)).trans (by go_simp)
  have c3_0_1 : w3.cell? ⟨w.heap.size, 1, none⟩ = some ((.slice g1 N c1)) := (hc _ _ (by (try simp) <;> omega)).trans (by go_simp)
  have z3_0 : ∀ j, w3.frozen? ⟨w.heap.size, j, none⟩ = false := fun j => (hf _ _ (by (try simp) <;> omega)).trans (by go_simp)
  have c3_1_0 : w3.cell? ⟨w.heap.size + 1, 0, none⟩ = some (.int .i64 s) := (hc _ _ (by (try simp) <;> omega)).trans (by go_simp)
  have c3_1_1 : w3.cell? ⟨w.heap.size + 1, 1, none⟩ = some ((.slice g2 N c2)) := (hc _ _ (by (try simp) <;> omega)).trans (by go_simp)
  have z3_1 : ∀ j, w3.frozen? ⟨w.heap.size + 1, j, none⟩ = false := fun j => (hf _ _ (by (try simp) <;> omega)).trans (by go_simp)
  have c3_2_0 : w3.cell? ⟨w.heap.size + 1 + 1, 0, none⟩ = some (.int .i64 s) := (hc _ _ (by (try simp) <;> omega)).trans (by go_simp)
  have c3_2_1 : w3.cell? ⟨w.heap.size + 1 + 1, 1, none⟩ = some ((.slice g3 N c3)) := (hc _ _ (by (try simp) <;> omega)).trans (by go_simp)
  have z3_2 : ∀ j, w3.frozen? ⟨w.heap.size + 1 + 1, j, none⟩ = false := fun j => (hf _ _ (by (try simp) <;> omega)).trans (by go_simp)
  have c3_3_0 : w3.cell? ⟨w.heap.size + 1 + 1 + 1, 0, none⟩ = some (.int .i64 0) := (hc _ _ (by (try simp) <;> omega)).trans (by go_simp)
  have c3_3_1 : w3.cell? ⟨w.heap.size + 1 + 1 + 1, 1, none⟩ = some ((.slice none 0 0)) := (hc _ _ (by (try simp) <;> omega)).trans (by go_simp)
  have z3_3 : ∀ j, w3.frozen? ⟨w.heap.size + 1 + 1 + 1, j, none⟩ = false := fun j => (hf _ _ (by (try simp) <;> omega)).trans (by go_simp)
  clear hc hf hb3
  go_wp2_with fail
  refine (HE.out _).mono ?_
  rintro en w4 ⟨M, rfl, hM, hmr, hb4⟩
  have HM : Kp (w.heap.size + 3 < M) := ⟨by omega⟩
  have HB4 : Kp (Below w.heap.size w w4) := ⟨Below.trans (by repeat (first | refine Below.alloc ?_ (by have := HB3.out.size; (try simp) <;> omega) _ | refine bDrewN ?_ _ | refine Below.drew ?_ | refine Below.setCell ?_ (by have := HB3.out.size; (try simp) <;> omega) _ | exact HB3.out)) (hb4.mono (by have := HB3.out.size; (try simp) <;> omega))⟩
  have hz4_0 : w.heap.size < w4.heap.size := by have := hb4.size; (try simp at this); omega
  have hz4_1 : w.heap.size + 1 < w4.heap.size := by have := hb4.size; (try simp at this); omega
  have hz4_2 : w.heap.size + 1 + 1 < w4.heap.size := by have := hb4.size; (try simp at this); omega
  have hz4_3 : w.heap.size + 1 + 1 + 1 < w4.heap.size := by have := hb4.size; (try simp at this); omega
  obtain ⟨hc, hf⟩ := bcell hb4
  have c4_0_0 : w4.cell? ⟨w.heap.size, 0, none⟩ = some (.int .i64 s) := (hc _ _ (by (try simp) <;> omega)).trans (by go_simp)
  have c4_0_1 : w4.cell? ⟨w.heap.size, 1, none⟩ = some ((.slice g1 N c1)) := (hc _ _ (by (try simp) <;> omega)).trans (by go_simp)
  have z4_0 : ∀ j, w4.frozen? ⟨w.heap.size, j, none⟩ = false := fun j => (hf _ _ (by (try simp) <;> omega)).trans (by go_simp)
  have c4_1_0 : w4.cell? ⟨w.heap.size + 1, 0, none⟩ = some (.int .i64 s) := (hc _ _ (by (try simp) <;> omega)).trans (by go_simp)
  have c4_1_1 : w4.cell? ⟨w.heap.size + 1, 1, none⟩ = some ((.slice g2 N c2)) := (hc _ _ (by (try simp) <;> omega)).trans (by go_simp)
  have z4_1 : ∀ j, w4.frozen? ⟨w.heap.size + 1, j, none⟩ = false := fun j => (hf _ _ (by (try simp) <;> omega)).trans (by go_simp)
  have c4_2_0 : w4.cell? ⟨w.heap.size + 1 + 1, 0, none⟩ = some (.int .i64 s) := (hc _ _ (by (try simp) <;> omega)).trans (by go_simp)
  have c4_2_1 : w4.cell? ⟨w.heap.size + 1 + 1, 1, none⟩ = some ((.slice g3 N c3)) := (hc _ _ (by (try simp) <;> omega)).trans (by go_simp)
  have z4_2 : ∀ j, w4.frozen? ⟨w.heap.size + 1 + 1, j, none⟩ = false := fun j => (hf _ _ (by (try simp) <;> omega)).trans (by go_simp)
  have c4_3_0 : w4.cell? ⟨w.heap.size + 1 + 1 + 1, 0, none⟩ = some (.int .i64 0) := (hc _ _ (by (try simp) <;> omega)).trans (by go_simp)
  have c4_3_1 : w4.cell? ⟨w.heap.size + 1 + 1 + 1, 1, none⟩ = some ((.slice none 0 0)) := (hc _ _ (by (try simp) <;> omega)).trans (by go_simp)
  have z4_3 : ∀ j, w4.frozen? ⟨w.heap.size + 1 + 1 + 1, j, none⟩ = false := fun j => (hf _ _ (by (try simp) <;> omega)).trans (by go_simp)
  clear hc hf hb4
  go_wp2
  obtain ⟨W3, hW3⟩ : ∃ W3, w4.alloc (.cells #[.int .i64 s, .slice (some ⟨M, 0, none⟩) N3 N3] 24) = W3 := ⟨_, rfl⟩
  rw [hW3]
  obtain ⟨hji, hne⟩ := HuI.start (w := w) (Z := w.heap.size) hW3 HP.out HB4.out hmr c4_0_0 c4_0_1 c4_1_1 c4_2_1 c4_3_0 c4_3_1 z4_0 z4_1 z4_2 z4_3
  rw [← HLL.out, ← fill_zero, HLL.out] at hji
  have HJ := Kp.mk hji
  have HNE := Kp.mk hne
  have p4 := hji.cells.2.2.2.2.2
  clear hW3 hji hne hmr hM c4_0_0 c4_0_1 z4_0 hz4_0 c4_1_0 c4_1_1 z4_1 hz4_1 c4_2_0 c4_2_1 z4_2 hz4_2 c4_3_0 c4_3_1 z4_3 hz4_3 HB4 HW HE t1
  generalize w4.heap.size = Q at *
  go_wp2
  clear p4
  go_loopw [45] (fun i wr => ∃ j : Nat, j ≤ N3 ∧ i = .int .i64 j ∧ Kp (HuI w w.heap.size s N N3 M Q g1 g2 g3 c1 c2 c3 (fillL L j) wr)) (fun i _ => N3 - (intOf i).toNat)
  case atStart => exact ⟨0, Nat.zero_le _, rfl, HJ⟩
  case round =>
    clear HJ
    obtain ⟨j, hj, rfl, HJ⟩ := hrel
    by_cases hlt : j < N3
    · obtain ⟨q0, hq0⟩ : ∃ q, sqIx s (axSq 0) (grAt s j) = q := ⟨_, rfl⟩
      obtain ⟨q1, hq1⟩ : ∃ q, sqIx s (axSq 1) (grAt s j) = q := ⟨_, rfl⟩
      obtain ⟨q2, hq2⟩ : ∃ q, sqIx s (axSq 2) (grAt s j) = q := ⟨_, rfl⟩
      have l0 : q0 < N := hq0 ▸ HLT.out j 0 hlt
      have l1 : q1 < N := hq1 ▸ HLT.out j 1 hlt
      have l2 : q2 < N := hq2 ▸ HLT.out j 2 hlt
      obtain ⟨x, hx⟩ : ∃ x, a[q0]? = some x := ⟨_, List.getElem?_eq_getElem (by rw [HLN.out.1]; exact l0)⟩
      obtain ⟨y, hy⟩ : ∃ y, b[q1]? = some y := ⟨_, List.getElem?_eq_getElem (by rw [HLN.out.2.1]; exact l1)⟩
      obtain ⟨z, hz⟩ : ∃ z, c[q2]? = some z := ⟨_, List.getElem?_eq_getElem (by rw [HLN.out.2.2]; exact l2)⟩
      have HX := Kp.mk (HLA.out j x y z hlt (hq0 ▸ hx) (hq1 ▸ hy) (hq2 ▸ hz))
      have K0 := HSQ.out
      have S0 : Kp (∀ W, _) := ⟨fun W => K0 W j hlt 0 (by omega)⟩
      have S1 : Kp (∀ W, _) := ⟨fun W => K0 W j hlt 1 (by omega)⟩
      have S2 : Kp (∀ W, _) := ⟨fun W => K0 W j hlt 2 (by omega)⟩
      have HGJ := Kp.mk (HGR.out wr j (by have := HN.out; omega))
      rw [hq0] at S0
      rw [hq1] at S1
      rw [hq2] at S2
      obtain ⟨G, hG⟩ : ∃ G, grAt s j = G := ⟨_, rfl⟩
      rw [hG] at S0 S1 S2 HGJ
      obtain ⟨gx, gy, gz⟩ := G
      obtain ⟨b1, o1, hg1, hbl1, hc1⟩ := HA.out q0 x hx
      subst hg1
      obtain ⟨b2, o2, hg2, hbl2, hc2⟩ := HB.out q1 y hy
      subst hg2
      obtain ⟨b3, o3, hg3, hbl3, hc3⟩ := HC.out q2 z hz
      subst hg3
      have p0 := HJ.out.cells.1
      have o6 : (j : Int) < (N3 : Int) := by omega
      have o4 : j ≤ 1000 := by have := HN.out; omega
      have HJL := Kp.mk hlt
      have HBX := Kp.mk (And.intro (And.intro hbl1 hc1) (And.intro (And.intro hbl2 hc2) (And.intro hbl3 hc3)))
      simp only at S0 S1 S2 HGJ
      clear hx hy hz hc1 hc2 hc3 hbl1 hbl2 hbl3 hq0 hq1 hq2 hG K0
      go_wp2_with fail
      refine HGJ.out.mono ?_
      rintro en w5 ⟨rfl, hb5⟩
      have HJ5 := Kp.mk (HJ.out.on HP.out hb5)
      clear hb5 p0
      go_wp2
      obtain ⟨W5, hW5⟩ : ∃ W5, w5.alloc (.cells #[.int .i64 gx, .int .i64 gy, .int .i64 gz] 71) = W5 := ⟨_, rfl⟩
      obtain ⟨hb6, e0, e1, e2⟩ := jn_start hW5
      rw [hW5]
      have HJ6 := Kp.mk (HJ5.out.on HP.out hb6)
      obtain ⟨p0, p1, p2, p3, -, p5⟩ := HJ6.out.cells
      have a1 := (HJ6.out.hd.below.cell (p := ⟨b1, o1 + q0, none⟩) HBX.out.1.1).trans HBX.out.1.2
      have a2 := (HJ6.out.hd.below.cell (p := ⟨b2, o2 + q1, none⟩) HBX.out.2.1.1).trans HBX.out.2.1.2
      have a3 := (HJ6.out.hd.below.cell (p := ⟨b3, o3 + q2, none⟩) HBX.out.2.2.1).trans HBX.out.2.2.2
      have a4 := HJ6.out.mr.cell (fill_at (L := L) (k := j) (by rw [HLL.out]; exact HJL.out))
      have a5 := HJ6.out.mr.z j
      have i0 : (q0 : Int) < (N : Int) := by omega
      have i1 : (q1 : Int) < (N : Int) := by omega
      have i2 : (q2 : Int) < (N : Int) := by omega
      have hS5 : SqS w.heap.size Q w5.heap.size M s N N3 c1 c2 c3 b1 o1 b2 o2 b3 o3 q0 q1 q2 x y z gx gy gz W5 := ⟨p5, p0, p1, p2, p3, e0, e1, e2, a1, a2, a3⟩
      have hMG : M < w5.heap.size := HJ5.out.mr.lt HP.out
      have hKeep : Kp (∀ w', Below W5.heap.size W5 w' → SqS w.heap.size Q w5.heap.size M s N N3 c1 c2 c3 b1 o1 b2 o2 b3 o3 q0 q1 q2 x y z gx gy gz w') := ⟨fun w' hb => by
        have up : ∀ {b i : Nat} {v : Value}, W5.cell? ⟨b, i, none⟩ = some v → w'.cell? ⟨b, i, none⟩ = some v := fun hv => (hb.cell (p := ⟨_, _, none⟩) (World.block_lt_of_cell? _ _ hv)).trans hv
        exact ⟨up p5, up p0, up p1, up p2, up p3, up e0, up e1, up e2, up a1, up a2, up a3⟩⟩
      have hKeepM : Kp (∀ w', Below W5.heap.size W5 w' → w'.cell? ⟨M, j, none⟩ = some (.bool false) ∧ w'.frozen? ⟨M, j, none⟩ = false) := ⟨fun w' hb => ⟨(hb.cell (p := ⟨M, j, none⟩) (World.block_lt_of_cell? _ _ a4)).trans a4, (hb.frozen (p := ⟨M, j, none⟩) (World.block_lt_of_cell? _ ⟨M, j, none⟩ a4)).trans a5⟩⟩
      have hKeepS : Kp (∀ w' v, Below W5.heap.size W5 w' → SqS w.heap.size Q w5.heap.size M s N N3 c1 c2 c3 b1 o1 b2 o2 b3 o3 q0 q1 q2 x y z gx gy gz (w'.setCell ⟨M, j, none⟩ v)) := ⟨fun w' v hb => by
        have h1 := HM.out
        have h2 := HNE.out
        have h3 := HBX.out
        have up : ∀ {b i : Nat} {u : Value}, b ≠ M → W5.cell? ⟨b, i, none⟩ = some u → (w'.setCell ⟨M, j, none⟩ v).cell? ⟨b, i, none⟩ = some u := fun hn hv => (World.cell?_setCell_other _ _ _ _ (by intro he; simp only [Addr.mk.injEq] at he; exact hn he.1.symm)).trans ((hb.cell (p := ⟨_, _, none⟩) (World.block_lt_of_cell? _ _ hv)).trans hv)
        exact ⟨up (Ne.symm h2) p5, up (by omega) p0, up (by omega) p1, up (by omega) p2, up (by omega) p3, up (by omega) e0, up (by omega) e1, up (by omega) e2, up (by have := h3.1.1; omega) a1, up (by have := h3.2.1.1; omega) a2, up (by have := h3.2.2.1; omega) a3⟩⟩
      generalize w5.heap.size = G at *
      clear hW5 hb6 e0 e1 e2 p0 p1 p2 p3 p5 a1 a2 a3 a4 a5 hlt l0 l1 l2 hS5 hMG
      cases x with
      | false =>
        refine wp_region_noPanic ?_
        refine region_name0 ?_
        intro ops Qp hops hQp
        have hQP : ∀ c (a : Act) d v w, Qp (.panic c) (a.put d v) w → Qp (.panic c) a w := by subst hQp; exact fun _ _ _ _ _ h => (h : False).elim
        have hns : Region.noSelect ops = true := by rw [hops]; kernel_rfl
        have hsz : ops.size = 33 := by rw [hops]; rfl
        refine wp_region_held_drew (S := SqS w.heap.size Q G M s N N3 c1 c2 c3 b1 o1 b2 o2 b3 o3 q0 q1 q2 false y z gx gy gz) (by kernel_rfl) (hKeep.out _ (below_drewn _)) (fun hS => ?_)
        have hbA := below_drewn W5
        rw [hsz]
        refine wpAnyH_take (i := 0) (v := .pointer (some ⟨Q, 1, none⟩)) (by rw [hops]; rfl) hns (by rw [hops]; kernel_rfl) (by rw [hops]; kernel_rfl) (fun c a w h => hQP c a _ _ w h) (Or.inl ⟨rfl, ?_⟩) hS ?_
        · intro w' hw
          obtain ⟨k1, k2, k3, k4, k5, k6, k7, k8, k9, k10, k11⟩ := hw
          go_simp
        simp only [Act.put, List.setIfInBounds_toArray]
        refine wpAnyH_take (i := 1) (v := .slice (some ⟨M, 0, none⟩) N3 N3) (by rw [hops]; rfl) hns (by rw [hops]; kernel_rfl) (by rw [hops]; kernel_rfl) (fun c a w h => hQP c a _ _ w h) (Or.inl ⟨rfl, ?_⟩) hS ?_
        · intro w' hw
          obtain ⟨k1, k2, k3, k4, k5, k6, k7, k8, k9, k10, k11⟩ := hw
          go_simp
        simp only [Act.put]
        refine wpAnyH_take (i := 2) (v := .int .i64 (j : Int)) (by rw [hops]; rfl) hns (by rw [hops]; kernel_rfl) (by rw [hops]; kernel_rfl) (fun c a w h => hQP c a _ _ w h) (Or.inl ⟨rfl, ?_⟩) hS ?_
        · intro w' hw
          obtain ⟨k1, k2, k3, k4, k5, k6, k7, k8, k9, k10, k11⟩ := hw
          go_simp
        simp only [Act.put]
        refine wpAnyH_take (i := 3) (v := .pointer (some ⟨w.heap.size, 1, none⟩)) (by rw [hops]; rfl) hns (by rw [hops]; kernel_rfl) (by rw [hops]; kernel_rfl) (fun c a w h => hQP c a _ _ w h) (Or.inl ⟨rfl, ?_⟩) hS ?_
        · intro w' hw
          obtain ⟨k1, k2, k3, k4, k5, k6, k7, k8, k9, k10, k11⟩ := hw
          go_simp
        simp only [Act.put]
        refine wpAnyH_take (i := 4) (v := .slice (some ⟨b1, o1, none⟩) N c1) (by rw [hops]; rfl) hns (by rw [hops]; kernel_rfl) (by rw [hops]; kernel_rfl) (fun c a w h => hQP c a _ _ w h) (Or.inl ⟨rfl, ?_⟩) hS ?_
        · intro w' hw
          obtain ⟨k1, k2, k3, k4, k5, k6, k7, k8, k9, k10, k11⟩ := hw
          go_simp
        simp only [Act.put]
        refine wpAnyH_take (i := 5) (v := .pointer (some ⟨w.heap.size, 0, none⟩)) (by rw [hops]; rfl) hns (by rw [hops]; kernel_rfl) (by rw [hops]; kernel_rfl) (fun c a w h => hQP c a _ _ w h) (Or.inl ⟨rfl, ?_⟩) hS ?_
        · intro w' hw
          obtain ⟨k1, k2, k3, k4, k5, k6, k7, k8, k9, k10, k11⟩ := hw
          go_simp
        simp only [Act.put]
        refine wpAnyH_take (i := 6) (v := .int .i64 s) (by rw [hops]; rfl) hns (by rw [hops]; kernel_rfl) (by rw [hops]; kernel_rfl) (fun c a w h => hQP c a _ _ w h) (Or.inl ⟨rfl, ?_⟩) hS ?_
        · intro w' hw
          obtain ⟨k1, k2, k3, k4, k5, k6, k7, k8, k9, k10, k11⟩ := hw
          go_simp
        simp only [Act.put]
        refine wpAnyH_take (i := 7) (v := .agg #[.int .i64 gx, .int .i64 gy, .int .i64 gz]) (by rw [hops]; rfl) hns (by rw [hops]; kernel_rfl) (by rw [hops]; kernel_rfl) (fun c a w h => hQP c a _ _ w h) (Or.inl ⟨rfl, ?_⟩) hS ?_
        · intro w' hw
          obtain ⟨k1, k2, k3, k4, k5, k6, k7, k8, k9, k10, k11⟩ := hw
          go_simp
        simp only [Act.put]
        refine wpAnyH_ready (rs := [8]) (by rw [hops]; kernel_rfl) (by simp) ?_
        refine AllReadyH.cons (by rw [hops]; rfl) (fun K hK => ?_) AllReadyH.nil
        go_simp
        refine (S0.out _).mono ?_
        rintro en w6 ⟨rfl, hb6⟩
        have hbA := below_step hbA hb6
        have hS := hKeep.out _ hbA
        refine hK.out _ _ hS (fun _ => ?_)
        clear hK hb6
        refine wpAnyH_take (i := 9) (v := .pointer (some ⟨b1, o1 + q0, none⟩)) (by rw [hops]; rfl) hns (by rw [hops]; kernel_rfl) (by rw [hops]; kernel_rfl) (fun c a w h => hQP c a _ _ w h) (Or.inl ⟨rfl, ?_⟩) hS ?_
        · intro w' hw
          obtain ⟨k1, k2, k3, k4, k5, k6, k7, k8, k9, k10, k11⟩ := hw
          go_simp
        simp only [Act.put, List.setIfInBounds_toArray]
        refine wpAnyH_take (i := 10) (v := .bool false) (by rw [hops]; rfl) hns (by rw [hops]; kernel_rfl) (by rw [hops]; kernel_rfl) (fun c a w h => hQP c a _ _ w h) (Or.inl ⟨rfl, ?_⟩) hS ?_
        · intro w' hw
          obtain ⟨k1, k2, k3, k4, k5, k6, k7, k8, k9, k10, k11⟩ := hw
          go_simp
        simp only [Act.put]
        refine wpAnyH_take (i := 11) (v := .bool false) (by rw [hops]; rfl) hns (by rw [hops]; kernel_rfl) (by rw [hops]; kernel_rfl) (fun c a w h => hQP c a _ _ w h) (Or.inl ⟨rfl, ?_⟩) hS ?_
        · intro w' hw
          obtain ⟨k1, k2, k3, k4, k5, k6, k7, k8, k9, k10, k11⟩ := hw
          go_simp
        simp only [Act.put]
        refine wpAnyH_take (i := 12) (v := undef) (by rw [hops]; rfl) hns (by rw [hops]; kernel_rfl) (by rw [hops]; kernel_rfl) (fun c a w h => hQP c a _ _ w h) (Or.inr ⟨by rw [hops]; simp [Region.wanted, yielded], rfl⟩) hS ?_
        simp only [Act.put]
        refine wpAnyH_take (i := 13) (v := undef) (by rw [hops]; rfl) hns (by rw [hops]; kernel_rfl) (by rw [hops]; kernel_rfl) (fun c a w h => hQP c a _ _ w h) (Or.inr ⟨by rw [hops]; simp [Region.wanted, yielded], rfl⟩) hS ?_
        simp only [Act.put]
        refine wpAnyH_take (i := 14) (v := undef) (by rw [hops]; rfl) hns (by rw [hops]; kernel_rfl) (by rw [hops]; kernel_rfl) (fun c a w h => hQP c a _ _ w h) (Or.inr ⟨by rw [hops]; simp [Region.wanted, yielded], rfl⟩) hS ?_
        simp only [Act.put]
        refine wpAnyH_take (i := 15) (v := undef) (by rw [hops]; rfl) hns (by rw [hops]; kernel_rfl) (by rw [hops]; kernel_rfl) (fun c a w h => hQP c a _ _ w h) (Or.inr ⟨by rw [hops]; simp [Region.wanted, yielded], rfl⟩) hS ?_
        simp only [Act.put]
        refine wpAnyH_take (i := 16) (v := undef) (by rw [hops]; rfl) hns (by rw [hops]; kernel_rfl) (by rw [hops]; kernel_rfl) (fun c a w h => hQP c a _ _ w h) (Or.inr ⟨by rw [hops]; simp [Region.wanted, yielded], rfl⟩) hS ?_
        simp only [Act.put]
        refine wpAnyH_take (i := 17) (v := undef) (by rw [hops]; rfl) hns (by rw [hops]; kernel_rfl) (by rw [hops]; kernel_rfl) (fun c a w h => hQP c a _ _ w h) (Or.inr ⟨by rw [hops]; simp [Region.wanted, yielded], rfl⟩) hS ?_
        simp only [Act.put]
        refine wpAnyH_take (i := 18) (v := undef) (by rw [hops]; rfl) hns (by rw [hops]; kernel_rfl) (by rw [hops]; kernel_rfl) (fun c a w h => hQP c a _ _ w h) (Or.inr ⟨by rw [hops]; simp [Region.wanted, yielded], rfl⟩) hS ?_
        simp only [Act.put]
        refine wpAnyH_take (i := 19) (v := undef) (by rw [hops]; rfl) hns (by rw [hops]; kernel_rfl) (by rw [hops]; kernel_rfl) (fun c a w h => hQP c a _ _ w h) (Or.inr ⟨by rw [hops]; simp [Region.wanted, yielded], rfl⟩) hS ?_
        simp only [Act.put]
        refine wpAnyH_take (i := 20) (v := .bool false) (by rw [hops]; rfl) hns (by rw [hops]; kernel_rfl) (by rw [hops]; kernel_rfl) (fun c a w h => hQP c a _ _ w h) (Or.inl ⟨rfl, ?_⟩) hS ?_
        · intro w' hw
          obtain ⟨k1, k2, k3, k4, k5, k6, k7, k8, k9, k10, k11⟩ := hw
          go_simp
        simp only [Act.put]
        refine wpAnyH_take (i := 21) (v := .bool false) (by rw [hops]; rfl) hns (by rw [hops]; kernel_rfl) (by rw [hops]; kernel_rfl) (fun c a w h => hQP c a _ _ w h) (Or.inl ⟨rfl, ?_⟩) hS ?_
        · intro w' hw
          obtain ⟨k1, k2, k3, k4, k5, k6, k7, k8, k9, k10, k11⟩ := hw
          go_simp
        simp only [Act.put]
        refine wpAnyH_take (i := 22) (v := undef) (by rw [hops]; rfl) hns (by rw [hops]; kernel_rfl) (by rw [hops]; kernel_rfl) (fun c a w h => hQP c a _ _ w h) (Or.inr ⟨by rw [hops]; simp [Region.wanted, yielded], rfl⟩) hS ?_
        simp only [Act.put]
        refine wpAnyH_take (i := 23) (v := undef) (by rw [hops]; rfl) hns (by rw [hops]; kernel_rfl) (by rw [hops]; kernel_rfl) (fun c a w h => hQP c a _ _ w h) (Or.inr ⟨by rw [hops]; simp [Region.wanted, yielded], rfl⟩) hS ?_
        simp only [Act.put]
        refine wpAnyH_take (i := 24) (v := undef) (by rw [hops]; rfl) hns (by rw [hops]; kernel_rfl) (by rw [hops]; kernel_rfl) (fun c a w h => hQP c a _ _ w h) (Or.inr ⟨by rw [hops]; simp [Region.wanted, yielded], rfl⟩) hS ?_
        simp only [Act.put]
        refine wpAnyH_take (i := 25) (v := undef) (by rw [hops]; rfl) hns (by rw [hops]; kernel_rfl) (by rw [hops]; kernel_rfl) (fun c a w h => hQP c a _ _ w h) (Or.inr ⟨by rw [hops]; simp [Region.wanted, yielded], rfl⟩) hS ?_
        simp only [Act.put]
        refine wpAnyH_take (i := 26) (v := undef) (by rw [hops]; rfl) hns (by rw [hops]; kernel_rfl) (by rw [hops]; kernel_rfl) (fun c a w h => hQP c a _ _ w h) (Or.inr ⟨by rw [hops]; simp [Region.wanted, yielded], rfl⟩) hS ?_
        simp only [Act.put]
        refine wpAnyH_take (i := 27) (v := undef) (by rw [hops]; rfl) hns (by rw [hops]; kernel_rfl) (by rw [hops]; kernel_rfl) (fun c a w h => hQP c a _ _ w h) (Or.inr ⟨by rw [hops]; simp [Region.wanted, yielded], rfl⟩) hS ?_
        simp only [Act.put]
        refine wpAnyH_take (i := 28) (v := undef) (by rw [hops]; rfl) hns (by rw [hops]; kernel_rfl) (by rw [hops]; kernel_rfl) (fun c a w h => hQP c a _ _ w h) (Or.inr ⟨by rw [hops]; simp [Region.wanted, yielded], rfl⟩) hS ?_
        simp only [Act.put]
        refine wpAnyH_take (i := 29) (v := undef) (by rw [hops]; rfl) hns (by rw [hops]; kernel_rfl) (by rw [hops]; kernel_rfl) (fun c a w h => hQP c a _ _ w h) (Or.inr ⟨by rw [hops]; simp [Region.wanted, yielded], rfl⟩) hS ?_
        simp only [Act.put]
        refine wpAnyH_take (i := 30) (v := .bool false) (by rw [hops]; rfl) hns (by rw [hops]; kernel_rfl) (by rw [hops]; kernel_rfl) (fun c a w h => hQP c a _ _ w h) (Or.inl ⟨rfl, ?_⟩) hS ?_
        · intro w' hw
          obtain ⟨k1, k2, k3, k4, k5, k6, k7, k8, k9, k10, k11⟩ := hw
          go_simp
        simp only [Act.put]
        refine wpAnyH_take (i := 31) (v := .pointer (some ⟨M, j, none⟩)) (by rw [hops]; rfl) hns (by rw [hops]; kernel_rfl) (by rw [hops]; kernel_rfl) (fun c a w h => hQP c a _ _ w h) (Or.inl ⟨rfl, ?_⟩) hS ?_
        · intro w' hw
          obtain ⟨k1, k2, k3, k4, k5, k6, k7, k8, k9, k10, k11⟩ := hw
          go_simp
        simp only [Act.put]
        refine wpAnyH_ready (rs := [32]) (by rw [hops]; kernel_rfl) (by simp) ?_
        refine AllReadyH.cons (by rw [hops]; rfl) (fun K hK => ?_) AllReadyH.nil
        have hdone : Region.ready .any ops ((((((((((((((((((((((((((((((((((Array.replicate 33 false).setIfInBounds 0 true).setIfInBounds 1 true).setIfInBounds 2 true).setIfInBounds 3 true).setIfInBounds 4 true).setIfInBounds 5 true).setIfInBounds 6 true).setIfInBounds 7 true).setIfInBounds 8 true).setIfInBounds 9 true).setIfInBounds 10 true).setIfInBounds 11 true).setIfInBounds 12 true).setIfInBounds 13 true).setIfInBounds 14 true).setIfInBounds 15 true).setIfInBounds 16 true).setIfInBounds 17 true).setIfInBounds 18 true).setIfInBounds 19 true).setIfInBounds 20 true).setIfInBounds 21 true).setIfInBounds 22 true).setIfInBounds 23 true).setIfInBounds 24 true).setIfInBounds 25 true).setIfInBounds 26 true).setIfInBounds 27 true).setIfInBounds 28 true).setIfInBounds 29 true).setIfInBounds 30 true).setIfInBounds 31 true).setIfInBounds 32 true) = [] := by rw [hops]; kernel_rfl
        have m1 : w6.cell? ⟨M, j, none⟩ = some (.bool false) := (hKeepM.out w6 hbA).1
        have m2 : w6.frozen? ⟨M, j, none⟩ = false := (hKeepM.out w6 hbA).2
        have hKS := Kp.mk (hKeepS.out w6 (.bool false) hbA)
        clear hops hns hsz hQP hS hKeep hKeepM hKeepS
        go_simp
        refine hK.out _ _ hKS.out (fun _ => ?_)
        refine wpAnyH_done hdone ?_ _
        have HJ9 := Kp.mk ((HJ6.out.on HP.out hbA).fill HX.out HJL.out rfl HM.out HNE.out)
        clear hK m1 m2 hbA hdone hKS
        subst hQp
        refine NoPanic.normal ?_
        go_wp2
        go_roundw
        case rel => exact ⟨j + 1, by omega, by go_num, HJ9⟩
        case measure => simp [intOf]; omega
      | true =>
        cases y with
        | false =>
          refine wp_region_noPanic ?_
          refine region_name0 ?_
          intro ops Qp hops hQp
          have hQP : ∀ c (a : Act) d v w, Qp (.panic c) (a.put d v) w → Qp (.panic c) a w := by subst hQp; exact fun _ _ _ _ _ h => (h : False).elim
          have hns : Region.noSelect ops = true := by rw [hops]; kernel_rfl
          have hsz : ops.size = 33 := by rw [hops]; rfl
          refine wp_region_held_drew (S := SqS w.heap.size Q G M s N N3 c1 c2 c3 b1 o1 b2 o2 b3 o3 q0 q1 q2 true false z gx gy gz) (by kernel_rfl) (hKeep.out _ (below_drewn _)) (fun hS => ?_)
          have hbA := below_drewn W5
          rw [hsz]
          refine wpAnyH_take (i := 0) (v := .pointer (some ⟨Q, 1, none⟩)) (by rw [hops]; rfl) hns (by rw [hops]; kernel_rfl) (by rw [hops]; kernel_rfl) (fun c a w h => hQP c a _ _ w h) (Or.inl ⟨rfl, ?_⟩) hS ?_
          · intro w' hw
            obtain ⟨k1, k2, k3, k4, k5, k6, k7, k8, k9, k10, k11⟩ := hw
            go_simp
          simp only [Act.put, List.setIfInBounds_toArray]
          refine wpAnyH_take (i := 1) (v := .slice (some ⟨M, 0, none⟩) N3 N3) (by rw [hops]; rfl) hns (by rw [hops]; kernel_rfl) (by rw [hops]; kernel_rfl) (fun c a w h => hQP c a _ _ w h) (Or.inl ⟨rfl, ?_⟩) hS ?_
          · intro w' hw
            obtain ⟨k1, k2, k3, k4, k5, k6, k7, k8, k9, k10, k11⟩ := hw
            go_simp
          simp only [Act.put]
          refine wpAnyH_take (i := 2) (v := .int .i64 (j : Int)) (by rw [hops]; rfl) hns (by rw [hops]; kernel_rfl) (by rw [hops]; kernel_rfl) (fun c a w h => hQP c a _ _ w h) (Or.inl ⟨rfl, ?_⟩) hS ?_
          · intro w' hw
            obtain ⟨k1, k2, k3, k4, k5, k6, k7, k8, k9, k10, k11⟩ := hw
            go_simp
          simp only [Act.put]
          refine wpAnyH_take (i := 3) (v := .pointer (some ⟨w.heap.size, 1, none⟩)) (by rw [hops]; rfl) hns (by rw [hops]; kernel_rfl) (by rw [hops]; kernel_rfl) (fun c a w h => hQP c a _ _ w h) (Or.inl ⟨rfl, ?_⟩) hS ?_
          · intro w' hw
            obtain ⟨k1, k2, k3, k4, k5, k6, k7, k8, k9, k10, k11⟩ := hw
            go_simp
          simp only [Act.put]
          refine wpAnyH_take (i := 4) (v := .slice (some ⟨b1, o1, none⟩) N c1) (by rw [hops]; rfl) hns (by rw [hops]; kernel_rfl) (by rw [hops]; kernel_rfl) (fun c a w h => hQP c a _ _ w h) (Or.inl ⟨rfl, ?_⟩) hS ?_
          · intro w' hw
            obtain ⟨k1, k2, k3, k4, k5, k6, k7, k8, k9, k10, k11⟩ := hw
            go_simp
          simp only [Act.put]
          refine wpAnyH_take (i := 5) (v := .pointer (some ⟨w.heap.size, 0, none⟩)) (by rw [hops]; rfl) hns (by rw [hops]; kernel_rfl) (by rw [hops]; kernel_rfl) (fun c a w h => hQP c a _ _ w h) (Or.inl ⟨rfl, ?_⟩) hS ?_
          · intro w' hw
            obtain ⟨k1, k2, k3, k4, k5, k6, k7, k8, k9, k10, k11⟩ := hw
            go_simp
          simp only [Act.put]
          refine wpAnyH_take (i := 6) (v := .int .i64 s) (by rw [hops]; rfl) hns (by rw [hops]; kernel_rfl) (by rw [hops]; kernel_rfl) (fun c a w h => hQP c a _ _ w h) (Or.inl ⟨rfl, ?_⟩) hS ?_
          · intro w' hw
            obtain ⟨k1, k2, k3, k4, k5, k6, k7, k8, k9, k10, k11⟩ := hw
            go_simp
          simp only [Act.put]
          refine wpAnyH_take (i := 7) (v := .agg #[.int .i64 gx, .int .i64 gy, .int .i64 gz]) (by rw [hops]; rfl) hns (by rw [hops]; kernel_rfl) (by rw [hops]; kernel_rfl) (fun c a w h => hQP c a _ _ w h) (Or.inl ⟨rfl, ?_⟩) hS ?_
          · intro w' hw
            obtain ⟨k1, k2, k3, k4, k5, k6, k7, k8, k9, k10, k11⟩ := hw
            go_simp
          simp only [Act.put]
          refine wpAnyH_ready (rs := [8]) (by rw [hops]; kernel_rfl) (by simp) ?_
          refine AllReadyH.cons (by rw [hops]; rfl) (fun K hK => ?_) AllReadyH.nil
          go_simp
          refine (S0.out _).mono ?_
          rintro en w6 ⟨rfl, hb6⟩
          have hbA := below_step hbA hb6
          have hS := hKeep.out _ hbA
          refine hK.out _ _ hS (fun _ => ?_)
          clear hK hb6
          refine wpAnyH_take (i := 9) (v := .pointer (some ⟨b1, o1 + q0, none⟩)) (by rw [hops]; rfl) hns (by rw [hops]; kernel_rfl) (by rw [hops]; kernel_rfl) (fun c a w h => hQP c a _ _ w h) (Or.inl ⟨rfl, ?_⟩) hS ?_
          · intro w' hw
            obtain ⟨k1, k2, k3, k4, k5, k6, k7, k8, k9, k10, k11⟩ := hw
            go_simp
          simp only [Act.put, List.setIfInBounds_toArray]
          refine wpAnyH_take (i := 10) (v := .bool true) (by rw [hops]; rfl) hns (by rw [hops]; kernel_rfl) (by rw [hops]; kernel_rfl) (fun c a w h => hQP c a _ _ w h) (Or.inl ⟨rfl, ?_⟩) hS ?_
          · intro w' hw
            obtain ⟨k1, k2, k3, k4, k5, k6, k7, k8, k9, k10, k11⟩ := hw
            go_simp
          simp only [Act.put]
          refine wpAnyH_take (i := 11) (v := .bool true) (by rw [hops]; rfl) hns (by rw [hops]; kernel_rfl) (by rw [hops]; kernel_rfl) (fun c a w h => hQP c a _ _ w h) (Or.inl ⟨rfl, ?_⟩) hS ?_
          · intro w' hw
            obtain ⟨k1, k2, k3, k4, k5, k6, k7, k8, k9, k10, k11⟩ := hw
            go_simp
          simp only [Act.put]
          refine wpAnyH_take (i := 12) (v := .pointer (some ⟨w.heap.size + 1, 1, none⟩)) (by rw [hops]; rfl) hns (by rw [hops]; kernel_rfl) (by rw [hops]; kernel_rfl) (fun c a w h => hQP c a _ _ w h) (Or.inl ⟨by rw [hops]; kernel_rfl, ?_⟩) hS ?_
          · intro w' hw
            obtain ⟨k1, k2, k3, k4, k5, k6, k7, k8, k9, k10, k11⟩ := hw
            go_simp
          simp only [Act.put]
          refine wpAnyH_take (i := 13) (v := .slice (some ⟨b2, o2, none⟩) N c2) (by rw [hops]; rfl) hns (by rw [hops]; kernel_rfl) (by rw [hops]; kernel_rfl) (fun c a w h => hQP c a _ _ w h) (Or.inl ⟨by rw [hops]; kernel_rfl, ?_⟩) hS ?_
          · intro w' hw
            obtain ⟨k1, k2, k3, k4, k5, k6, k7, k8, k9, k10, k11⟩ := hw
            go_simp
          simp only [Act.put]
          refine wpAnyH_take (i := 14) (v := .pointer (some ⟨w.heap.size, 0, none⟩)) (by rw [hops]; rfl) hns (by rw [hops]; kernel_rfl) (by rw [hops]; kernel_rfl) (fun c a w h => hQP c a _ _ w h) (Or.inl ⟨by rw [hops]; kernel_rfl, ?_⟩) hS ?_
          · intro w' hw
            obtain ⟨k1, k2, k3, k4, k5, k6, k7, k8, k9, k10, k11⟩ := hw
            go_simp
          simp only [Act.put]
          refine wpAnyH_take (i := 15) (v := .int .i64 s) (by rw [hops]; rfl) hns (by rw [hops]; kernel_rfl) (by rw [hops]; kernel_rfl) (fun c a w h => hQP c a _ _ w h) (Or.inl ⟨by rw [hops]; kernel_rfl, ?_⟩) hS ?_
          · intro w' hw
            obtain ⟨k1, k2, k3, k4, k5, k6, k7, k8, k9, k10, k11⟩ := hw
            go_simp
          simp only [Act.put]
          refine wpAnyH_take (i := 16) (v := .agg #[.int .i64 gx, .int .i64 gy, .int .i64 gz]) (by rw [hops]; rfl) hns (by rw [hops]; kernel_rfl) (by rw [hops]; kernel_rfl) (fun c a w h => hQP c a _ _ w h) (Or.inl ⟨by rw [hops]; kernel_rfl, ?_⟩) hS ?_
          · intro w' hw
            obtain ⟨k1, k2, k3, k4, k5, k6, k7, k8, k9, k10, k11⟩ := hw
            go_simp
          simp only [Act.put]
          refine wpAnyH_ready (rs := [17]) (by rw [hops]; kernel_rfl) (by simp) ?_
          refine AllReadyH.cons (by rw [hops]; rfl) (fun K hK => ?_) AllReadyH.nil
          go_simp
          refine (S1.out _).mono ?_
          rintro en w7 ⟨rfl, hb7⟩
          have hbA := below_step hbA hb7
          have hS := hKeep.out _ hbA
          refine hK.out _ _ hS (fun _ => ?_)
          clear hK hb7
          refine wpAnyH_take (i := 18) (v := .pointer (some ⟨b2, o2 + q1, none⟩)) (by rw [hops]; rfl) hns (by rw [hops]; kernel_rfl) (by rw [hops]; kernel_rfl) (fun c a w h => hQP c a _ _ w h) (Or.inl ⟨by rw [hops]; kernel_rfl, ?_⟩) hS ?_
          · intro w' hw
            obtain ⟨k1, k2, k3, k4, k5, k6, k7, k8, k9, k10, k11⟩ := hw
            go_simp
          simp only [Act.put, List.setIfInBounds_toArray]
          refine wpAnyH_take (i := 19) (v := .bool false) (by rw [hops]; rfl) hns (by rw [hops]; kernel_rfl) (by rw [hops]; kernel_rfl) (fun c a w h => hQP c a _ _ w h) (Or.inl ⟨by rw [hops]; kernel_rfl, ?_⟩) hS ?_
          · intro w' hw
            obtain ⟨k1, k2, k3, k4, k5, k6, k7, k8, k9, k10, k11⟩ := hw
            go_simp
          simp only [Act.put]
          refine wpAnyH_take (i := 20) (v := .bool false) (by rw [hops]; rfl) hns (by rw [hops]; kernel_rfl) (by rw [hops]; kernel_rfl) (fun c a w h => hQP c a _ _ w h) (Or.inl ⟨rfl, ?_⟩) hS ?_
          · intro w' hw
            obtain ⟨k1, k2, k3, k4, k5, k6, k7, k8, k9, k10, k11⟩ := hw
            go_simp
          simp only [Act.put]
          refine wpAnyH_take (i := 21) (v := .bool false) (by rw [hops]; rfl) hns (by rw [hops]; kernel_rfl) (by rw [hops]; kernel_rfl) (fun c a w h => hQP c a _ _ w h) (Or.inl ⟨rfl, ?_⟩) hS ?_
          · intro w' hw
            obtain ⟨k1, k2, k3, k4, k5, k6, k7, k8, k9, k10, k11⟩ := hw
            go_simp
          simp only [Act.put]
          refine wpAnyH_take (i := 22) (v := undef) (by rw [hops]; rfl) hns (by rw [hops]; kernel_rfl) (by rw [hops]; kernel_rfl) (fun c a w h => hQP c a _ _ w h) (Or.inr ⟨by rw [hops]; simp [Region.wanted, yielded], rfl⟩) hS ?_
          simp only [Act.put]
          refine wpAnyH_take (i := 23) (v := undef) (by rw [hops]; rfl) hns (by rw [hops]; kernel_rfl) (by rw [hops]; kernel_rfl) (fun c a w h => hQP c a _ _ w h) (Or.inr ⟨by rw [hops]; simp [Region.wanted, yielded], rfl⟩) hS ?_
          simp only [Act.put]
          refine wpAnyH_take (i := 24) (v := undef) (by rw [hops]; rfl) hns (by rw [hops]; kernel_rfl) (by rw [hops]; kernel_rfl) (fun c a w h => hQP c a _ _ w h) (Or.inr ⟨by rw [hops]; simp [Region.wanted, yielded], rfl⟩) hS ?_
          simp only [Act.put]
          refine wpAnyH_take (i := 25) (v := undef) (by rw [hops]; rfl) hns (by rw [hops]; kernel_rfl) (by rw [hops]; kernel_rfl) (fun c a w h => hQP c a _ _ w h) (Or.inr ⟨by rw [hops]; simp [Region.wanted, yielded], rfl⟩) hS ?_
          simp only [Act.put]
          refine wpAnyH_take (i := 26) (v := undef) (by rw [hops]; rfl) hns (by rw [hops]; kernel_rfl) (by rw [hops]; kernel_rfl) (fun c a w h => hQP c a _ _ w h) (Or.inr ⟨by rw [hops]; simp [Region.wanted, yielded], rfl⟩) hS ?_
          simp only [Act.put]
          refine wpAnyH_take (i := 27) (v := undef) (by rw [hops]; rfl) hns (by rw [hops]; kernel_rfl) (by rw [hops]; kernel_rfl) (fun c a w h => hQP c a _ _ w h) (Or.inr ⟨by rw [hops]; simp [Region.wanted, yielded], rfl⟩) hS ?_
          simp only [Act.put]
          refine wpAnyH_take (i := 28) (v := undef) (by rw [hops]; rfl) hns (by rw [hops]; kernel_rfl) (by rw [hops]; kernel_rfl) (fun c a w h => hQP c a _ _ w h) (Or.inr ⟨by rw [hops]; simp [Region.wanted, yielded], rfl⟩) hS ?_
          simp only [Act.put]
          refine wpAnyH_take (i := 29) (v := undef) (by rw [hops]; rfl) hns (by rw [hops]; kernel_rfl) (by rw [hops]; kernel_rfl) (fun c a w h => hQP c a _ _ w h) (Or.inr ⟨by rw [hops]; simp [Region.wanted, yielded], rfl⟩) hS ?_
          simp only [Act.put]
          refine wpAnyH_take (i := 30) (v := .bool false) (by rw [hops]; rfl) hns (by rw [hops]; kernel_rfl) (by rw [hops]; kernel_rfl) (fun c a w h => hQP c a _ _ w h) (Or.inl ⟨rfl, ?_⟩) hS ?_
          · intro w' hw
            obtain ⟨k1, k2, k3, k4, k5, k6, k7, k8, k9, k10, k11⟩ := hw
            go_simp
          simp only [Act.put]
          refine wpAnyH_take (i := 31) (v := .pointer (some ⟨M, j, none⟩)) (by rw [hops]; rfl) hns (by rw [hops]; kernel_rfl) (by rw [hops]; kernel_rfl) (fun c a w h => hQP c a _ _ w h) (Or.inl ⟨rfl, ?_⟩) hS ?_
          · intro w' hw
            obtain ⟨k1, k2, k3, k4, k5, k6, k7, k8, k9, k10, k11⟩ := hw
            go_simp
          simp only [Act.put]
          refine wpAnyH_ready (rs := [32]) (by rw [hops]; kernel_rfl) (by simp) ?_
          refine AllReadyH.cons (by rw [hops]; rfl) (fun K hK => ?_) AllReadyH.nil
          have hdone : Region.ready .any ops ((((((((((((((((((((((((((((((((((Array.replicate 33 false).setIfInBounds 0 true).setIfInBounds 1 true).setIfInBounds 2 true).setIfInBounds 3 true).setIfInBounds 4 true).setIfInBounds 5 true).setIfInBounds 6 true).setIfInBounds 7 true).setIfInBounds 8 true).setIfInBounds 9 true).setIfInBounds 10 true).setIfInBounds 11 true).setIfInBounds 12 true).setIfInBounds 13 true).setIfInBounds 14 true).setIfInBounds 15 true).setIfInBounds 16 true).setIfInBounds 17 true).setIfInBounds 18 true).setIfInBounds 19 true).setIfInBounds 20 true).setIfInBounds 21 true).setIfInBounds 22 true).setIfInBounds 23 true).setIfInBounds 24 true).setIfInBounds 25 true).setIfInBounds 26 true).setIfInBounds 27 true).setIfInBounds 28 true).setIfInBounds 29 true).setIfInBounds 30 true).setIfInBounds 31 true).setIfInBounds 32 true) = [] := by rw [hops]; kernel_rfl
          have m1 : w7.cell? ⟨M, j, none⟩ = some (.bool false) := (hKeepM.out w7 hbA).1
          have m2 : w7.frozen? ⟨M, j, none⟩ = false := (hKeepM.out w7 hbA).2
          have hKS := Kp.mk (hKeepS.out w7 (.bool false) hbA)
          clear hops hns hsz hQP hS hKeep hKeepM hKeepS
          go_simp
          refine hK.out _ _ hKS.out (fun _ => ?_)
          refine wpAnyH_done hdone ?_ _
          have HJ9 := Kp.mk ((HJ6.out.on HP.out hbA).fill HX.out HJL.out rfl HM.out HNE.out)
          clear hK m1 m2 hbA hdone hKS
          subst hQp
          refine NoPanic.normal ?_
          go_wp2
          go_roundw
          case rel => exact ⟨j + 1, by omega, by go_num, HJ9⟩
          case measure => simp [intOf]; omega
        | true =>
          refine wp_region_noPanic ?_
          refine region_name0 ?_
          intro ops Qp hops hQp
          have hQP : ∀ c (a : Act) d v w, Qp (.panic c) (a.put d v) w → Qp (.panic c) a w := by subst hQp; exact fun _ _ _ _ _ h => (h : False).elim
          have hns : Region.noSelect ops = true := by rw [hops]; kernel_rfl
          have hsz : ops.size = 33 := by rw [hops]; rfl
          refine wp_region_held_drew (S := SqS w.heap.size Q G M s N N3 c1 c2 c3 b1 o1 b2 o2 b3 o3 q0 q1 q2 true true z gx gy gz) (by kernel_rfl) (hKeep.out _ (below_drewn _)) (fun hS => ?_)
          have hbA := below_drewn W5
          rw [hsz]
          refine wpAnyH_take (i := 0) (v := .pointer (some ⟨Q, 1, none⟩)) (by rw [hops]; rfl) hns (by rw [hops]; kernel_rfl) (by rw [hops]; kernel_rfl) (fun c a w h => hQP c a _ _ w h) (Or.inl ⟨rfl, ?_⟩) hS ?_
          · intro w' hw
            obtain ⟨k1, k2, k3, k4, k5, k6, k7, k8, k9, k10, k11⟩ := hw
            go_simp
          simp only [Act.put, List.setIfInBounds_toArray]
          refine wpAnyH_take (i := 1) (v := .slice (some ⟨M, 0, none⟩) N3 N3) (by rw [hops]; rfl) hns (by rw [hops]; kernel_rfl) (by rw [hops]; kernel_rfl) (fun c a w h => hQP c a _ _ w h) (Or.inl ⟨rfl, ?_⟩) hS ?_
          · intro w' hw
            obtain ⟨k1, k2, k3, k4, k5, k6, k7, k8, k9, k10, k11⟩ := hw
            go_simp
          simp only [Act.put]
          refine wpAnyH_take (i := 2) (v := .int .i64 (j : Int)) (by rw [hops]; rfl) hns (by rw [hops]; kernel_rfl) (by rw [hops]; kernel_rfl) (fun c a w h => hQP c a _ _ w h) (Or.inl ⟨rfl, ?_⟩) hS ?_
          · intro w' hw
            obtain ⟨k1, k2, k3, k4, k5, k6, k7, k8, k9, k10, k11⟩ := hw
            go_simp
          simp only [Act.put]
          refine wpAnyH_take (i := 3) (v := .pointer (some ⟨w.heap.size, 1, none⟩)) (by rw [hops]; rfl) hns (by rw [hops]; kernel_rfl) (by rw [hops]; kernel_rfl) (fun c a w h => hQP c a _ _ w h) (Or.inl ⟨rfl, ?_⟩) hS ?_
          · intro w' hw
            obtain ⟨k1, k2, k3, k4, k5, k6, k7, k8, k9, k10, k11⟩ := hw
            go_simp
          simp only [Act.put]
          refine wpAnyH_take (i := 4) (v := .slice (some ⟨b1, o1, none⟩) N c1) (by rw [hops]; rfl) hns (by rw [hops]; kernel_rfl) (by rw [hops]; kernel_rfl) (fun c a w h => hQP c a _ _ w h) (Or.inl ⟨rfl, ?_⟩) hS ?_
          · intro w' hw
            obtain ⟨k1, k2, k3, k4, k5, k6, k7, k8, k9, k10, k11⟩ := hw
            go_simp
          simp only [Act.put]
          refine wpAnyH_take (i := 5) (v := .pointer (some ⟨w.heap.size, 0, none⟩)) (by rw [hops]; rfl) hns (by rw [hops]; kernel_rfl) (by rw [hops]; kernel_rfl) (fun c a w h => hQP c a _ _ w h) (Or.inl ⟨rfl, ?_⟩) hS ?_
          · intro w' hw
            obtain ⟨k1, k2, k3, k4, k5, k6, k7, k8, k9, k10, k11⟩ := hw
            go_simp
          simp only [Act.put]
          refine wpAnyH_take (i := 6) (v := .int .i64 s) (by rw [hops]; rfl) hns (by rw [hops]; kernel_rfl) (by rw [hops]; kernel_rfl) (fun c a w h => hQP c a _ _ w h) (Or.inl ⟨rfl, ?_⟩) hS ?_
          · intro w' hw
            obtain ⟨k1, k2, k3, k4, k5, k6, k7, k8, k9, k10, k11⟩ := hw
            go_simp
          simp only [Act.put]
          refine wpAnyH_take (i := 7) (v := .agg #[.int .i64 gx, .int .i64 gy, .int .i64 gz]) (by rw [hops]; rfl) hns (by rw [hops]; kernel_rfl) (by rw [hops]; kernel_rfl) (fun c a w h => hQP c a _ _ w h) (Or.inl ⟨rfl, ?_⟩) hS ?_
          · intro w' hw
            obtain ⟨k1, k2, k3, k4, k5, k6, k7, k8, k9, k10, k11⟩ := hw
            go_simp
          simp only [Act.put]
          refine wpAnyH_ready (rs := [8]) (by rw [hops]; kernel_rfl) (by simp) ?_
          refine AllReadyH.cons (by rw [hops]; rfl) (fun K hK => ?_) AllReadyH.nil
          go_simp
          refine (S0.out _).mono ?_
          rintro en w6 ⟨rfl, hb6⟩
          have hbA := below_step hbA hb6
          have hS := hKeep.out _ hbA
          refine hK.out _ _ hS (fun _ => ?_)
          clear hK hb6
          refine wpAnyH_take (i := 9) (v := .pointer (some ⟨b1, o1 + q0, none⟩)) (by rw [hops]; rfl) hns (by rw [hops]; kernel_rfl) (by rw [hops]; kernel_rfl) (fun c a w h => hQP c a _ _ w h) (Or.inl ⟨rfl, ?_⟩) hS ?_
          · intro w' hw
            obtain ⟨k1, k2, k3, k4, k5, k6, k7, k8, k9, k10, k11⟩ := hw
            go_simp
          simp only [Act.put, List.setIfInBounds_toArray]
          refine wpAnyH_take (i := 10) (v := .bool true) (by rw [hops]; rfl) hns (by rw [hops]; kernel_rfl) (by rw [hops]; kernel_rfl) (fun c a w h => hQP c a _ _ w h) (Or.inl ⟨rfl, ?_⟩) hS ?_
          · intro w' hw
            obtain ⟨k1, k2, k3, k4, k5, k6, k7, k8, k9, k10, k11⟩ := hw
            go_simp
          simp only [Act.put]
          refine wpAnyH_take (i := 11) (v := .bool true) (by rw [hops]; rfl) hns (by rw [hops]; kernel_rfl) (by rw [hops]; kernel_rfl) (fun c a w h => hQP c a _ _ w h) (Or.inl ⟨rfl, ?_⟩) hS ?_
          · intro w' hw
            obtain ⟨k1, k2, k3, k4, k5, k6, k7, k8, k9, k10, k11⟩ := hw
            go_simp
          simp only [Act.put]
          refine wpAnyH_take (i := 12) (v := .pointer (some ⟨w.heap.size + 1, 1, none⟩)) (by rw [hops]; rfl) hns (by rw [hops]; kernel_rfl) (by rw [hops]; kernel_rfl) (fun c a w h => hQP c a _ _ w h) (Or.inl ⟨by rw [hops]; kernel_rfl, ?_⟩) hS ?_
          · intro w' hw
            obtain ⟨k1, k2, k3, k4, k5, k6, k7, k8, k9, k10, k11⟩ := hw
            go_simp
          simp only [Act.put]
          refine wpAnyH_take (i := 13) (v := .slice (some ⟨b2, o2, none⟩) N c2) (by rw [hops]; rfl) hns (by rw [hops]; kernel_rfl) (by rw [hops]; kernel_rfl) (fun c a w h => hQP c a _ _ w h) (Or.inl ⟨by rw [hops]; kernel_rfl, ?_⟩) hS ?_
          · intro w' hw
            obtain ⟨k1, k2, k3, k4, k5, k6, k7, k8, k9, k10, k11⟩ := hw
            go_simp
          simp only [Act.put]
          refine wpAnyH_take (i := 14) (v := .pointer (some ⟨w.heap.size, 0, none⟩)) (by rw [hops]; rfl) hns (by rw [hops]; kernel_rfl) (by rw [hops]; kernel_rfl) (fun c a w h => hQP c a _ _ w h) (Or.inl ⟨by rw [hops]; kernel_rfl, ?_⟩) hS ?_
          · intro w' hw
            obtain ⟨k1, k2, k3, k4, k5, k6, k7, k8, k9, k10, k11⟩ := hw
            go_simp
          simp only [Act.put]
          refine wpAnyH_take (i := 15) (v := .int .i64 s) (by rw [hops]; rfl) hns (by rw [hops]; kernel_rfl) (by rw [hops]; kernel_rfl) (fun c a w h => hQP c a _ _ w h) (Or.inl ⟨by rw [hops]; kernel_rfl, ?_⟩) hS ?_
          · intro w' hw
            obtain ⟨k1, k2, k3, k4, k5, k6, k7, k8, k9, k10, k11⟩ := hw
            go_simp
          simp only [Act.put]
          refine wpAnyH_take (i := 16) (v := .agg #[.int .i64 gx, .int .i64 gy, .int .i64 gz]) (by rw [hops]; rfl) hns (by rw [hops]; kernel_rfl) (by rw [hops]; kernel_rfl) (fun c a w h => hQP c a _ _ w h) (Or.inl ⟨by rw [hops]; kernel_rfl, ?_⟩) hS ?_
          · intro w' hw
            obtain ⟨k1, k2, k3, k4, k5, k6, k7, k8, k9, k10, k11⟩ := hw
            go_simp
          simp only [Act.put]
          refine wpAnyH_ready (rs := [17]) (by rw [hops]; kernel_rfl) (by simp) ?_
          refine AllReadyH.cons (by rw [hops]; rfl) (fun K hK => ?_) AllReadyH.nil
          go_simp
          refine (S1.out _).mono ?_
          rintro en w7 ⟨rfl, hb7⟩
          have hbA := below_step hbA hb7
          have hS := hKeep.out _ hbA
          refine hK.out _ _ hS (fun _ => ?_)
          clear hK hb7
          refine wpAnyH_take (i := 18) (v := .pointer (some ⟨b2, o2 + q1, none⟩)) (by rw [hops]; rfl) hns (by rw [hops]; kernel_rfl) (by rw [hops]; kernel_rfl) (fun c a w h => hQP c a _ _ w h) (Or.inl ⟨by rw [hops]; kernel_rfl, ?_⟩) hS ?_
          · intro w' hw
            obtain ⟨k1, k2, k3, k4, k5, k6, k7, k8, k9, k10, k11⟩ := hw
            go_simp
          simp only [Act.put, List.setIfInBounds_toArray]
          refine wpAnyH_take (i := 19) (v := .bool true) (by rw [hops]; rfl) hns (by rw [hops]; kernel_rfl) (by rw [hops]; kernel_rfl) (fun c a w h => hQP c a _ _ w h) (Or.inl ⟨by rw [hops]; kernel_rfl, ?_⟩) hS ?_
          · intro w' hw
            obtain ⟨k1, k2, k3, k4, k5, k6, k7, k8, k9, k10, k11⟩ := hw
            go_simp
          simp only [Act.put]
          refine wpAnyH_take (i := 20) (v := .bool true) (by rw [hops]; rfl) hns (by rw [hops]; kernel_rfl) (by rw [hops]; kernel_rfl) (fun c a w h => hQP c a _ _ w h) (Or.inl ⟨rfl, ?_⟩) hS ?_
          · intro w' hw
            obtain ⟨k1, k2, k3, k4, k5, k6, k7, k8, k9, k10, k11⟩ := hw
            go_simp
          simp only [Act.put]
          refine wpAnyH_take (i := 21) (v := .bool true) (by rw [hops]; rfl) hns (by rw [hops]; kernel_rfl) (by rw [hops]; kernel_rfl) (fun c a w h => hQP c a _ _ w h) (Or.inl ⟨rfl, ?_⟩) hS ?_
          · intro w' hw
            obtain ⟨k1, k2, k3, k4, k5, k6, k7, k8, k9, k10, k11⟩ := hw
            go_simp
          simp only [Act.put]
          refine wpAnyH_take (i := 22) (v := .pointer (some ⟨w.heap.size + 1 + 1, 1, none⟩)) (by rw [hops]; rfl) hns (by rw [hops]; kernel_rfl) (by rw [hops]; kernel_rfl) (fun c a w h => hQP c a _ _ w h) (Or.inl ⟨by rw [hops]; kernel_rfl, ?_⟩) hS ?_
          · intro w' hw
            obtain ⟨k1, k2, k3, k4, k5, k6, k7, k8, k9, k10, k11⟩ := hw
            go_simp
          simp only [Act.put]
          refine wpAnyH_take (i := 23) (v := .slice (some ⟨b3, o3, none⟩) N c3) (by rw [hops]; rfl) hns (by rw [hops]; kernel_rfl) (by rw [hops]; kernel_rfl) (fun c a w h => hQP c a _ _ w h) (Or.inl ⟨by rw [hops]; kernel_rfl, ?_⟩) hS ?_
          · intro w' hw
            obtain ⟨k1, k2, k3, k4, k5, k6, k7, k8, k9, k10, k11⟩ := hw
            go_simp
          simp only [Act.put]
          refine wpAnyH_take (i := 24) (v := .pointer (some ⟨w.heap.size, 0, none⟩)) (by rw [hops]; rfl) hns (by rw [hops]; kernel_rfl) (by rw [hops]; kernel_rfl) (fun c a w h => hQP c a _ _ w h) (Or.inl ⟨by rw [hops]; kernel_rfl, ?_⟩) hS ?_
          · intro w' hw
            obtain ⟨k1, k2, k3, k4, k5, k6, k7, k8, k9, k10, k11⟩ := hw
            go_simp
          simp only [Act.put]
          refine wpAnyH_take (i := 25) (v := .int .i64 s) (by rw [hops]; rfl) hns (by rw [hops]; kernel_rfl) (by rw [hops]; kernel_rfl) (fun c a w h => hQP c a _ _ w h) (Or.inl ⟨by rw [hops]; kernel_rfl, ?_⟩) hS ?_
          · intro w' hw
            obtain ⟨k1, k2, k3, k4, k5, k6, k7, k8, k9, k10, k11⟩ := hw
            go_simp
          simp only [Act.put]
          refine wpAnyH_take (i := 26) (v := .agg #[.int .i64 gx, .int .i64 gy, .int .i64 gz]) (by rw [hops]; rfl) hns (by rw [hops]; kernel_rfl) (by rw [hops]; kernel_rfl) (fun c a w h => hQP c a _ _ w h) (Or.inl ⟨by rw [hops]; kernel_rfl, ?_⟩) hS ?_
          · intro w' hw
            obtain ⟨k1, k2, k3, k4, k5, k6, k7, k8, k9, k10, k11⟩ := hw
            go_simp
          simp only [Act.put]
          refine wpAnyH_ready (rs := [27]) (by rw [hops]; kernel_rfl) (by simp) ?_
          refine AllReadyH.cons (by rw [hops]; rfl) (fun K hK => ?_) AllReadyH.nil
          go_simp
          refine (S2.out _).mono ?_
          rintro en w8 ⟨rfl, hb8⟩
          have hbA := below_step hbA hb8
          have hS := hKeep.out _ hbA
          refine hK.out _ _ hS (fun _ => ?_)
          clear hK hb8
          refine wpAnyH_take (i := 28) (v := .pointer (some ⟨b3, o3 + q2, none⟩)) (by rw [hops]; rfl) hns (by rw [hops]; kernel_rfl) (by rw [hops]; kernel_rfl) (fun c a w h => hQP c a _ _ w h) (Or.inl ⟨by rw [hops]; kernel_rfl, ?_⟩) hS ?_
          · intro w' hw
            obtain ⟨k1, k2, k3, k4, k5, k6, k7, k8, k9, k10, k11⟩ := hw
            go_simp
          simp only [Act.put, List.setIfInBounds_toArray]
          refine wpAnyH_take (i := 29) (v := .bool z) (by rw [hops]; rfl) hns (by rw [hops]; kernel_rfl) (by rw [hops]; kernel_rfl) (fun c a w h => hQP c a _ _ w h) (Or.inl ⟨by rw [hops]; kernel_rfl, ?_⟩) hS ?_
          · intro w' hw
            obtain ⟨k1, k2, k3, k4, k5, k6, k7, k8, k9, k10, k11⟩ := hw
            go_simp
          simp only [Act.put]
          refine wpAnyH_take (i := 30) (v := .bool z) (by rw [hops]; rfl) hns (by rw [hops]; kernel_rfl) (by rw [hops]; kernel_rfl) (fun c a w h => hQP c a _ _ w h) (Or.inl ⟨rfl, ?_⟩) hS ?_
          · intro w' hw
            obtain ⟨k1, k2, k3, k4, k5, k6, k7, k8, k9, k10, k11⟩ := hw
            go_simp
          simp only [Act.put]
          refine wpAnyH_take (i := 31) (v := .pointer (some ⟨M, j, none⟩)) (by rw [hops]; rfl) hns (by rw [hops]; kernel_rfl) (by rw [hops]; kernel_rfl) (fun c a w h => hQP c a _ _ w h) (Or.inl ⟨rfl, ?_⟩) hS ?_
          · intro w' hw
            obtain ⟨k1, k2, k3, k4, k5, k6, k7, k8, k9, k10, k11⟩ := hw
            go_simp
          simp only [Act.put]
          refine wpAnyH_ready (rs := [32]) (by rw [hops]; kernel_rfl) (by simp) ?_
          refine AllReadyH.cons (by rw [hops]; rfl) (fun K hK => ?_) AllReadyH.nil
          have hdone : Region.ready .any ops ((((((((((((((((((((((((((((((((((Array.replicate 33 false).setIfInBounds 0 true).setIfInBounds 1 true).setIfInBounds 2 true).setIfInBounds 3 true).setIfInBounds 4 true).setIfInBounds 5 true).setIfInBounds 6 true).setIfInBounds 7 true).setIfInBounds 8 true).setIfInBounds 9 true).setIfInBounds 10 true).setIfInBounds 11 true).setIfInBounds 12 true).setIfInBounds 13 true).setIfInBounds 14 true).setIfInBounds 15 true).setIfInBounds 16 true).setIfInBounds 17 true).setIfInBounds 18 true).setIfInBounds 19 true).setIfInBounds 20 true).setIfInBounds 21 true).setIfInBounds 22 true).setIfInBounds 23 true).setIfInBounds 24 true).setIfInBounds 25 true).setIfInBounds 26 true).setIfInBounds 27 true).setIfInBounds 28 true).setIfInBounds 29 true).setIfInBounds 30 true).setIfInBounds 31 true).setIfInBounds 32 true) = [] := by rw [hops]; kernel_rfl
          have m1 : w8.cell? ⟨M, j, none⟩ = some (.bool false) := (hKeepM.out w8 hbA).1
          have m2 : w8.frozen? ⟨M, j, none⟩ = false := (hKeepM.out w8 hbA).2
          have hKS := Kp.mk (hKeepS.out w8 (.bool z) hbA)
          clear hops hns hsz hQP hS hKeep hKeepM hKeepS
          go_simp
          refine hK.out _ _ hKS.out (fun _ => ?_)
          refine wpAnyH_done hdone ?_ _
          have HJ9 := Kp.mk ((HJ6.out.on HP.out hbA).fill HX.out HJL.out rfl HM.out HNE.out)
          clear hK m1 m2 hbA hdone hKS
          subst hQp
          refine NoPanic.normal ?_
          go_wp2
          go_roundw
          case rel => exact ⟨j + 1, by omega, by go_num, HJ9⟩
          case measure => simp [intOf]; omega
    · have hjn : j = N3 := by omega
      subst hjn
      have hJ := HJ.out
      rw [← HLL.out, fill_all, HLL.out] at hJ
      have HJ2 := Kp.mk hJ
      have p3 := hJ.cells.2.2.2.2.1
      have p4 := hJ.cells.2.2.2.2.2
      obtain ⟨p5, p6, p7, p8⟩ := hJ.res
      have o2 : ¬ (j : Int) < (j : Int) := by omega
      clear hJ HJ
      go_wp2
      refine bodyPost_ret (v := .tuple #[.agg #[.int .i64 s, .slice (some ⟨M, 0, none⟩) j j], .int .i64 0]) ?_ rfl ?_
      · simp [results, Try.results38, go_sem, p5, p6]
      have g1 := setCell_grown wr (w.heap.size + 1 + 1 + 1) 0 (.int .i64 s)
      have g2 := setCell_grown (wr.setCell ⟨w.heap.size + 1 + 1 + 1, 0, none⟩ (.int .i64 s)) (w.heap.size + 1 + 1 + 1) 1 (.slice (some ⟨M, 0, none⟩) j j)
      have hne : some M ≠ some (w.heap.size + 1 + 1 + 1) := fun e => by have := HM.out; simp only [Option.some.injEq] at e; omega
      have hM := HJ2.out.mr.lt HP.out
      have hr := (HJ2.out.mr.same (Nat.le_trans g1.size g2.size) ((g2.block M (Nat.lt_of_lt_of_le hM g1.size) hne).trans (g1.block M hM hne))).row
      exact ⟨_, rfl, ⟨_, rfl, hr⟩, (HJ2.out.hd.below.setCell (by simp only; omega) _).setCell (by simp only; omega) _⟩
end Go.Proofs.Yticcafjogmjkiaa.Cv
