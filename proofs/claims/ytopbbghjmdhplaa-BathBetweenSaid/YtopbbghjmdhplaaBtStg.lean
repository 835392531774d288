/-
  WALKS (layer 3, baths): Stronger, by the program and by the reference.
-/
import Derived.Test.YtopbbghjmdhplaaBtStr
namespace Go.Proofs.Ytopbbghjmdhplaa.Bt
open Go Go.RowKit

theorem Stronger_inv1 (x y z u v r : Int) (w : World) (ha : bathB ⟨x, y, z⟩ = false) :
    Calls Try.prog 46 #[.agg #[.int .i64 x, .int .i64 y, .int .i64 z], .agg #[.int .i64 u, .int .i64 v, .int .i64 r]] w (StgPost ⟨x, y, z⟩ ⟨u, v, r⟩ w) := by
  have HA : Kp (bathB ⟨x, y, z⟩ = false) := ⟨ha⟩
  have HE : Kp (stgE ⟨x, y, z⟩ ⟨u, v, r⟩ = 1) := ⟨by unfold stgE; rw [ha]; rfl⟩
  have HV : Kp (stgV ⟨x, y, z⟩ ⟨u, v, r⟩ = 0) := ⟨by unfold stgV; rw [HE.out]; rfl⟩
  clear ha
  go_enter Try.func46, Try.ntmps46
  go_wp2_with fail
  refine (ValidBath_no _ _ _ _ HA.out).mono ?_
  rintro e w1 ⟨rfl, hb1⟩
  have HB1 : Kp (Below w.heap.size w w1) := ⟨Below.trans (by repeat (first | exact Below.refl _ _ | refine Below.alloc ?_ (by simp <;> omega) _ | refine bDrewN ?_ _ | refine Below.drew ?_)) (hb1.mono (by simp <;> omega))⟩
  have hz1 : w.heap.size + 1 < w1.heap.size := by have := hb1.size; simp at this; omega
  obtain ⟨hc, hf⟩ := bcell hb1
  have c1_0_0 : w1.cell? ⟨w.heap.size, 0, none⟩ = some (.int .i64 x) := (hc _ _ (by simp <;> omega)).trans (by go_simp)
  have c1_0_1 : w1.cell? ⟨w.heap.size, 1, none⟩ = some (.int .i64 y) := (hc _ _ (by simp <;> omega)).trans (by go_simp)
  have c1_0_2 : w1.cell? ⟨w.heap.size, 2, none⟩ = some (.int .i64 z) := (hc _ _ (by simp <;> omega)).trans (by go_simp)
  have z1_0 : ∀ j, w1.frozen? ⟨w.heap.size, j, none⟩ = false := fun j => (hf _ _ (by simp <;> omega)).trans (by go_simp)
  have c1_1_0 : w1.cell? ⟨w.heap.size + 1, 0, none⟩ = some (.int .i64 u) := (hc _ _ (by simp <;> omega)).trans (by go_simp)
  have c1_1_1 : w1.cell? ⟨w.heap.size + 1, 1, none⟩ = some (.int .i64 v) := (hc _ _ (by simp <;> omega)).trans (by go_simp)
  have c1_1_2 : w1.cell? ⟨w.heap.size + 1, 2, none⟩ = some (.int .i64 r) := (hc _ _ (by simp <;> omega)).trans (by go_simp)
  have z1_1 : ∀ j, w1.frozen? ⟨w.heap.size + 1, j, none⟩ = false := fun j => (hf _ _ (by simp <;> omega)).trans (by go_simp)
  clear hc hf hb1
  go_wp2
  go_ret2
  exact stgPost_of HE.out HV.out rfl HB1.out
theorem Stronger_inv2 (x y z u v r : Int) (w : World) (ha : bathB ⟨x, y, z⟩ = true) (hb : bathB ⟨u, v, r⟩ = false) :
    Calls Try.prog 46 #[.agg #[.int .i64 x, .int .i64 y, .int .i64 z], .agg #[.int .i64 u, .int .i64 v, .int .i64 r]] w (StgPost ⟨x, y, z⟩ ⟨u, v, r⟩ w) := by
  have HA : Kp (bathB ⟨x, y, z⟩ = true) := ⟨ha⟩
  have HB : Kp (bathB ⟨u, v, r⟩ = false) := ⟨hb⟩
  have HE : Kp (stgE ⟨x, y, z⟩ ⟨u, v, r⟩ = 1) := ⟨by unfold stgE; rw [ha, hb]; rfl⟩
  have HV : Kp (stgV ⟨x, y, z⟩ ⟨u, v, r⟩ = 0) := ⟨by unfold stgV; rw [HE.out]; rfl⟩
  clear ha hb
  go_enter Try.func46, Try.ntmps46
  go_wp2_with fail
  refine (ValidBath_yes _ _ _ _ HA.out).mono ?_
  rintro e w1 ⟨rfl, hb1⟩
  have HB1 : Kp (Below w.heap.size w w1) := ⟨Below.trans (by repeat (first | exact Below.refl _ _ | refine Below.alloc ?_ (by simp <;> omega) _ | refine bDrewN ?_ _ | refine Below.drew ?_)) (hb1.mono (by simp <;> omega))⟩
  have hz1 : w.heap.size + 1 < w1.heap.size := by have := hb1.size; simp at this; omega
  obtain ⟨hc, hf⟩ := bcell hb1
  have c1_0_0 : w1.cell? ⟨w.heap.size, 0, none⟩ = some (.int .i64 x) := (hc _ _ (by simp <;> omega)).trans (by go_simp)
  have c1_0_1 : w1.cell? ⟨w.heap.size, 1, none⟩ = some (.int .i64 y) := (hc _ _ (by simp <;> omega)).trans (by go_simp)
  have c1_0_2 : w1.cell? ⟨w.heap.size, 2, none⟩ = some (.int .i64 z) := (hc _ _ (by simp <;> omega)).trans (by go_simp)
  have z1_0 : ∀ j, w1.frozen? ⟨w.heap.size, j, none⟩ = false := fun j => (hf _ _ (by simp <;> omega)).trans (by go_simp)
  have c1_1_0 : w1.cell? ⟨w.heap.size + 1, 0, none⟩ = some (.int .i64 u) := (hc _ _ (by simp <;> omega)).trans (by go_simp)
  have c1_1_1 : w1.cell? ⟨w.heap.size + 1, 1, none⟩ = some (.int .i64 v) := (hc _ _ (by simp <;> omega)).trans (by go_simp)
  have c1_1_2 : w1.cell? ⟨w.heap.size + 1, 2, none⟩ = some (.int .i64 r) := (hc _ _ (by simp <;> omega)).trans (by go_simp)
  have z1_1 : ∀ j, w1.frozen? ⟨w.heap.size + 1, j, none⟩ = false := fun j => (hf _ _ (by simp <;> omega)).trans (by go_simp)
  clear hc hf hb1
  go_wp2_with fail
  refine (ValidBath_no _ _ _ _ HB.out).mono ?_
  rintro e w2 ⟨rfl, hb2⟩
  have HB2 : Kp (Below w.heap.size w w2) := ⟨HB1.out.trans (hb2.mono (by omega))⟩
  have hz2 : w.heap.size + 1 < w2.heap.size := by have := hb2.size; omega
  obtain ⟨hc, hf⟩ := bcell hb2
  have c2_0_0 : w2.cell? ⟨w.heap.size, 0, none⟩ = some (.int .i64 x) := (hc _ _ (by omega)).trans c1_0_0
  have c2_0_1 : w2.cell? ⟨w.heap.size, 1, none⟩ = some (.int .i64 y) := (hc _ _ (by omega)).trans c1_0_1
  have c2_0_2 : w2.cell? ⟨w.heap.size, 2, none⟩ = some (.int .i64 z) := (hc _ _ (by omega)).trans c1_0_2
  have z2_0 : ∀ j, w2.frozen? ⟨w.heap.size, j, none⟩ = false := fun j => (hf _ _ (by omega)).trans (z1_0 j)
  have c2_1_0 : w2.cell? ⟨w.heap.size + 1, 0, none⟩ = some (.int .i64 u) := (hc _ _ (by omega)).trans c1_1_0
  have c2_1_1 : w2.cell? ⟨w.heap.size + 1, 1, none⟩ = some (.int .i64 v) := (hc _ _ (by omega)).trans c1_1_1
  have c2_1_2 : w2.cell? ⟨w.heap.size + 1, 2, none⟩ = some (.int .i64 r) := (hc _ _ (by omega)).trans c1_1_2
  have z2_1 : ∀ j, w2.frozen? ⟨w.heap.size + 1, j, none⟩ = false := fun j => (hf _ _ (by omega)).trans (z1_1 j)
  clear hc hf hb2 hz1 c1_0_0 c1_0_1 c1_0_2 z1_0 c1_1_0 c1_1_1 c1_1_2 z1_1
  go_wp2
  go_ret2
  exact stgPost_of HE.out HV.out rfl HB2.out
theorem Stronger_dry1 (x y z u v r : Int) (w : World) (ha : bathB ⟨x, y, z⟩ = true) (hb : bathB ⟨u, v, r⟩ = true) (h0 : x = 0) :
    Calls Try.prog 46 #[.agg #[.int .i64 x, .int .i64 y, .int .i64 z], .agg #[.int .i64 u, .int .i64 v, .int .i64 r]] w (StgPost ⟨x, y, z⟩ ⟨u, v, r⟩ w) := by
  have HA : Kp (bathB ⟨x, y, z⟩ = true) := ⟨ha⟩
  have HB : Kp (bathB ⟨u, v, r⟩ = true) := ⟨hb⟩
  have HE : Kp (stgE ⟨x, y, z⟩ ⟨u, v, r⟩ = 8) := ⟨by unfold stgE; rw [ha, hb, Bool.and_self, if_pos rfl, if_pos (.inl h0)]⟩
  have HV : Kp (stgV ⟨x, y, z⟩ ⟨u, v, r⟩ = 0) := ⟨by unfold stgV; rw [HE.out]; rfl⟩
  have hx : (x == 0) = true := by rw [h0]; rfl
  clear ha hb h0
  go_enter Try.func46, Try.ntmps46
  go_wp2_with fail
  refine (ValidBath_yes _ _ _ _ HA.out).mono ?_
  rintro e w1 ⟨rfl, hb1⟩
  have HB1 : Kp (Below w.heap.size w w1) := ⟨Below.trans (by repeat (first | exact Below.refl _ _ | refine Below.alloc ?_ (by simp <;> omega) _ | refine bDrewN ?_ _ | refine Below.drew ?_)) (hb1.mono (by simp <;> omega))⟩
  have hz1 : w.heap.size + 1 < w1.heap.size := by have := hb1.size; simp at this; omega
  obtain ⟨hc, hf⟩ := bcell hb1
  have c1_0_0 : w1.cell? ⟨w.heap.size, 0, none⟩ = some (.int .i64 x) := (hc _ _ (by simp <;> omega)).trans (by go_simp)
  have c1_0_1 : w1.cell? ⟨w.heap.size, 1, none⟩ = some (.int .i64 y) := (hc _ _ (by simp <;> omega)).trans (by go_simp)
  have c1_0_2 : w1.cell? ⟨w.heap.size, 2, none⟩ = some (.int .i64 z) := (hc _ _ (by simp <;> omega)).trans (by go_simp)
  have z1_0 : ∀ j, w1.frozen? ⟨w.heap.size, j, none⟩ = false := fun j => (hf _ _ (by simp <;> omega)).trans (by go_simp)
  have c1_1_0 : w1.cell? ⟨w.heap.size + 1, 0, none⟩ = some (.int .i64 u) := (hc _ _ (by simp <;> omega)).trans (by go_simp)
  have c1_1_1 : w1.cell? ⟨w.heap.size + 1, 1, none⟩ = some (.int .i64 v) := (hc _ _ (by simp <;> omega)).trans (by go_simp)
  have c1_1_2 : w1.cell? ⟨w.heap.size + 1, 2, none⟩ = some (.int .i64 r) := (hc _ _ (by simp <;> omega)).trans (by go_simp)
  have z1_1 : ∀ j, w1.frozen? ⟨w.heap.size + 1, j, none⟩ = false := fun j => (hf _ _ (by simp <;> omega)).trans (by go_simp)
  clear hc hf hb1
  go_wp2_with fail
  refine (ValidBath_yes _ _ _ _ HB.out).mono ?_
  rintro e w2 ⟨rfl, hb2⟩
  have HB2 : Kp (Below w.heap.size w w2) := ⟨HB1.out.trans (hb2.mono (by omega))⟩
  have hz2 : w.heap.size + 1 < w2.heap.size := by have := hb2.size; omega
  obtain ⟨hc, hf⟩ := bcell hb2
  have c2_0_0 : w2.cell? ⟨w.heap.size, 0, none⟩ = some (.int .i64 x) := (hc _ _ (by omega)).trans c1_0_0
  have c2_0_1 : w2.cell? ⟨w.heap.size, 1, none⟩ = some (.int .i64 y) := (hc _ _ (by omega)).trans c1_0_1
  have c2_0_2 : w2.cell? ⟨w.heap.size, 2, none⟩ = some (.int .i64 z) := (hc _ _ (by omega)).trans c1_0_2
  have z2_0 : ∀ j, w2.frozen? ⟨w.heap.size, j, none⟩ = false := fun j => (hf _ _ (by omega)).trans (z1_0 j)
  have c2_1_0 : w2.cell? ⟨w.heap.size + 1, 0, none⟩ = some (.int .i64 u) := (hc _ _ (by omega)).trans c1_1_0
  have c2_1_1 : w2.cell? ⟨w.heap.size + 1, 1, none⟩ = some (.int .i64 v) := (hc _ _ (by omega)).trans c1_1_1
  have c2_1_2 : w2.cell? ⟨w.heap.size + 1, 2, none⟩ = some (.int .i64 r) := (hc _ _ (by omega)).trans c1_1_2
  have z2_1 : ∀ j, w2.frozen? ⟨w.heap.size + 1, j, none⟩ = false := fun j => (hf _ _ (by omega)).trans (z1_1 j)
  clear hc hf hb2 hz1 c1_0_0 c1_0_1 c1_0_2 z1_0 c1_1_0 c1_1_1 c1_1_2 z1_1
  go_wp2
  go_ret2
  exact stgPost_of HE.out HV.out rfl HB2.out
theorem Stronger_dry2 (x y z u v r : Int) (w : World) (ha : bathB ⟨x, y, z⟩ = true) (hb : bathB ⟨u, v, r⟩ = true) (h0 : x ≠ 0) (h1 : u = 0) :
    Calls Try.prog 46 #[.agg #[.int .i64 x, .int .i64 y, .int .i64 z], .agg #[.int .i64 u, .int .i64 v, .int .i64 r]] w (StgPost ⟨x, y, z⟩ ⟨u, v, r⟩ w) := by
  have HA : Kp (bathB ⟨x, y, z⟩ = true) := ⟨ha⟩
  have HB : Kp (bathB ⟨u, v, r⟩ = true) := ⟨hb⟩
  have HE : Kp (stgE ⟨x, y, z⟩ ⟨u, v, r⟩ = 8) := ⟨by unfold stgE; rw [ha, hb, Bool.and_self, if_pos rfl, if_pos (.inr h1)]⟩
  have HV : Kp (stgV ⟨x, y, z⟩ ⟨u, v, r⟩ = 0) := ⟨by unfold stgV; rw [HE.out]; rfl⟩
  have hx : (x == 0) = false := by rw [beq_eq_false_iff_ne]; exact h0
  have hu : (u == 0) = true := by rw [h1]; rfl
  clear ha hb h0 h1
  go_enter Try.func46, Try.ntmps46
  go_wp2_with fail
  refine (ValidBath_yes _ _ _ _ HA.out).mono ?_
  rintro e w1 ⟨rfl, hb1⟩
  have HB1 : Kp (Below w.heap.size w w1) := ⟨Below.trans (by repeat (first | exact Below.refl _ _ | refine Below.alloc ?_ (by simp <;> omega) _ | refine bDrewN ?_ _ | refine Below.drew ?_)) (hb1.mono (by simp <;> omega))⟩
  have hz1 : w.heap.size + 1 < w1.heap.size := by have := hb1.size; simp at this; omega
  obtain ⟨hc, hf⟩ := bcell hb1
  have c1_0_0 : w1.cell? ⟨w.heap.size, 0, none⟩ = some (.int .i64 x) := (hc _ _ (by simp <;> omega)).trans (by go_simp)
  have c1_0_1 : w1.cell? ⟨w.heap.size, 1, none⟩ = some (.int .i64 y) := (hc _ _ (by simp <;> omega)).trans (by go_simp)
  have c1_0_2 : w1.cell? ⟨w.heap.size, 2, none⟩ = some (.int .i64 z) := (hc _ _ (by simp <;> omega)).trans (by go_simp)
  have z1_0 : ∀ j, w1.frozen? ⟨w.heap.size, j, none⟩ = false := fun j => (hf _ _ (by simp <;> omega)).trans (by go_simp)
  have c1_1_0 : w1.cell? ⟨w.heap.size + 1, 0, none⟩ = some (.int .i64 u) := (hc _ _ (by simp <;> omega)).trans (by go_simp)
  have c1_1_1 : w1.cell? ⟨w.heap.size + 1, 1, none⟩ = some (.int .i64 v) := (hc _ _ (by simp <;> omega)).trans (by go_simp)
  have c1_1_2 : w1.cell? ⟨w.heap.size + 1, 2, none⟩ = some (.int .i64 r) := (hc _ _ (by simp <;> omega)).trans (by go_simp)
  have z1_1 : ∀ j, w1.frozen? ⟨w.heap.size + 1, j, none⟩ = false := fun j => (hf _ _ (by simp <;> omega)).trans (by go_simp)
  clear hc hf hb1
  go_wp2_with fail
  refine (ValidBath_yes _ _ _ _ HB.out).mono ?_
  rintro e w2 ⟨rfl, hb2⟩
  have HB2 : Kp (Below w.heap.size w w2) := ⟨HB1.out.trans (hb2.mono (by omega))⟩
  have hz2 : w.heap.size + 1 < w2.heap.size := by have := hb2.size; omega
  obtain ⟨hc, hf⟩ := bcell hb2
  have c2_0_0 : w2.cell? ⟨w.heap.size, 0, none⟩ = some (.int .i64 x) := (hc _ _ (by omega)).trans c1_0_0
  have c2_0_1 : w2.cell? ⟨w.heap.size, 1, none⟩ = some (.int .i64 y) := (hc _ _ (by omega)).trans c1_0_1
  have c2_0_2 : w2.cell? ⟨w.heap.size, 2, none⟩ = some (.int .i64 z) := (hc _ _ (by omega)).trans c1_0_2
  have z2_0 : ∀ j, w2.frozen? ⟨w.heap.size, j, none⟩ = false := fun j => (hf _ _ (by omega)).trans (z1_0 j)
  have c2_1_0 : w2.cell? ⟨w.heap.size + 1, 0, none⟩ = some (.int .i64 u) := (hc _ _ (by omega)).trans c1_1_0
  have c2_1_1 : w2.cell? ⟨w.heap.size + 1, 1, none⟩ = some (.int .i64 v) := (hc _ _ (by omega)).trans c1_1_1
  have c2_1_2 : w2.cell? ⟨w.heap.size + 1, 2, none⟩ = some (.int .i64 r) := (hc _ _ (by omega)).trans c1_1_2
  have z2_1 : ∀ j, w2.frozen? ⟨w.heap.size + 1, j, none⟩ = false := fun j => (hf _ _ (by omega)).trans (z1_1 j)
  clear hc hf hb2 hz1 c1_0_0 c1_0_1 c1_0_2 z1_0 c1_1_0 c1_1_1 c1_1_2 z1_1
  go_wp2
  go_ret2
  exact stgPost_of HE.out HV.out rfl HB2.out
theorem Stronger_ok (x y z u v r : Int) (w : World) (ha : bathB ⟨x, y, z⟩ = true) (hb : bathB ⟨u, v, r⟩ = true) (h0 : x ≠ 0) (h1 : u ≠ 0) :
    Calls Try.prog 46 #[.agg #[.int .i64 x, .int .i64 y, .int .i64 z], .agg #[.int .i64 u, .int .i64 v, .int .i64 r]] w (StgPost ⟨x, y, z⟩ ⟨u, v, r⟩ w) := by
  have HA : Kp (bathB ⟨x, y, z⟩ = true) := ⟨ha⟩
  have HB : Kp (bathB ⟨u, v, r⟩ = true) := ⟨hb⟩
  obtain ⟨⟨x0, x1⟩, -, z0, z1⟩ := bath_iff.1 ha
  obtain ⟨⟨u0, u1⟩, -, r0, r1⟩ := bath_iff.1 hb
  simp only at x0 x1 z0 z1 u0 u1 r0 r1
  obtain ⟨m0, m1⟩ := mul_bd z0 z1 u0 u1
  obtain ⟨m2, m3⟩ := mul_bd r0 r1 x0 x1
  have m4 : z * u ≤ 1000000000000000000 := m1
  have m5 : r * x ≤ 1000000000000000000 := m3
  have HE : Kp (stgE ⟨x, y, z⟩ ⟨u, v, r⟩ = 0) := ⟨by unfold stgE; rw [ha, hb, Bool.and_self, if_pos rfl, if_neg (fun h => h.elim h0 h1)]⟩
  have HV : Kp (stgV ⟨x, y, z⟩ ⟨u, v, r⟩ = cmpI (z * u) (r * x)) := ⟨by unfold stgV; rw [HE.out, if_pos rfl]⟩
  have hx : (x == 0) = false := by rw [beq_eq_false_iff_ne]; exact h0
  have hu : (u == 0) = false := by rw [beq_eq_false_iff_ne]; exact h1
  clear ha hb h0 h1 m1 m3
  go_enter Try.func46, Try.ntmps46
  go_wp2_with fail
  refine (ValidBath_yes _ _ _ _ HA.out).mono ?_
  rintro e w1 ⟨rfl, hb1⟩
  have HB1 : Kp (Below w.heap.size w w1) := ⟨Below.trans (by repeat (first | exact Below.refl _ _ | refine Below.alloc ?_ (by simp <;> omega) _ | refine bDrewN ?_ _ | refine Below.drew ?_)) (hb1.mono (by simp <;> omega))⟩
  have hz1 : w.heap.size + 1 < w1.heap.size := by have := hb1.size; simp at this; omega
  obtain ⟨hc, hf⟩ := bcell hb1
  have c1_0_0 : w1.cell? ⟨w.heap.size, 0, none⟩ = some (.int .i64 x) := (hc _ _ (by simp <;> omega)).trans (by go_simp)
  have c1_0_1 : w1.cell? ⟨w.heap.size, 1, none⟩ = some (.int .i64 y) := (hc _ _ (by simp <;> omega)).trans (by go_simp)
  have c1_0_2 : w1.cell? ⟨w.heap.size, 2, none⟩ = some (.int .i64 z) := (hc _ _ (by simp <;> omega)).trans (by go_simp)
  have z1_0 : ∀ j, w1.frozen? ⟨w.heap.size, j, none⟩ = false := fun j => (hf _ _ (by simp <;> omega)).trans (by go_simp)
  have c1_1_0 : w1.cell? ⟨w.heap.size + 1, 0, none⟩ = some (.int .i64 u) := (hc _ _ (by simp <;> omega)).trans (by go_simp)
  have c1_1_1 : w1.cell? ⟨w.heap.size + 1, 1, none⟩ = some (.int .i64 v) := (hc _ _ (by simp <;> omega)).trans (by go_simp)
  have c1_1_2 : w1.cell? ⟨w.heap.size + 1, 2, none⟩ = some (.int .i64 r) := (hc _ _ (by simp <;> omega)).trans (by go_simp)
  have z1_1 : ∀ j, w1.frozen? ⟨w.heap.size + 1, j, none⟩ = false := fun j => (hf _ _ (by simp <;> omega)).trans (by go_simp)
  clear hc hf hb1
  go_wp2_with fail
  refine (ValidBath_yes _ _ _ _ HB.out).mono ?_
  rintro e w2 ⟨rfl, hb2⟩
  have HB2 : Kp (Below w.heap.size w w2) := ⟨HB1.out.trans (hb2.mono (by omega))⟩
  have hz2 : w.heap.size + 1 < w2.heap.size := by have := hb2.size; omega
  obtain ⟨hc, hf⟩ := bcell hb2
  have c2_0_0 : w2.cell? ⟨w.heap.size, 0, none⟩ = some (.int .i64 x) := (hc _ _ (by omega)).trans c1_0_0
  have c2_0_1 : w2.cell? ⟨w.heap.size, 1, none⟩ = some (.int .i64 y) := (hc _ _ (by omega)).trans c1_0_1
  have c2_0_2 : w2.cell? ⟨w.heap.size, 2, none⟩ = some (.int .i64 z) := (hc _ _ (by omega)).trans c1_0_2
  have z2_0 : ∀ j, w2.frozen? ⟨w.heap.size, j, none⟩ = false := fun j => (hf _ _ (by omega)).trans (z1_0 j)
  have c2_1_0 : w2.cell? ⟨w.heap.size + 1, 0, none⟩ = some (.int .i64 u) := (hc _ _ (by omega)).trans c1_1_0
  have c2_1_1 : w2.cell? ⟨w.heap.size + 1, 1, none⟩ = some (.int .i64 v) := (hc _ _ (by omega)).trans c1_1_1
  have c2_1_2 : w2.cell? ⟨w.heap.size + 1, 2, none⟩ = some (.int .i64 r) := (hc _ _ (by omega)).trans c1_1_2
  have z2_1 : ∀ j, w2.frozen? ⟨w.heap.size + 1, j, none⟩ = false := fun j => (hf _ _ (by omega)).trans (z1_1 j)
  clear hc hf hb2 hz1 c1_0_0 c1_0_1 c1_0_2 z1_0 c1_1_0 c1_1_1 c1_1_2 z1_1
  go_wp2_with fail
  refine (Compare_any _ _ _).mono ?_
  rw [← HV.out]
  rintro e w3 ⟨rfl, rfl⟩
  go_wp2
  go_ret2
  exact stgPost_of HE.out rfl rfl HB2.out
theorem Stronger_any (x y z u v r : Int) (w : World) : Calls Try.prog 46 #[.agg #[.int .i64 x, .int .i64 y, .int .i64 z], .agg #[.int .i64 u, .int .i64 v, .int .i64 r]] w (StgPost ⟨x, y, z⟩ ⟨u, v, r⟩ w) := by
  cases ha : bathB ⟨x, y, z⟩ with
  | false => exact Stronger_inv1 x y z u v r w ha
  | true =>
    cases hb : bathB ⟨u, v, r⟩ with
    | false => exact Stronger_inv2 x y z u v r w ha hb
    | true =>
      by_cases h0 : x = 0
      · exact Stronger_dry1 x y z u v r w ha hb h0
      · by_cases h1 : u = 0
        · exact Stronger_dry2 x y z u v r w ha hb h0 h1
        · exact Stronger_ok x y z u v r w ha hb h0 h1
theorem rStronger_inv1 (x y z u v r : Int) (w : World) (ha : bathB ⟨x, y, z⟩ = false) :
    Calls Try.prog 47 #[.agg #[.int .i64 x, .int .i64 y, .int .i64 z], .agg #[.int .i64 u, .int .i64 v, .int .i64 r]] w (StgPost ⟨x, y, z⟩ ⟨u, v, r⟩ w) := by
  have HA : Kp (bathB ⟨x, y, z⟩ = false) := ⟨ha⟩
  have HE : Kp (stgE ⟨x, y, z⟩ ⟨u, v, r⟩ = 1) := ⟨by unfold stgE; rw [ha]; rfl⟩
  have HV : Kp (stgV ⟨x, y, z⟩ ⟨u, v, r⟩ = 0) := ⟨by unfold stgV; rw [HE.out]; rfl⟩
  clear ha
  go_enter Try.func47, Try.ntmps47
  go_wp2_with fail
  refine (rValidBath_no _ _ _ _ HA.out).mono ?_
  rintro e w1 ⟨rfl, hb1⟩
  have HB1 : Kp (Below w.heap.size w w1) := ⟨Below.trans (by repeat (first | exact Below.refl _ _ | refine Below.alloc ?_ (by simp <;> omega) _ | refine bDrewN ?_ _ | refine Below.drew ?_)) (hb1.mono (by simp <;> omega))⟩
  have hz1 : w.heap.size + 1 < w1.heap.size := by have := hb1.size; simp at this; omega
  obtain ⟨hc, hf⟩ := bcell hb1
  have c1_0_0 : w1.cell? ⟨w.heap.size, 0, none⟩ = some (.int .i64 x) := (hc _ _ (by simp <;> omega)).trans (by go_simp)
  have c1_0_1 : w1.cell? ⟨w.heap.size, 1, none⟩ = some (.int .i64 y) := (hc _ _ (by simp <;> omega)).trans (by go_simp)
  have c1_0_2 : w1.cell? ⟨w.heap.size, 2, none⟩ = some (.int .i64 z) := (hc _ _ (by simp <;> omega)).trans (by go_simp)
  have z1_0 : ∀ j, w1.frozen? ⟨w.heap.size, j, none⟩ = false := fun j => (hf _ _ (by simp <;> omega)).trans (by go_simp)
  have c1_1_0 : w1.cell? ⟨w.heap.size + 1, 0, none⟩ = some (.int .i64 u) := (hc _ _ (by simp <;> omega)).trans (by go_simp)
  have c1_1_1 : w1.cell? ⟨w.heap.size + 1, 1, none⟩ = some (.int .i64 v) := (hc _ _ (by simp <;> omega)).trans (by go_simp)
  have c1_1_2 : w1.cell? ⟨w.heap.size + 1, 2, none⟩ = some (.int .i64 r) := (hc _ _ (by simp <;> omega)).trans (by go_simp)
  have z1_1 : ∀ j, w1.frozen? ⟨w.heap.size + 1, j, none⟩ = false := fun j => (hf _ _ (by simp <;> omega)).trans (by go_simp)
  clear hc hf hb1
  go_wp2
  go_ret2
  exact stgPost_of HE.out HV.out rfl HB1.out
theorem rStronger_inv2 (x y z u v r : Int) (w : World) (ha : bathB ⟨x, y, z⟩ = true) (hb : bathB ⟨u, v, r⟩ = false) :
    Calls Try.prog 47 #[.agg #[.int .i64 x, .int .i64 y, .int .i64 z], .agg #[.int .i64 u, .int .i64 v, .int .i64 r]] w (StgPost ⟨x, y, z⟩ ⟨u, v, r⟩ w) := by
  have HA : Kp (bathB ⟨x, y, z⟩ = true) := ⟨ha⟩
  have HB : Kp (bathB ⟨u, v, r⟩ = false) := ⟨hb⟩
  have HE : Kp (stgE ⟨x, y, z⟩ ⟨u, v, r⟩ = 1) := ⟨by unfold stgE; rw [ha, hb]; rfl⟩
  have HV : Kp (stgV ⟨x, y, z⟩ ⟨u, v, r⟩ = 0) := ⟨by unfold stgV; rw [HE.out]; rfl⟩
  clear ha hb
  go_enter Try.func47, Try.ntmps47
  go_wp2_with fail
  refine (rValidBath_yes _ _ _ _ HA.out).mono ?_
  rintro e w1 ⟨rfl, hb1⟩
  have HB1 : Kp (Below w.heap.size w w1) := ⟨Below.trans (by repeat (first | exact Below.refl _ _ | refine Below.alloc ?_ (by simp <;> omega) _ | refine bDrewN ?_ _ | refine Below.drew ?_)) (hb1.mono (by simp <;> omega))⟩
  have hz1 : w.heap.size + 1 < w1.heap.size := by have := hb1.size; simp at this; omega
  obtain ⟨hc, hf⟩ := bcell hb1
  have c1_0_0 : w1.cell? ⟨w.heap.size, 0, none⟩ = some (.int .i64 x) := (hc _ _ (by simp <;> omega)).trans (by go_simp)
  have c1_0_1 : w1.cell? ⟨w.heap.size, 1, none⟩ = some (.int .i64 y) := (hc _ _ (by simp <;> omega)).trans (by go_simp)
  have c1_0_2 : w1.cell? ⟨w.heap.size, 2, none⟩ = some (.int .i64 z) := (hc _ _ (by simp <;> omega)).trans (by go_simp)
  have z1_0 : ∀ j, w1.frozen? ⟨w.heap.size, j, none⟩ = false := fun j => (hf _ _ (by simp <;> omega)).trans (by go_simp)
  have c1_1_0 : w1.cell? ⟨w.heap.size + 1, 0, none⟩ = some (.int .i64 u) := (hc _ _ (by simp <;> omega)).trans (by go_simp)
  have c1_1_1 : w1.cell? ⟨w.heap.size + 1, 1, none⟩ = some (.int .i64 v) := (hc _ _ (by simp <;> omega)).trans (by go_simp)
  have c1_1_2 : w1.cell? ⟨w.heap.size + 1, 2, none⟩ = some (.int .i64 r) := (hc _ _ (by simp <;> omega)).trans (by go_simp)
  have z1_1 : ∀ j, w1.frozen? ⟨w.heap.size + 1, j, none⟩ = false := fun j => (hf _ _ (by simp <;> omega)).trans (by go_simp)
  clear hc hf hb1
  go_wp2_with fail
  refine (rValidBath_no _ _ _ _ HB.out).mono ?_
  rintro e w2 ⟨rfl, hb2⟩
  have HB2 : Kp (Below w.heap.size w w2) := ⟨HB1.out.trans (hb2.mono (by omega))⟩
  have hz2 : w.heap.size + 1 < w2.heap.size := by have := hb2.size; omega
  obtain ⟨hc, hf⟩ := bcell hb2
  have c2_0_0 : w2.cell? ⟨w.heap.size, 0, none⟩ = some (.int .i64 x) := (hc _ _ (by omega)).trans c1_0_0
  have c2_0_1 : w2.cell? ⟨w.heap.size, 1, none⟩ = some (.int .i64 y) := (hc _ _ (by omega)).trans c1_0_1
  have c2_0_2 : w2.cell? ⟨w.heap.size, 2, none⟩ = some (.int .i64 z) := (hc _ _ (by omega)).trans c1_0_2
  have z2_0 : ∀ j, w2.frozen? ⟨w.heap.size, j, none⟩ = false := fun j => (hf _ _ (by omega)).trans (z1_0 j)
  have c2_1_0 : w2.cell? ⟨w.heap.size + 1, 0, none⟩ = some (.int .i64 u) := (hc _ _ (by omega)).trans c1_1_0
  have c2_1_1 : w2.cell? ⟨w.heap.size + 1, 1, none⟩ = some (.int .i64 v) := (hc _ _ (by omega)).trans c1_1_1
  have c2_1_2 : w2.cell? ⟨w.heap.size + 1, 2, none⟩ = some (.int .i64 r) := (hc _ _ (by omega)).trans c1_1_2
  have z2_1 : ∀ j, w2.frozen? ⟨w.heap.size + 1, j, none⟩ = false := fun j => (hf _ _ (by omega)).trans (z1_1 j)
  clear hc hf hb2 hz1 c1_0_0 c1_0_1 c1_0_2 z1_0 c1_1_0 c1_1_1 c1_1_2 z1_1
  go_wp2
  go_ret2
  exact stgPost_of HE.out HV.out rfl HB2.out
theorem rStronger_dry1 (x y z u v r : Int) (w : World) (ha : bathB ⟨x, y, z⟩ = true) (hb : bathB ⟨u, v, r⟩ = true) (h0 : x = 0) :
    Calls Try.prog 47 #[.agg #[.int .i64 x, .int .i64 y, .int .i64 z], .agg #[.int .i64 u, .int .i64 v, .int .i64 r]] w (StgPost ⟨x, y, z⟩ ⟨u, v, r⟩ w) := by
  have HA : Kp (bathB ⟨x, y, z⟩ = true) := ⟨ha⟩
  have HB : Kp (bathB ⟨u, v, r⟩ = true) := ⟨hb⟩
  have HE : Kp (stgE ⟨x, y, z⟩ ⟨u, v, r⟩ = 8) := ⟨by unfold stgE; rw [ha, hb, Bool.and_self, if_pos rfl, if_pos (.inl h0)]⟩
  have HV : Kp (stgV ⟨x, y, z⟩ ⟨u, v, r⟩ = 0) := ⟨by unfold stgV; rw [HE.out]; rfl⟩
  have hx : (x == 0) = true := by rw [h0]; rfl
  clear ha hb h0
  go_enter Try.func47, Try.ntmps47
  go_wp2_with fail
  refine (rValidBath_yes _ _ _ _ HA.out).mono ?_
  rintro e w1 ⟨rfl, hb1⟩
  have HB1 : Kp (Below w.heap.size w w1) := ⟨Below.trans (by repeat (first | exact Below.refl _ _ | refine Below.alloc ?_ (by simp <;> omega) _ | refine bDrewN ?_ _ | refine Below.drew ?_)) (hb1.mono (by simp <;> omega))⟩
  have hz1 : w.heap.size + 1 < w1.heap.size := by have := hb1.size; simp at this; omega
  obtain ⟨hc, hf⟩ := bcell hb1
  have c1_0_0 : w1.cell? ⟨w.heap.size, 0, none⟩ = some (.int .i64 x) := (hc _ _ (by simp <;> omega)).trans (by go_simp)
  have c1_0_1 : w1.cell? ⟨w.heap.size, 1, none⟩ = some (.int .i64 y) := (hc _ _ (by simp <;> omega)).trans (by go_simp)
  have c1_0_2 : w1.cell? ⟨w.heap.size, 2, none⟩ = some (.int .i64 z) := (hc _ _ (by simp <;> omega)).trans (by go_simp)
  have z1_0 : ∀ j, w1.frozen? ⟨w.heap.size, j, none⟩ = false := fun j => (hf _ _ (by simp <;> omega)).trans (by go_simp)
  have c1_1_0 : w1.cell? ⟨w.heap.size + 1, 0, none⟩ = some (.int .i64 u) := (hc _ _ (by simp <;> omega)).trans (by go_simp)
  have c1_1_1 : w1.cell? ⟨w.heap.size + 1, 1, none⟩ = some (.int .i64 v) := (hc _ _ (by simp <;> omega)).trans (by go_simp)
  have c1_1_2 : w1.cell? ⟨w.heap.size + 1, 2, none⟩ = some (.int .i64 r) := (hc _ _ (by simp <;> omega)).trans (by go_simp)
  have z1_1 : ∀ j, w1.frozen? ⟨w.heap.size + 1, j, none⟩ = false := fun j => (hf _ _ (by simp <;> omega)).trans (by go_simp)
  clear hc hf hb1
  go_wp2_with fail
  refine (rValidBath_yes _ _ _ _ HB.out).mono ?_
  rintro e w2 ⟨rfl, hb2⟩
  have HB2 : Kp (Below w.heap.size w w2) := ⟨HB1.out.trans (hb2.mono (by omega))⟩
  have hz2 : w.heap.size + 1 < w2.heap.size := by have := hb2.size; omega
  obtain ⟨hc, hf⟩ := bcell hb2
  have c2_0_0 : w2.cell? ⟨w.heap.size, 0, none⟩ = some (.int .i64 x) := (hc _ _ (by omega)).trans c1_0_0
  have c2_0_1 : w2.cell? ⟨w.heap.size, 1, none⟩ = some (.int .i64 y) := (hc _ _ (by omega)).trans c1_0_1
  have c2_0_2 : w2.cell? ⟨w.heap.size, 2, none⟩ = some (.int .i64 z) := (hc _ _ (by omega)).trans c1_0_2
  have z2_0 : ∀ j, w2.frozen? ⟨w.heap.size, j, none⟩ = false := fun j => (hf _ _ (by omega)).trans (z1_0 j)
  have c2_1_0 : w2.cell? ⟨w.heap.size + 1, 0, none⟩ = some (.int .i64 u) := (hc _ _ (by omega)).trans c1_1_0
  have c2_1_1 : w2.cell? ⟨w.heap.size + 1, 1, none⟩ = some (.int .i64 v) := (hc _ _ (by omega)).trans c1_1_1
  have c2_1_2 : w2.cell? ⟨w.heap.size + 1, 2, none⟩ = some (.int .i64 r) := (hc _ _ (by omega)).trans c1_1_2
  have z2_1 : ∀ j, w2.frozen? ⟨w.heap.size + 1, j, none⟩ = false := fun j => (hf _ _ (by omega)).trans (z1_1 j)
  clear hc hf hb2 hz1 c1_0_0 c1_0_1 c1_0_2 z1_0 c1_1_0 c1_1_1 c1_1_2 z1_1
  go_wp2
  go_ret2
  exact stgPost_of HE.out HV.out rfl HB2.out
theorem rStronger_dry2 (x y z u v r : Int) (w : World) (ha : bathB ⟨x, y, z⟩ = true) (hb : bathB ⟨u, v, r⟩ = true) (h0 : x ≠ 0) (h1 : u = 0) :
    Calls Try.prog 47 #[.agg #[.int .i64 x, .int .i64 y, .int .i64 z], .agg #[.int .i64 u, .int .i64 v, .int .i64 r]] w (StgPost ⟨x, y, z⟩ ⟨u, v, r⟩ w) := by
  have HA : Kp (bathB ⟨x, y, z⟩ = true) := ⟨ha⟩
  have HB : Kp (bathB ⟨u, v, r⟩ = true) := ⟨hb⟩
  have HE : Kp (stgE ⟨x, y, z⟩ ⟨u, v, r⟩ = 8) := ⟨by unfold stgE; rw [ha, hb, Bool.and_self, if_pos rfl, if_pos (.inr h1)]⟩
  have HV : Kp (stgV ⟨x, y, z⟩ ⟨u, v, r⟩ = 0) := ⟨by unfold stgV; rw [HE.out]; rfl⟩
  have hx : (x == 0) = false := by rw [beq_eq_false_iff_ne]; exact h0
  have hu : (u == 0) = true := by rw [h1]; rfl
  clear ha hb h0 h1
  go_enter Try.func47, Try.ntmps47
  go_wp2_with fail
  refine (rValidBath_yes _ _ _ _ HA.out).mono ?_
  rintro e w1 ⟨rfl, hb1⟩
  have HB1 : Kp (Below w.heap.size w w1) := ⟨Below.trans (by repeat (first | exact Below.refl _ _ | refine Below.alloc ?_ (by simp <;> omega) _ | refine bDrewN ?_ _ | refine Below.drew ?_)) (hb1.mono (by simp <;> omega))⟩
  have hz1 : w.heap.size + 1 < w1.heap.size := by have := hb1.size; simp at this; omega
  obtain ⟨hc, hf⟩ := bcell hb1
  have c1_0_0 : w1.cell? ⟨w.heap.size, 0, none⟩ = some (.int .i64 x) := (hc _ _ (by simp <;> omega)).trans (by go_simp)
  have c1_0_1 : w1.cell? ⟨w.heap.size, 1, none⟩ = some (.int .i64 y) := (hc _ _ (by simp <;> omega)).trans (by go_simp)
  have c1_0_2 : w1.cell? ⟨w.heap.size, 2, none⟩ = some (.int .i64 z) := (hc _ _ (by simp <;> omega)).trans (by go_simp)
  have z1_0 : ∀ j, w1.frozen? ⟨w.heap.size, j, none⟩ = false := fun j => (hf _ _ (by simp <;> omega)).trans (by go_simp)
  have c1_1_0 : w1.cell? ⟨w.heap.size + 1, 0, none⟩ = some (.int .i64 u) := (hc _ _ (by simp <;> omega)).trans (by go_simp)
  have c1_1_1 : w1.cell? ⟨w.heap.size + 1, 1, none⟩ = some (.int .i64 v) := (hc _ _ (by simp <;> omega)).trans (by go_simp)
  have c1_1_2 : w1.cell? ⟨w.heap.size + 1, 2, none⟩ = some (.int .i64 r) := (hc _ _ (by simp <;> omega)).trans (by go_simp)
  have z1_1 : ∀ j, w1.frozen? ⟨w.heap.size + 1, j, none⟩ = false := fun j => (hf _ _ (by simp <;> omega)).trans (by go_simp)
  clear hc hf hb1
  go_wp2_with fail
  refine (rValidBath_yes _ _ _ _ HB.out).mono ?_
  rintro e w2 ⟨rfl, hb2⟩
  have HB2 : Kp (Below w.heap.size w w2) := ⟨HB1.out.trans (hb2.mono (by omega))⟩
  have hz2 : w.heap.size + 1 < w2.heap.size := by have := hb2.size; omega
  obtain ⟨hc, hf⟩ := bcell hb2
  have c2_0_0 : w2.cell? ⟨w.heap.size, 0, none⟩ = some (.int .i64 x) := (hc _ _ (by omega)).trans c1_0_0
  have c2_0_1 : w2.cell? ⟨w.heap.size, 1, none⟩ = some (.int .i64 y) := (hc _ _ (by omega)).trans c1_0_1
  have c2_0_2 : w2.cell? ⟨w.heap.size, 2, none⟩ = some (.int .i64 z) := (hc _ _ (by omega)).trans c1_0_2
  have z2_0 : ∀ j, w2.frozen? ⟨w.heap.size, j, none⟩ = false := fun j => (hf _ _ (by omega)).trans (z1_0 j)
  have c2_1_0 : w2.cell? ⟨w.heap.size + 1, 0, none⟩ = some (.int .i64 u) := (hc _ _ (by omega)).trans c1_1_0
  have c2_1_1 : w2.cell? ⟨w.heap.size + 1, 1, none⟩ = some (.int .i64 v) := (hc _ _ (by omega)).trans c1_1_1
  have c2_1_2 : w2.cell? ⟨w.heap.size + 1, 2, none⟩ = some (.int .i64 r) := (hc _ _ (by omega)).trans c1_1_2
  have z2_1 : ∀ j, w2.frozen? ⟨w.heap.size + 1, j, none⟩ = false := fun j => (hf _ _ (by omega)).trans (z1_1 j)
  clear hc hf hb2 hz1 c1_0_0 c1_0_1 c1_0_2 z1_0 c1_1_0 c1_1_1 c1_1_2 z1_1
  go_wp2
  go_ret2
  exact stgPost_of HE.out HV.out rfl HB2.out
theorem rStronger_ok (x y z u v r : Int) (w : World) (ha : bathB ⟨x, y, z⟩ = true) (hb : bathB ⟨u, v, r⟩ = true) (h0 : x ≠ 0) (h1 : u ≠ 0) :
    Calls Try.prog 47 #[.agg #[.int .i64 x, .int .i64 y, .int .i64 z], .agg #[.int .i64 u, .int .i64 v, .int .i64 r]] w (StgPost ⟨x, y, z⟩ ⟨u, v, r⟩ w) := by
  have HA : Kp (bathB ⟨x, y, z⟩ = true) := ⟨ha⟩
  have HB : Kp (bathB ⟨u, v, r⟩ = true) := ⟨hb⟩
  obtain ⟨⟨x0, x1⟩, -, z0, z1⟩ := bath_iff.1 ha
  obtain ⟨⟨u0, u1⟩, -, r0, r1⟩ := bath_iff.1 hb
  simp only at x0 x1 z0 z1 u0 u1 r0 r1
  obtain ⟨m0, m1⟩ := mul_bd z0 z1 u0 u1
  obtain ⟨m2, m3⟩ := mul_bd r0 r1 x0 x1
  have m4 : z * u ≤ 1000000000000000000 := m1
  have m5 : r * x ≤ 1000000000000000000 := m3
  have HE : Kp (stgE ⟨x, y, z⟩ ⟨u, v, r⟩ = 0) := ⟨by unfold stgE; rw [ha, hb, Bool.and_self, if_pos rfl, if_neg (fun h => h.elim h0 h1)]⟩
  have HV : Kp (stgV ⟨x, y, z⟩ ⟨u, v, r⟩ = cmpI (z * u) (r * x)) := ⟨by unfold stgV; rw [HE.out, if_pos rfl]⟩
  have hx : (x == 0) = false := by rw [beq_eq_false_iff_ne]; exact h0
  have hu : (u == 0) = false := by rw [beq_eq_false_iff_ne]; exact h1
  clear ha hb h0 h1 m1 m3
  by_cases hlt : z * u < r * x
  · have HV2 : Kp (stgV ⟨x, y, z⟩ ⟨u, v, r⟩ = -1) := ⟨by rw [HV.out]; exact if_pos hlt⟩
    go_enter Try.func47, Try.ntmps47
    go_wp2_with fail
    refine (rValidBath_yes _ _ _ _ HA.out).mono ?_
    rintro e w1 ⟨rfl, hb1⟩
    have HB1 : Kp (Below w.heap.size w w1) := ⟨Below.trans (by repeat (first | exact Below.refl _ _ | refine Below.alloc ?_ (by simp <;> omega) _ | refine bDrewN ?_ _ | refine Below.drew ?_)) (hb1.mono (by simp <;> omega))⟩
    have hz1 : w.heap.size + 1 < w1.heap.size := by have := hb1.size; simp at this; omega
    obtain ⟨hc, hf⟩ := bcell hb1
    have c1_0_0 : w1.cell? ⟨w.heap.size, 0, none⟩ = some (.int .i64 x) := (hc _ _ (by simp <;> omega)).trans (by go_simp)
    have c1_0_1 : w1.cell? ⟨w.heap.size, 1, none⟩ = some (.int .i64 y) := (hc _ _ (by simp <;> omega)).trans (by go_simp)
    have c1_0_2 : w1.cell? ⟨w.heap.size, 2, none⟩ = some (.int .i64 z) := (hc _ _ (by simp <;> omega)).trans (by go_simp)
    have z1_0 : ∀ j, w1.frozen? ⟨w.heap.size, j, none⟩ = false := fun j => (hf _ _ (by simp <;> omega)).trans (by go_simp)
    have c1_1_0 : w1.cell? ⟨w.heap.size + 1, 0, none⟩ = some (.int .i64 u) := (hc _ _ (by simp <;> omega)).trans (by go_simp)
    have c1_1_1 : w1.cell? ⟨w.heap.size + 1, 1, none⟩ = some (.int .i64 v) := (hc _ _ (by simp <;> omega)).trans (by go_simp)
    have c1_1_2 : w1.cell? ⟨w.heap.size + 1, 2, none⟩ = some (.int .i64 r) := (hc _ _ (by simp <;> omega)).trans (by go_simp)
    have z1_1 : ∀ j, w1.frozen? ⟨w.heap.size + 1, j, none⟩ = false := fun j => (hf _ _ (by simp <;> omega)).trans (by go_simp)
    clear hc hf hb1
    go_wp2_with fail
    refine (rValidBath_yes _ _ _ _ HB.out).mono ?_
    rintro e w2 ⟨rfl, hb2⟩
    have HB2 : Kp (Below w.heap.size w w2) := ⟨HB1.out.trans (hb2.mono (by omega))⟩
    have hz2 : w.heap.size + 1 < w2.heap.size := by have := hb2.size; omega
    obtain ⟨hc, hf⟩ := bcell hb2
    have c2_0_0 : w2.cell? ⟨w.heap.size, 0, none⟩ = some (.int .i64 x) := (hc _ _ (by omega)).trans c1_0_0
    have c2_0_1 : w2.cell? ⟨w.heap.size, 1, none⟩ = some (.int .i64 y) := (hc _ _ (by omega)).trans c1_0_1
    have c2_0_2 : w2.cell? ⟨w.heap.size, 2, none⟩ = some (.int .i64 z) := (hc _ _ (by omega)).trans c1_0_2
    have z2_0 : ∀ j, w2.frozen? ⟨w.heap.size, j, none⟩ = false := fun j => (hf _ _ (by omega)).trans (z1_0 j)
    have c2_1_0 : w2.cell? ⟨w.heap.size + 1, 0, none⟩ = some (.int .i64 u) := (hc _ _ (by omega)).trans c1_1_0
    have c2_1_1 : w2.cell? ⟨w.heap.size + 1, 1, none⟩ = some (.int .i64 v) := (hc _ _ (by omega)).trans c1_1_1
    have c2_1_2 : w2.cell? ⟨w.heap.size + 1, 2, none⟩ = some (.int .i64 r) := (hc _ _ (by omega)).trans c1_1_2
    have z2_1 : ∀ j, w2.frozen? ⟨w.heap.size + 1, j, none⟩ = false := fun j => (hf _ _ (by omega)).trans (z1_1 j)
    clear hc hf hb2 hz1 c1_0_0 c1_0_1 c1_0_2 z1_0 c1_1_0 c1_1_1 c1_1_2 z1_1
    go_wp2
    go_quiet (fail)
    go_wp2
    go_ret2
    exact stgPost_of HE.out HV2.out rfl (bDrewN HB2.out _)
  · by_cases hgt : r * x < z * u
    · have HV2 : Kp (stgV ⟨x, y, z⟩ ⟨u, v, r⟩ = 1) := ⟨by rw [HV.out]; unfold cmpI; rw [if_neg hlt, if_pos hgt]⟩
      go_enter Try.func47, Try.ntmps47
      go_wp2_with fail
      refine (rValidBath_yes _ _ _ _ HA.out).mono ?_
      rintro e w1 ⟨rfl, hb1⟩
      have HB1 : Kp (Below w.heap.size w w1) := ⟨Below.trans (by repeat (first | exact Below.refl _ _ | refine Below.alloc ?_ (by simp <;> omega) _ | refine bDrewN ?_ _ | refine Below.drew ?_)) (hb1.mono (by simp <;> omega))⟩
      have hz1 : w.heap.size + 1 < w1.heap.size := by have := hb1.size; simp at this; omega
      obtain ⟨hc, hf⟩ := bcell hb1
      have c1_0_0 : w1.cell? ⟨w.heap.size, 0, none⟩ = some (.int .i64 x) := (hc _ _ (by simp <;> omega)).trans (by go_simp)
      have c1_0_1 : w1.cell? ⟨w.heap.size, 1, none⟩ = some (.int .i64 y) := (hc _ _ (by simp <;> omega)).trans (by go_simp)
      have c1_0_2 : w1.cell? ⟨w.heap.size, 2, none⟩ = some (.int .i64 z) := (hc _ _ (by simp <;> omega)).trans (by go_simp)
      have z1_0 : ∀ j, w1.frozen? ⟨w.heap.size, j, none⟩ = false := fun j => (hf _ _ (by simp <;> omega)).trans (by go_simp)
      have c1_1_0 : w1.cell? ⟨w.heap.size + 1, 0, none⟩ = some (.int .i64 u) := (hc _ _ (by simp <;> omega)).trans (by go_simp)
      have c1_1_1 : w1.cell? ⟨w.heap.size + 1, 1, none⟩ = some (.int .i64 v) := (hc _ _ (by simp <;> omega)).trans (by go_simp)
      have c1_1_2 : w1.cell? ⟨w.heap.size + 1, 2, none⟩ = some (.int .i64 r) := (hc _ _ (by simp <;> omega)).trans (by go_simp)
      have z1_1 : ∀ j, w1.frozen? ⟨w.heap.size + 1, j, none⟩ = false := fun j => (hf _ _ (by simp <;> omega)).trans (by go_simp)
      clear hc hf hb1
      go_wp2_with fail
      refine (rValidBath_yes _ _ _ _ HB.out).mono ?_
      rintro e w2 ⟨rfl, hb2⟩
      have HB2 : Kp (Below w.heap.size w w2) := ⟨HB1.out.trans (hb2.mono (by omega))⟩
      have hz2 : w.heap.size + 1 < w2.heap.size := by have := hb2.size; omega
      obtain ⟨hc, hf⟩ := bcell hb2
      have c2_0_0 : w2.cell? ⟨w.heap.size, 0, none⟩ = some (.int .i64 x) := (hc _ _ (by omega)).trans c1_0_0
      have c2_0_1 : w2.cell? ⟨w.heap.size, 1, none⟩ = some (.int .i64 y) := (hc _ _ (by omega)).trans c1_0_1
      have c2_0_2 : w2.cell? ⟨w.heap.size, 2, none⟩ = some (.int .i64 z) := (hc _ _ (by omega)).trans c1_0_2
      have z2_0 : ∀ j, w2.frozen? ⟨w.heap.size, j, none⟩ = false := fun j => (hf _ _ (by omega)).trans (z1_0 j)
      have c2_1_0 : w2.cell? ⟨w.heap.size + 1, 0, none⟩ = some (.int .i64 u) := (hc _ _ (by omega)).trans c1_1_0
      have c2_1_1 : w2.cell? ⟨w.heap.size + 1, 1, none⟩ = some (.int .i64 v) := (hc _ _ (by omega)).trans c1_1_1
      have c2_1_2 : w2.cell? ⟨w.heap.size + 1, 2, none⟩ = some (.int .i64 r) := (hc _ _ (by omega)).trans c1_1_2
      have z2_1 : ∀ j, w2.frozen? ⟨w.heap.size + 1, j, none⟩ = false := fun j => (hf _ _ (by omega)).trans (z1_1 j)
      clear hc hf hb2 hz1 c1_0_0 c1_0_1 c1_0_2 z1_0 c1_1_0 c1_1_1 c1_1_2 z1_1
      go_wp2
      go_quiet (fail)
      go_wp2
      go_ret2
      exact stgPost_of HE.out HV2.out rfl (bDrewN HB2.out _)
    · have HV2 : Kp (stgV ⟨x, y, z⟩ ⟨u, v, r⟩ = 0) := ⟨by rw [HV.out]; unfold cmpI; rw [if_neg hlt, if_neg hgt]⟩
      go_enter Try.func47, Try.ntmps47
      go_wp2_with fail
      refine (rValidBath_yes _ _ _ _ HA.out).mono ?_
      rintro e w1 ⟨rfl, hb1⟩
      have HB1 : Kp (Below w.heap.size w w1) := ⟨Below.trans (by repeat (first | exact Below.refl _ _ | refine Below.alloc ?_ (by simp <;> omega) _ | refine bDrewN ?_ _ | refine Below.drew ?_)) (hb1.mono (by simp <;> omega))⟩
      have hz1 : w.heap.size + 1 < w1.heap.size := by have := hb1.size; simp at this; omega
      obtain ⟨hc, hf⟩ := bcell hb1
      have c1_0_0 : w1.cell? ⟨w.heap.size, 0, none⟩ = some (.int .i64 x) := (hc _ _ (by simp <;> omega)).trans (by go_simp)
      have c1_0_1 : w1.cell? ⟨w.heap.size, 1, none⟩ = some (.int .i64 y) := (hc _ _ (by simp <;> omega)).trans (by go_simp)
      have c1_0_2 : w1.cell? ⟨w.heap.size, 2, none⟩ = some (.int .i64 z) := (hc _ _ (by simp <;> omega)).trans (by go_simp)
      have z1_0 : ∀ j, w1.frozen? ⟨w.heap.size, j, none⟩ = false := fun j => (hf _ _ (by simp <;> omega)).trans (by go_simp)
      have c1_1_0 : w1.cell? ⟨w.heap.size + 1, 0, none⟩ = some (.int .i64 u) := (hc _ _ (by simp <;> omega)).trans (by go_simp)
      have c1_1_1 : w1.cell? ⟨w.heap.size + 1, 1, none⟩ = some (.int .i64 v) := (hc _ _ (by simp <;> omega)).trans (by go_simp)
      have c1_1_2 : w1.cell? ⟨w.heap.size + 1, 2, none⟩ = some (.int .i64 r) := (hc _ _ (by simp <;> omega)).trans (by go_simp)
      have z1_1 : ∀ j, w1.frozen? ⟨w.heap.size + 1, j, none⟩ = false := fun j => (hf _ _ (by simp <;> omega)).trans (by go_simp)
      clear hc hf hb1
      go_wp2_with fail
      refine (rValidBath_yes _ _ _ _ HB.out).mono ?_
      rintro e w2 ⟨rfl, hb2⟩
      have HB2 : Kp (Below w.heap.size w w2) := ⟨HB1.out.trans (hb2.mono (by omega))⟩
      have hz2 : w.heap.size + 1 < w2.heap.size := by have := hb2.size; omega
      obtain ⟨hc, hf⟩ := bcell hb2
      have c2_0_0 : w2.cell? ⟨w.heap.size, 0, none⟩ = some (.int .i64 x) := (hc _ _ (by omega)).trans c1_0_0
      have c2_0_1 : w2.cell? ⟨w.heap.size, 1, none⟩ = some (.int .i64 y) := (hc _ _ (by omega)).trans c1_0_1
      have c2_0_2 : w2.cell? ⟨w.heap.size, 2, none⟩ = some (.int .i64 z) := (hc _ _ (by omega)).trans c1_0_2
      have z2_0 : ∀ j, w2.frozen? ⟨w.heap.size, j, none⟩ = false := fun j => (hf _ _ (by omega)).trans (z1_0 j)
      have c2_1_0 : w2.cell? ⟨w.heap.size + 1, 0, none⟩ = some (.int .i64 u) := (hc _ _ (by omega)).trans c1_1_0
      have c2_1_1 : w2.cell? ⟨w.heap.size + 1, 1, none⟩ = some (.int .i64 v) := (hc _ _ (by omega)).trans c1_1_1
      have c2_1_2 : w2.cell? ⟨w.heap.size + 1, 2, none⟩ = some (.int .i64 r) := (hc _ _ (by omega)).trans c1_1_2
      have z2_1 : ∀ j, w2.frozen? ⟨w.heap.size + 1, j, none⟩ = false := fun j => (hf _ _ (by omega)).trans (z1_1 j)
      clear hc hf hb2 hz1 c1_0_0 c1_0_1 c1_0_2 z1_0 c1_1_0 c1_1_1 c1_1_2 z1_1
      go_wp2
      go_quiet (fail)
      go_wp2
      go_ret2
      exact stgPost_of HE.out HV2.out rfl (bDrewN HB2.out _)
theorem rStronger_any (x y z u v r : Int) (w : World) : Calls Try.prog 47 #[.agg #[.int .i64 x, .int .i64 y, .int .i64 z], .agg #[.int .i64 u, .int .i64 v, .int .i64 r]] w (StgPost ⟨x, y, z⟩ ⟨u, v, r⟩ w) := by
  cases ha : bathB ⟨x, y, z⟩ with
  | false => exact rStronger_inv1 x y z u v r w ha
  | true =>
    cases hb : bathB ⟨u, v, r⟩ with
    | false => exact rStronger_inv2 x y z u v r w ha hb
    | true =>
      by_cases h0 : x = 0
      · exact rStronger_dry1 x y z u v r w ha hb h0
      · by_cases h1 : u = 0
        · exact rStronger_dry2 x y z u v r w ha hb h0 h1
        · exact rStronger_ok x y z u v r w ha hb h0 h1
end Go.Proofs.Ytopbbghjmdhplaa.Bt
