/-
  WALKS (layer 3, baths): Split, by the program.
-/
import Derived.Test.YtakldbpfdoeimaaBtMixA
namespace Go.Proofs.Ytakldbpfdoeimaa.Bt
open Go Go.RowKit

theorem spl_inv {a : Ba} {t : Int} (h : bathB a = false) : splE a t = 1 ∧ splA a t = ⟨0, 0, 0⟩ ∧ splR a t = ⟨0, 0, 0⟩ := by
  have e : splE a t = 1 := by unfold splE; rw [h]; rfl
  exact ⟨e, by unfold splA; rw [e]; rfl, by unfold splR; rw [e]; rfl⟩
theorem spl_rng {a : Ba} {t : Int} (h : bathB a = true) (g : rngB 1000 t = false) : splE a t = 7 ∧ splA a t = ⟨0, 0, 0⟩ ∧ splR a t = ⟨0, 0, 0⟩ := by
  have e : splE a t = 7 := by unfold splE; rw [h, g]; rfl
  exact ⟨e, by unfold splA; rw [e]; rfl, by unfold splR; rw [e]; rfl⟩
theorem spl_ok {a : Ba} {t : Int} (h : bathB a = true) (g : rngB 1000 t = true) : splE a t = 0 ∧ splA a t = partB t a ∧ splR a t = restB t a := by
  have e : splE a t = 0 := by unfold splE; rw [h, g]; rfl
  exact ⟨e, by unfold splA; rw [e]; rfl, by unfold splR; rw [e]; rfl⟩
theorem Split_inv (x y z t : Int) (w : World) (ha : bathB ⟨x, y, z⟩ = false) :
    Calls Try.prog 52 #[.agg #[.int .i64 x, .int .i64 y, .int .i64 z], .int .i64 t] w (SplPost ⟨x, y, z⟩ t w) := by
  have HA : Kp (bathB ⟨x, y, z⟩ = false) := ⟨ha⟩
  have HE := Lib.hid (spl_inv (t := t) ha)
  clear ha
  go_enter Try.func52, Try.ntmps52
  go_wp2_with fail
  refine (ValidBath_no _ _ _ _ HA.out).mono ?_
  rintro e w1 ⟨rfl, hb1⟩
  have HB1 : Kp (Below w.heap.size w w1) := ⟨Below.trans (by repeat (first | refine Below.alloc ?_ (by (try simp) <;> omega) _ | refine bDrewN ?_ _ | refine Below.drew ?_ | exact Below.refl _ _)) (hb1.mono (by (try simp) <;> omega))⟩
  have hz1_0 : w.heap.size < w1.heap.size := by have := hb1.size; (try simp at this); omega
  have hz1_1 : w.heap.size + 1 < w1.heap.size := by have := hb1.size; (try simp at this); omega
  have hz1_2 : w.heap.size + 1 + 1 < w1.heap.size := by have := hb1.size; (try simp at this); omega
  obtain ⟨hc, hf⟩ := bcell hb1
  have c1_0_0 : w1.cell? ⟨w.heap.size, 0, none⟩ = some (.int .i64 x) := (hc _ _ (by (try simp) <;> omega)).trans (by go_simp)
  have c1_0_1 : w1.cell? ⟨w.heap.size, 1, none⟩ = some (.int .i64 y) := (hc _ _ (by (try simp) <;> omega)).trans (by go_simp)
  have c1_0_2 : w1.cell? ⟨w.heap.size, 2, none⟩ = some (.int .i64 z) := (hc _ _ (by (try simp) <;> omega)).trans (by go_simp)
  have z1_0 : ∀ j, w1.frozen? ⟨w.heap.size, j, none⟩ = false := fun j => (hf _ _ (by (try simp) <;> omega)).trans (by go_simp)
  have c1_1_0 : w1.cell? ⟨w.heap.size + 1, 0, none⟩ = some (.int .i64 0) := (hc _ _ (by (try simp) <;> omega)).trans (by go_simp)
  have c1_1_1 : w1.cell? ⟨w.heap.size + 1, 1, none⟩ = some (.int .i64 0) := (hc _ _ (by (try simp) <;> omega)).trans (by go_simp)
  have c1_1_2 : w1.cell? ⟨w.heap.size + 1, 2, none⟩ = some (.int .i64 0) := (hc _ _ (by (try simp) <;> omega)).trans (by go_simp)
  have z1_1 : ∀ j, w1.frozen? ⟨w.heap.size + 1, j, none⟩ = false := fun j => (hf _ _ (by (try simp) <;> omega)).trans (by go_simp)
  have c1_2_0 : w1.cell? ⟨w.heap.size + 1 + 1, 0, none⟩ = some (.int .i64 0) := (hc _ _ (by (try simp) <;> omega)).trans (by go_simp)
  have c1_2_1 : w1.cell? ⟨w.heap.size + 1 + 1, 1, none⟩ = some (.int .i64 0) := (hc _ _ (by (try simp) <;> omega)).trans (by go_simp)
  have c1_2_2 : w1.cell? ⟨w.heap.size + 1 + 1, 2, none⟩ = some (.int .i64 0) := (hc _ _ (by (try simp) <;> omega)).trans (by go_simp)
  have z1_2 : ∀ j, w1.frozen? ⟨w.heap.size + 1 + 1, j, none⟩ = false := fun j => (hf _ _ (by (try simp) <;> omega)).trans (by go_simp)
  clear hc hf hb1
  go_wp2
  refine bodyPost_ret (v := .tuple #[.agg #[.int .i64 0, .int .i64 0, .int .i64 0], .agg #[.int .i64 0, .int .i64 0, .int .i64 0], .int .i64 1]) ?_ rfl (splPost_of HE.out.1 HE.out.2.1 HE.out.2.2 rfl ?_)
  · simp [results, Try.results52, go_sem, c1_1_0, c1_1_1, c1_1_2, c1_2_0, c1_2_1, c1_2_2]
  · (have hzS := HB1.out.size; (repeat (with_reducible first | exact HB1.out | refine Below.setCell ?_ ?_ _ | refine Below.alloc ?_ ?_ _ | refine Below.drew ?_ | refine bDrewN ?_ _)); all_goals ((try simp) <;> omega))
theorem Split_rng (x y z t : Int) (w : World) (ha : bathB ⟨x, y, z⟩ = true) (ht : rngB 1000 t = false) :
    Calls Try.prog 52 #[.agg #[.int .i64 x, .int .i64 y, .int .i64 z], .int .i64 t] w (SplPost ⟨x, y, z⟩ t w) := by
  have HA : Kp (bathB ⟨x, y, z⟩ = true) := ⟨ha⟩
  have HT : Kp (allB 1000 [t] = false) := ⟨(allB1 _ _).trans ht⟩
  have HE := Lib.hid (spl_rng ha ht)
  clear ha ht
  go_enter Try.func52, Try.ntmps52
  go_wp2_with fail
  refine (ValidBath_yes _ _ _ _ HA.out).mono ?_
  rintro e w1 ⟨rfl, hb1⟩
  have HB1 : Kp (Below w.heap.size w w1) := ⟨Below.trans (by repeat (first | refine Below.alloc ?_ (by (try simp) <;> omega) _ | refine bDrewN ?_ _ | refine Below.drew ?_ | exact Below.refl _ _)) (hb1.mono (by (try simp) <;> omega))⟩
  have hz1_0 : w.heap.size < w1.heap.size := by have := hb1.size; (try simp at this); omega
  have hz1_1 : w.heap.size + 1 < w1.heap.size := by have := hb1.size; (try simp at this); omega
  have hz1_2 : w.heap.size + 1 + 1 < w1.heap.size := by have := hb1.size; (try simp at this); omega
  obtain ⟨hc, hf⟩ := bcell hb1
  have c1_0_0 : w1.cell? ⟨w.heap.size, 0, none⟩ = some (.int .i64 x) := (hc _ _ (by (try simp) <;> omega)).trans (by go_simp)
  have c1_0_1 : w1.cell? ⟨w.heap.size, 1, none⟩ = some (.int .i64 y) := (hc _ _ (by (try simp) <;> omega)).trans (by go_simp)
  have c1_0_2 : w1.cell? ⟨w.heap.size, 2, none⟩ = some (.int .i64 z) := (hc _ _ (by (try simp) <;> omega)).trans (by go_simp)
  have z1_0 : ∀ j, w1.frozen? ⟨w.heap.size, j, none⟩ = false := fun j => (hf _ _ (by (try simp) <;> omega)).trans (by go_simp)
  have c1_1_0 : w1.cell? ⟨w.heap.size + 1, 0, none⟩ = some (.int .i64 0) := (hc _ _ (by (try simp) <;> omega)).trans (by go_simp)
  have c1_1_1 : w1.cell? ⟨w.heap.size + 1, 1, none⟩ = some (.int .i64 0) := (hc _ _ (by (try simp) <;> omega)).trans (by go_simp)
  have c1_1_2 : w1.cell? ⟨w.heap.size + 1, 2, none⟩ = some (.int .i64 0) := (hc _ _ (by (try simp) <;> omega)).trans (by go_simp)
  have z1_1 : ∀ j, w1.frozen? ⟨w.heap.size + 1, j, none⟩ = false := fun j => (hf _ _ (by (try simp) <;> omega)).trans (by go_simp)
  have c1_2_0 : w1.cell? ⟨w.heap.size + 1 + 1, 0, none⟩ = some (.int .i64 0) := (hc _ _ (by (try simp) <;> omega)).trans (by go_simp)
  have c1_2_1 : w1.cell? ⟨w.heap.size + 1 + 1, 1, none⟩ = some (.int .i64 0) := (hc _ _ (by (try simp) <;> omega)).trans (by go_simp)
  have c1_2_2 : w1.cell? ⟨w.heap.size + 1 + 1, 2, none⟩ = some (.int .i64 0) := (hc _ _ (by (try simp) <;> omega)).trans (by go_simp)
  have z1_2 : ∀ j, w1.frozen? ⟨w.heap.size + 1 + 1, j, none⟩ = false := fun j => (hf _ _ (by (try simp) <;> omega)).trans (by go_simp)
  clear hc hf hb1
  go_wp2_with fail
  refine (within_any 1000 [t] _ _ (by simp) ?_).mono ?_
  · intro k h
    obtain rfl : k = 0 := by simp at h; omega
    first | (simp; done) | (simp; go_simp; done) | (go_simp; done)
  rw [HT.out]
  rintro e w2 ⟨rfl, rfl⟩
  go_wp2
  refine bodyPost_ret (v := .tuple #[.agg #[.int .i64 0, .int .i64 0, .int .i64 0], .agg #[.int .i64 0, .int .i64 0, .int .i64 0], .int .i64 7]) ?_ rfl (splPost_of HE.out.1 HE.out.2.1 HE.out.2.2 rfl ?_)
  · simp [results, Try.results52, go_sem, c1_1_0, c1_1_1, c1_1_2, c1_2_0, c1_2_1, c1_2_2, hz1_1, hz1_2]
  · (have hzS := HB1.out.size; (repeat (with_reducible first | exact HB1.out | refine Below.setCell ?_ ?_ _ | refine Below.alloc ?_ ?_ _ | refine Below.drew ?_ | refine bDrewN ?_ _)); all_goals ((try simp) <;> omega))
set_option maxHeartbeats 1000000 in
theorem Split_ok (x y z t : Int) (w : World) (ha : bathB ⟨x, y, z⟩ = true) (ht : rngB 1000 t = true) :
    Calls Try.prog 52 #[.agg #[.int .i64 x, .int .i64 y, .int .i64 z], .int .i64 t] w (SplPost ⟨x, y, z⟩ t w) := by
  have HA : Kp (bathB ⟨x, y, z⟩ = true) := ⟨ha⟩
  have HT : Kp (allB 1000 [t] = true) := ⟨(allB1 _ _).trans ht⟩
  have HE := Lib.hid (spl_ok ha ht)
  have HQ : Kp (∀ W : World, Calls Try.prog 77 #[.agg #[.int .i64 x, .int .i64 y, .int .i64 z], .int .i64 t] W fun e w' => e = .returned (.tuple #[.agg #[.int .i64 (part t x), .int .i64 (part t y), .int .i64 (part t z)], .agg #[.int .i64 (x - part t x), .int .i64 (y - part t y), .int .i64 (z - part t z)]]) ∧ Below W.heap.size W w') := ⟨fun W => parted_any x y z t W ha (rng_iff.1 ht).1 (rng_iff.1 ht).2⟩
  clear ha ht
  obtain ⟨p, hp⟩ : ∃ p, part t x = p := ⟨_, rfl⟩
  obtain ⟨q, hq⟩ : ∃ q, part t y = q := ⟨_, rfl⟩
  obtain ⟨s, hs⟩ : ∃ s, part t z = s := ⟨_, rfl⟩
  obtain ⟨p', hp'⟩ : ∃ p', x - p = p' := ⟨_, rfl⟩
  obtain ⟨q', hq'⟩ : ∃ q', y - q = q' := ⟨_, rfl⟩
  obtain ⟨s', hs'⟩ : ∃ s', z - s = s' := ⟨_, rfl⟩
  have HV : Kp (splA ⟨x, y, z⟩ t = ⟨p, q, s⟩ ∧ splR ⟨x, y, z⟩ t = ⟨p', q', s'⟩) := ⟨by rw [HE.out.2.1, HE.out.2.2, ← hp', ← hq', ← hs', ← hp, ← hq, ← hs]; exact ⟨rfl, rfl⟩⟩
  rw [hp, hq, hs, hp', hq', hs'] at HQ
  clear hp hq hs hp' hq' hs'
  go_enter Try.func52, Try.ntmps52
  go_wp2_with fail
  refine (ValidBath_yes _ _ _ _ HA.out).mono ?_
  rintro e w1 ⟨rfl, hb1⟩
  have HB1 : Kp (Below w.heap.size w w1) := ⟨Below.trans (by repeat (first | refine Below.alloc ?_ (by (try simp) <;> omega) _ | refine bDrewN ?_ _ | refine Below.drew ?_ | exact Below.refl _ _)) (hb1.mono (by (try simp) <;> omega))⟩
  have hz1_0 : w.heap.size < w1.heap.size := by have := hb1.size; (try simp at this); omega
  have hz1_1 : w.heap.size + 1 < w1.heap.size := by have := hb1.size; (try simp at this); omega
  have hz1_2 : w.heap.size + 1 + 1 < w1.heap.size := by have := hb1.size; (try simp at this); omega
  obtain ⟨hc, hf⟩ := bcell hb1
  have c1_0_0 : w1.cell? ⟨w.heap.size, 0, none⟩ = some (.int .i64 x) := (hc _ _ (by (try simp) <;> omega)).trans (by go_simp)
  have c1_0_1 : w1.cell? ⟨w.heap.size, 1, none⟩ = some (.int .i64 y) := (hc _ _ (by (try simp) <;> omega)).trans (by go_simp)
  have c1_0_2 : w1.cell? ⟨w.heap.size, 2, none⟩ = some (.int .i64 z) := (hc _ _ (by (try simp) <;> omega)).trans (by go_simp)
  have z1_0 : ∀ j, w1.frozen? ⟨w.heap.size, j, none⟩ = false := fun j => (hf _ _ (by (try simp) <;> omega)).trans (by go_simp)
  have c1_1_0 : w1.cell? ⟨w.heap.size + 1, 0, none⟩ = some (.int .i64 0) := (hc _ _ (by (try simp) <;> omega)).trans (by go_simp)
  have c1_1_1 : w1.cell? ⟨w.heap.size + 1, 1, none⟩ = some (.int .i64 0) := (hc _ _ (by (try simp) <;> omega)).trans (by go_simp)
  have c1_1_2 : w1.cell? ⟨w.heap.size + 1, 2, none⟩ = some (.int .i64 0) := (hc _ _ (by (try simp) <;> omega)).trans (by go_simp)
  have z1_1 : ∀ j, w1.frozen? ⟨w.heap.size + 1, j, none⟩ = false := fun j => (hf _ _ (by (try simp) <;> omega)).trans (by go_simp)
  have c1_2_0 : w1.cell? ⟨w.heap.size + 1 + 1, 0, none⟩ = some (.int .i64 0) := (hc _ _ (by (try simp) <;> omega)).trans (by go_simp)
  have c1_2_1 : w1.cell? ⟨w.heap.size + 1 + 1, 1, none⟩ = some (.int .i64 0) := (hc _ _ (by (try simp) <;> omega)).trans (by go_simp)
  have c1_2_2 : w1.cell? ⟨w.heap.size + 1 + 1, 2, none⟩ = some (.int .i64 0) := (hc _ _ (by (try simp) <;> omega)).trans (by go_simp)
  have z1_2 : ∀ j, w1.frozen? ⟨w.heap.size + 1 + 1, j, none⟩ = false := fun j => (hf _ _ (by (try simp) <;> omega)).trans (by go_simp)
  clear hc hf hb1
  go_wp2_with fail
  refine (within_any 1000 [t] _ _ (by simp) ?_).mono ?_
  · intro k h
    obtain rfl : k = 0 := by simp at h; omega
    first | (simp; done) | (simp; go_simp; done) | (go_simp; done)
  rw [HT.out]
  rintro e w2 ⟨rfl, rfl⟩
  go_wp2_with fail
  refine (HQ.out _).mono ?_
  rintro e w2 ⟨rfl, hb2⟩
  have HB2 : Kp (Below w.heap.size w w2) := ⟨Below.trans (by repeat (first | refine Below.alloc ?_ (by have := HB1.out.size; (try simp) <;> omega) _ | refine bDrewN ?_ _ | refine Below.drew ?_ | exact HB1.out)) (hb2.mono (by have := HB1.out.size; (try simp) <;> omega))⟩
  have hz2_0 : w.heap.size < w2.heap.size := by have := hb2.size; (try simp at this); omega
  have hz2_1 : w.heap.size + 1 < w2.heap.size := by have := hb2.size; (try simp at this); omega
  have hz2_2 : w.heap.size + 1 + 1 < w2.heap.size := by have := hb2.size; (try simp at this); omega
  obtain ⟨hc, hf⟩ := bcell hb2
  have c2_0_0 : w2.cell? ⟨w.heap.size, 0, none⟩ = some (.int .i64 x) := (hc _ _ (by (try simp) <;> omega)).trans (by go_simp)
  have c2_0_1 : w2.cell? ⟨w.heap.size, 1, none⟩ = some (.int .i64 y) := (hc _ _ (by (try simp) <;> omega)).trans (by go_simp)
  have c2_0_2 : w2.cell? ⟨w.heap.size, 2, none⟩ = some (.int .i64 z) := (hc _ _ (by (try simp) <;> omega)).trans (by go_simp)
  have z2_0 : ∀ j, w2.frozen? ⟨w.heap.size, j, none⟩ = false := fun j => (hf _ _ (by (try simp) <;> omega)).trans (by go_simp)
  have c2_1_0 : w2.cell? ⟨w.heap.size + 1, 0, none⟩ = some (.int .i64 0) := (hc _ _ (by (try simp) <;> omega)).trans (by go_simp)
  have c2_1_1 : w2.cell? ⟨w.heap.size + 1, 1, none⟩ = some (.int .i64 0) := (hc _ _ (by (try simp) <;> omega)).trans (by go_simp)
  have c2_1_2 : w2.cell? ⟨w.heap.size + 1, 2, none⟩ = some (.int .i64 0) := (hc _ _ (by (try simp) <;> omega)).trans (by go_simp)
  have z2_1 : ∀ j, w2.frozen? ⟨w.heap.size + 1, j, none⟩ = false := fun j => (hf _ _ (by (try simp) <;> omega)).trans (by go_simp)
  have c2_2_0 : w2.cell? ⟨w.heap.size + 1 + 1, 0, none⟩ = some (.int .i64 0) := (hc _ _ (by (try simp) <;> omega)).trans (by go_simp)
  have c2_2_1 : w2.cell? ⟨w.heap.size + 1 + 1, 1, none⟩ = some (.int .i64 0) := (hc _ _ (by (try simp) <;> omega)).trans (by go_simp)
  have c2_2_2 : w2.cell? ⟨w.heap.size + 1 + 1, 2, none⟩ = some (.int .i64 0) := (hc _ _ (by (try simp) <;> omega)).trans (by go_simp)
  have z2_2 : ∀ j, w2.frozen? ⟨w.heap.size + 1 + 1, j, none⟩ = false := fun j => (hf _ _ (by (try simp) <;> omega)).trans (by go_simp)
  clear hc hf hb2
  go_wp2
  go_region
  all_goals
    go_wp2
    refine bodyPost_ret (v := .tuple #[.agg #[.int .i64 p, .int .i64 q, .int .i64 s], .agg #[.int .i64 p', .int .i64 q', .int .i64 s'], .int .i64 0]) ?_ rfl (splPost_of HE.out.1 HV.out.1 HV.out.2 rfl ?_)
    · simp (maxDischargeDepth := 9) [results, Try.results52, go_sem, c2_1_0, c2_1_1, c2_1_2, c2_2_0, c2_2_1, c2_2_2]
    · (have hzS := HB2.out.size; (repeat (with_reducible first | exact HB2.out | refine Below.setCell ?_ ?_ _ | refine Below.alloc ?_ ?_ _ | refine Below.drew ?_ | refine bDrewN ?_ _)); all_goals ((try simp) <;> omega))
theorem Split_any (x y z t : Int) (w : World) : Calls Try.prog 52 #[.agg #[.int .i64 x, .int .i64 y, .int .i64 z], .int .i64 t] w (SplPost ⟨x, y, z⟩ t w) := by
  cases ha : bathB ⟨x, y, z⟩ with
  | false => exact Split_inv x y z t w ha
  | true =>
    cases ht : rngB 1000 t with
    | false => exact Split_rng x y z t w ha ht
    | true => exact Split_ok x y z t w ha ht
end Go.Proofs.Ytakldbpfdoeimaa.Bt
