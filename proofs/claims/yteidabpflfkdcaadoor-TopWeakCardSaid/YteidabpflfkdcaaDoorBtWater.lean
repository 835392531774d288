/-
  WALKS (layer 3, baths): Water, by the program.
-/
import Derived.Test.YteidabpflfkdcaaDoorBtHourB
namespace Go.Proofs.YteidabpflfkdcaaDoor.Bt
open Go Go.RowKit

theorem rng2 {n d : Int} : allB 1000000 [n, d] = true ↔ (0 ≤ n ∧ n ≤ 1000000) ∧ 0 ≤ d ∧ d ≤ 1000000 := by
  rw [allB2, Bool.and_eq_true, rng_iff, rng_iff]
/-- The two terms of a fraction are in their ranges. -/
def fracB (n d : Int) : Bool := allB 1000000 [n, d] && !(d == 0)
theorem frac_iff {n d : Int} : fracB n d = true ↔ (0 ≤ n ∧ n ≤ 1000000) ∧ 1 ≤ d ∧ d ≤ 1000000 := by
  unfold fracB
  rw [Bool.and_eq_true, rng2]
  simp
  omega
theorem ret_int2e {a b a' b' : Int} (h : a = a') (h' : b = b') : Ending.returned (.tuple #[.int .i64 a, .int .i64 b]) = .returned (.tuple #[.int .i64 a', .int .i64 b']) := by rw [h, h']
/-- The answer: the amount, the error. -/
def watA (W S A n d : Int) : Int := if bathB ⟨W, S, A⟩ && fracB n d && !short A n d then watR W A n d else 0
def watE (W S A n d : Int) : Int := if bathB ⟨W, S, A⟩ then if fracB n d then if short A n d then 8 else 0 else 7 else 1
def WatPost (W S A n d : Int) (w : World) (e : Ending) (w' : World) : Prop :=
  e = .returned (.tuple #[.int .i64 (watA W S A n d), .int .i64 (watE W S A n d)]) ∧ Below w.heap.size w w'
theorem watPost_inv {W S A n d : Int} {w w' : World} {e : Ending} (h : bathB ⟨W, S, A⟩ = false) (he : e = .returned (.tuple #[.int .i64 0, .int .i64 1])) (hb : Below w.heap.size w w') : WatPost W S A n d w e w' :=
  ⟨by rw [he]; simp [watA, watE, h], hb⟩
theorem watPost_rng {W S A n d : Int} {w w' : World} {e : Ending} (h : bathB ⟨W, S, A⟩ = true) (h2 : fracB n d = false) (he : e = .returned (.tuple #[.int .i64 0, .int .i64 7])) (hb : Below w.heap.size w w') : WatPost W S A n d w e w' :=
  ⟨by rw [he]; simp [watA, watE, h, h2], hb⟩
theorem watPost_short {W S A n d : Int} {w w' : World} {e : Ending} (h : bathB ⟨W, S, A⟩ = true) (h2 : fracB n d = true) (h3 : short A n d = true) (he : e = .returned (.tuple #[.int .i64 0, .int .i64 8])) (hb : Below w.heap.size w w') : WatPost W S A n d w e w' :=
  ⟨by rw [he]; simp [watA, watE, h, h2, h3], hb⟩
theorem watPost_ok {W S A n d x : Int} {w w' : World} {e : Ending} (h : bathB ⟨W, S, A⟩ = true) (h2 : fracB n d = true) (h3 : short A n d = false) (hx : x = watR W A n d) (he : e = .returned (.tuple #[.int .i64 x, .int .i64 0])) (hb : Below w.heap.size w w') : WatPost W S A n d w e w' :=
  ⟨by rw [he, hx]; simp [watA, watE, h, h2, h3], hb⟩

theorem Water_inv (W S A n d : Int) (w : World) (h : bathB ⟨W, S, A⟩ = false) :
    Calls Tryd.prog 12 #[.agg #[.int .i64 W, .int .i64 S, .int .i64 A], .int .i64 n, .int .i64 d] w (WatPost W S A n d w) := by
  have HV : Kp (bathB ⟨W, S, A⟩ = false) := ⟨h⟩
  clear h
  go_enter Tryd.func12, Tryd.ntmps12
  go_wp2_with fail
  refine (ValidBath_no _ _ _ _ HV.out).mono ?_
  rintro e w1 ⟨rfl, hb1⟩
  have HB1 : Kp (Below w.heap.size w w1) := ⟨Below.trans (by repeat (first | exact Below.refl _ _ | refine Below.alloc ?_ (by simp <;> omega) _ | refine bDrewN ?_ _ | refine Below.drew ?_)) (hb1.mono (by simp <;> omega))⟩
  have hz1 : w.heap.size < w1.heap.size := by have := hb1.size; simp at this; omega
  obtain ⟨hc, hf⟩ := bcell hb1
  have c1_0_0 : w1.cell? ⟨w.heap.size, 0, none⟩ = some (.int .i64 W) := (hc _ _ (by simp <;> omega)).trans (by go_simp)
  have c1_0_1 : w1.cell? ⟨w.heap.size, 1, none⟩ = some (.int .i64 S) := (hc _ _ (by simp <;> omega)).trans (by go_simp)
  have c1_0_2 : w1.cell? ⟨w.heap.size, 2, none⟩ = some (.int .i64 A) := (hc _ _ (by simp <;> omega)).trans (by go_simp)
  have z1_0 : ∀ j, w1.frozen? ⟨w.heap.size, j, none⟩ = false := fun j => (hf _ _ (by simp <;> omega)).trans (by go_simp)
  clear hc hf hb1
  go_wp2
  go_ret2
  exact watPost_inv HV.out rfl HB1.out
theorem Water_rng1 (W S A n d : Int) (w : World) (h : bathB ⟨W, S, A⟩ = true) (g : allB 1000000 [n, d] = false) :
    Calls Tryd.prog 12 #[.agg #[.int .i64 W, .int .i64 S, .int .i64 A], .int .i64 n, .int .i64 d] w (WatPost W S A n d w) := by
  have HV : Kp (bathB ⟨W, S, A⟩ = true) := ⟨h⟩
  have HR : Kp (allB 1000000 [n, d] = false) := ⟨g⟩
  have HF : Kp (fracB n d = false) := ⟨by unfold fracB; rw [g]; rfl⟩
  clear h g
  go_enter Tryd.func12, Tryd.ntmps12
  go_wp2_with fail
  refine (ValidBath_yes _ _ _ _ HV.out).mono ?_
  rintro e w1 ⟨rfl, hb1⟩
  have HB1 : Kp (Below w.heap.size w w1) := ⟨Below.trans (by repeat (first | exact Below.refl _ _ | refine Below.alloc ?_ (by simp <;> omega) _ | refine bDrewN ?_ _ | refine Below.drew ?_)) (hb1.mono (by simp <;> omega))⟩
  have hz1 : w.heap.size < w1.heap.size := by have := hb1.size; simp at this; omega
  obtain ⟨hc, hf⟩ := bcell hb1
  have c1_0_0 : w1.cell? ⟨w.heap.size, 0, none⟩ = some (.int .i64 W) := (hc _ _ (by simp <;> omega)).trans (by go_simp)
  have c1_0_1 : w1.cell? ⟨w.heap.size, 1, none⟩ = some (.int .i64 S) := (hc _ _ (by simp <;> omega)).trans (by go_simp)
  have c1_0_2 : w1.cell? ⟨w.heap.size, 2, none⟩ = some (.int .i64 A) := (hc _ _ (by simp <;> omega)).trans (by go_simp)
  have z1_0 : ∀ j, w1.frozen? ⟨w.heap.size, j, none⟩ = false := fun j => (hf _ _ (by simp <;> omega)).trans (by go_simp)
  clear hc hf hb1
  go_wp2_with fail
  refine (within_any 1000000 [n, d] _ _ (by simp) ?_).mono ?_
  · intro k h
    have h' : k = 0 ∨ k = 1 := by simp at h; omega
    rcases h' with rfl | rfl <;> first | (simp; done) | (simp; go_simp; done) | (go_simp; done)
  rw [HR.out]
  rintro e w2 ⟨rfl, rfl⟩
  go_wp2
  go_ret2
  exact watPost_rng HV.out HF.out rfl (HB1.out.alloc HB1.out.size _)
theorem Water_rng2 (W S A n : Int) (w : World) (h : bathB ⟨W, S, A⟩ = true) (g : allB 1000000 [n, 0] = true) :
    Calls Tryd.prog 12 #[.agg #[.int .i64 W, .int .i64 S, .int .i64 A], .int .i64 n, .int .i64 0] w (WatPost W S A n 0 w) := by
  have HV : Kp (bathB ⟨W, S, A⟩ = true) := ⟨h⟩
  have HR : Kp (allB 1000000 [n, 0] = true) := ⟨g⟩
  have HF : Kp (fracB n 0 = false) := ⟨by unfold fracB; rw [g]; rfl⟩
  clear h g
  go_enter Tryd.func12, Tryd.ntmps12
  go_wp2_with fail
  refine (ValidBath_yes _ _ _ _ HV.out).mono ?_
  rintro e w1 ⟨rfl, hb1⟩
  have HB1 : Kp (Below w.heap.size w w1) := ⟨Below.trans (by repeat (first | exact Below.refl _ _ | refine Below.alloc ?_ (by simp <;> omega) _ | refine bDrewN ?_ _ | refine Below.drew ?_)) (hb1.mono (by simp <;> omega))⟩
  have hz1 : w.heap.size < w1.heap.size := by have := hb1.size; simp at this; omega
  obtain ⟨hc, hf⟩ := bcell hb1
  have c1_0_0 : w1.cell? ⟨w.heap.size, 0, none⟩ = some (.int .i64 W) := (hc _ _ (by simp <;> omega)).trans (by go_simp)
  have c1_0_1 : w1.cell? ⟨w.heap.size, 1, none⟩ = some (.int .i64 S) := (hc _ _ (by simp <;> omega)).trans (by go_simp)
  have c1_0_2 : w1.cell? ⟨w.heap.size, 2, none⟩ = some (.int .i64 A) := (hc _ _ (by simp <;> omega)).trans (by go_simp)
  have z1_0 : ∀ j, w1.frozen? ⟨w.heap.size, j, none⟩ = false := fun j => (hf _ _ (by simp <;> omega)).trans (by go_simp)
  clear hc hf hb1
  go_wp2_with fail
  refine (within_any 1000000 [n, 0] _ _ (by simp) ?_).mono ?_
  · intro k h
    have h' : k = 0 ∨ k = 1 := by simp at h; omega
    rcases h' with rfl | rfl <;> first | (simp; done) | (simp; go_simp; done) | (go_simp; done)
  rw [HR.out]
  rintro e w2 ⟨rfl, rfl⟩
  go_wp2
  go_ret2
  exact watPost_rng HV.out HF.out rfl (HB1.out.alloc HB1.out.size _)
theorem Water_in (W S A n d : Int) (w : World) (h : bathB ⟨W, S, A⟩ = true) (g : fracB n d = true) :
    Calls Tryd.prog 12 #[.agg #[.int .i64 W, .int .i64 S, .int .i64 A], .int .i64 n, .int .i64 d] w (WatPost W S A n d w) := by
  have HV : Kp (bathB ⟨W, S, A⟩ = true) := ⟨h⟩
  have HF : Kp (fracB n d = true) := ⟨g⟩
  obtain ⟨⟨n0, n1⟩, d0, d1⟩ := frac_iff.1 g
  obtain ⟨⟨w0, w1'⟩, -, a0, a1⟩ := bath_iff.1 h
  simp only at w0 w1' a0 a1
  have HR : Kp (allB 1000000 [n, d] = true) := ⟨rng2.2 ⟨⟨n0, n1⟩, by omega, d1⟩⟩
  have hd0 : (d == 0) = false := by rw [beq_eq_false_iff_ne]; omega
  obtain ⟨m0, m1⟩ := mul_bd (x := A) (y := d) a0 a1 (show 0 ≤ d by omega) d1
  have m2 : A * d ≤ 1000000000000000 := m1
  clear h g m1
  by_cases hA : 0 < A
  · by_cases hn : n = 0
    · have hn2 : (n == 0) = true := by rw [hn]; rfl
      have HS : Kp (short A n d = true) := ⟨by have := Int.mul_pos hA (show 0 < d by omega); unfold short; rw [hn]; exact decide_eq_true (by omega)⟩
      clear hn
      go_enter Tryd.func12, Tryd.ntmps12
      go_wp2_with fail
      refine (ValidBath_yes _ _ _ _ HV.out).mono ?_
      rintro e w1 ⟨rfl, hb1⟩
      have HB1 : Kp (Below w.heap.size w w1) := ⟨Below.trans (by repeat (first | exact Below.refl _ _ | refine Below.alloc ?_ (by simp <;> omega) _ | refine bDrewN ?_ _ | refine Below.drew ?_)) (hb1.mono (by simp <;> omega))⟩
      have hz1 : w.heap.size < w1.heap.size := by have := hb1.size; simp at this; omega
      obtain ⟨hc, hf⟩ := bcell hb1
      have c1_0_0 : w1.cell? ⟨w.heap.size, 0, none⟩ = some (.int .i64 W) := (hc _ _ (by simp <;> omega)).trans (by go_simp)
      have c1_0_1 : w1.cell? ⟨w.heap.size, 1, none⟩ = some (.int .i64 S) := (hc _ _ (by simp <;> omega)).trans (by go_simp)
      have c1_0_2 : w1.cell? ⟨w.heap.size, 2, none⟩ = some (.int .i64 A) := (hc _ _ (by simp <;> omega)).trans (by go_simp)
      have z1_0 : ∀ j, w1.frozen? ⟨w.heap.size, j, none⟩ = false := fun j => (hf _ _ (by simp <;> omega)).trans (by go_simp)
      clear hc hf hb1
      go_wp2_with fail
      refine (within_any 1000000 [n, d] _ _ (by simp) ?_).mono ?_
      · intro k h
        have h' : k = 0 ∨ k = 1 := by simp at h; omega
        rcases h' with rfl | rfl <;> first | (simp; done) | (simp; go_simp; done) | (go_simp; done)
      rw [HR.out]
      rintro e w2 ⟨rfl, rfl⟩
      go_wp2
      go_ret2
      exact watPost_short HV.out HF.out HS.out rfl (HB1.out.alloc HB1.out.size _)
    · have hn2 : (n == 0) = false := by rw [beq_eq_false_iff_ne]; exact hn
      have hn3 : 0 < n := by omega
      have HN : Kp (need A n d = (A * d + n - 1) / n) := ⟨if_pos hA⟩
      have p0 : 0 ≤ A * d + n - 1 := by omega
      have p1 : A * d + n ≤ 2000000000000000 := by omega
      by_cases hg : 1000000000 < (A * d + n - 1) / n
      · have HS : Kp (short A n d = true) := ⟨by
          cases hs : short A n d with
          | true => rfl
          | false => have := (short_no n0 a0 d0 hs).2; have := HN.out; omega⟩
        go_enter Tryd.func12, Tryd.ntmps12
        go_wp2_with fail
        refine (ValidBath_yes _ _ _ _ HV.out).mono ?_
        rintro e w1 ⟨rfl, hb1⟩
        have HB1 : Kp (Below w.heap.size w w1) := ⟨Below.trans (by repeat (first | exact Below.refl _ _ | refine Below.alloc ?_ (by simp <;> omega) _ | refine bDrewN ?_ _ | refine Below.drew ?_)) (hb1.mono (by simp <;> omega))⟩
        have hz1 : w.heap.size < w1.heap.size := by have := hb1.size; simp at this; omega
        obtain ⟨hc, hf⟩ := bcell hb1
        have c1_0_0 : w1.cell? ⟨w.heap.size, 0, none⟩ = some (.int .i64 W) := (hc _ _ (by simp <;> omega)).trans (by go_simp)
        have c1_0_1 : w1.cell? ⟨w.heap.size, 1, none⟩ = some (.int .i64 S) := (hc _ _ (by simp <;> omega)).trans (by go_simp)
        have c1_0_2 : w1.cell? ⟨w.heap.size, 2, none⟩ = some (.int .i64 A) := (hc _ _ (by simp <;> omega)).trans (by go_simp)
        have z1_0 : ∀ j, w1.frozen? ⟨w.heap.size, j, none⟩ = false := fun j => (hf _ _ (by simp <;> omega)).trans (by go_simp)
        clear hc hf hb1
        go_wp2_with fail
        refine (within_any 1000000 [n, d] _ _ (by simp) ?_).mono ?_
        · intro k h
          have h' : k = 0 ∨ k = 1 := by simp at h; omega
          rcases h' with rfl | rfl <;> first | (simp; done) | (simp; go_simp; done) | (go_simp; done)
        rw [HR.out]
        rintro e w2 ⟨rfl, rfl⟩
        go_wp2
        go_ret2
        exact watPost_short HV.out HF.out HS.out rfl (HB1.out.alloc HB1.out.size _)
      · have HS : Kp (short A n d = false) := ⟨by
          cases hs : short A n d with
          | false => rfl
          | true => have := (short_yes n0 a0 hs).2 hn3; have := HN.out; omega⟩
        have q0 : 0 ≤ (A * d + n - 1) / n := Int.ediv_nonneg p0 (by omega)
        obtain ⟨k, hk⟩ : ∃ k, (A * d + n - 1) / n = k := ⟨_, rfl⟩
        rw [hk] at HN hg q0
        have q1 : k ≤ 1000000000 := by omega
        go_enter Tryd.func12, Tryd.ntmps12
        go_wp2_with fail
        refine (ValidBath_yes _ _ _ _ HV.out).mono ?_
        rintro e w1 ⟨rfl, hb1⟩
        have HB1 : Kp (Below w.heap.size w w1) := ⟨Below.trans (by repeat (first | exact Below.refl _ _ | refine Below.alloc ?_ (by simp <;> omega) _ | refine bDrewN ?_ _ | refine Below.drew ?_)) (hb1.mono (by simp <;> omega))⟩
        have hz1 : w.heap.size < w1.heap.size := by have := hb1.size; simp at this; omega
        obtain ⟨hc, hf⟩ := bcell hb1
        have c1_0_0 : w1.cell? ⟨w.heap.size, 0, none⟩ = some (.int .i64 W) := (hc _ _ (by simp <;> omega)).trans (by go_simp)
        have c1_0_1 : w1.cell? ⟨w.heap.size, 1, none⟩ = some (.int .i64 S) := (hc _ _ (by simp <;> omega)).trans (by go_simp)
        have c1_0_2 : w1.cell? ⟨w.heap.size, 2, none⟩ = some (.int .i64 A) := (hc _ _ (by simp <;> omega)).trans (by go_simp)
        have z1_0 : ∀ j, w1.frozen? ⟨w.heap.size, j, none⟩ = false := fun j => (hf _ _ (by simp <;> omega)).trans (by go_simp)
        clear hc hf hb1
        go_wp2_with fail
        refine (within_any 1000000 [n, d] _ _ (by simp) ?_).mono ?_
        · intro k h
          have h' : k = 0 ∨ k = 1 := by simp at h; omega
          rcases h' with rfl | rfl <;> first | (simp; done) | (simp; go_simp; done) | (go_simp; done)
        rw [HR.out]
        rintro e w2 ⟨rfl, rfl⟩
        go_wp2
        all_goals
          go_ret2
          exact watPost_ok HV.out HF.out HS.out (by unfold watR; rw [HN.out]; split <;> omega) rfl (HB1.out.alloc HB1.out.size _)
  · obtain rfl : A = 0 := by omega
    have HN : Kp (need 0 n d = 1) := ⟨rfl⟩
    have HS : Kp (short 0 n d = false) := ⟨by unfold short; exact decide_eq_false (by omega)⟩
    clear hA a0 a1 m0 m2
    go_enter Tryd.func12, Tryd.ntmps12
    go_wp2_with fail
    refine (ValidBath_yes _ _ _ _ HV.out).mono ?_
    rintro e w1 ⟨rfl, hb1⟩
    have HB1 : Kp (Below w.heap.size w w1) := ⟨Below.trans (by repeat (first | exact Below.refl _ _ | refine Below.alloc ?_ (by simp <;> omega) _ | refine bDrewN ?_ _ | refine Below.drew ?_)) (hb1.mono (by simp <;> omega))⟩
    have hz1 : w.heap.size < w1.heap.size := by have := hb1.size; simp at this; omega
    obtain ⟨hc, hf⟩ := bcell hb1
    have c1_0_0 : w1.cell? ⟨w.heap.size, 0, none⟩ = some (.int .i64 W) := (hc _ _ (by simp <;> omega)).trans (by go_simp)
    have c1_0_1 : w1.cell? ⟨w.heap.size, 1, none⟩ = some (.int .i64 S) := (hc _ _ (by simp <;> omega)).trans (by go_simp)
    have c1_0_2 : w1.cell? ⟨w.heap.size, 2, none⟩ = some (.int .i64 0) := (hc _ _ (by simp <;> omega)).trans (by go_simp)
    have z1_0 : ∀ j, w1.frozen? ⟨w.heap.size, j, none⟩ = false := fun j => (hf _ _ (by simp <;> omega)).trans (by go_simp)
    clear hc hf hb1
    go_wp2_with fail
    refine (within_any 1000000 [n, d] _ _ (by simp) ?_).mono ?_
    · intro k h
      have h' : k = 0 ∨ k = 1 := by simp at h; omega
      rcases h' with rfl | rfl <;> first | (simp; done) | (simp; go_simp; done) | (go_simp; done)
    rw [HR.out]
    rintro e w2 ⟨rfl, rfl⟩
    go_wp2
    all_goals
      go_ret2
      exact watPost_ok HV.out HF.out HS.out (by unfold watR; rw [HN.out]; split <;> omega) rfl (HB1.out.alloc HB1.out.size _)
theorem Water_any (W S A n d : Int) (w : World) :
    Calls Tryd.prog 12 #[.agg #[.int .i64 W, .int .i64 S, .int .i64 A], .int .i64 n, .int .i64 d] w (WatPost W S A n d w) := by
  cases h : bathB ⟨W, S, A⟩ with
  | false => exact Water_inv W S A n d w h
  | true =>
    cases g : allB 1000000 [n, d] with
    | false => exact Water_rng1 W S A n d w h g
    | true =>
      by_cases hd : d = 0
      · subst hd
        exact Water_rng2 W S A n w h g
      · exact Water_in W S A n d w h (by unfold fracB; rw [g]; simpa using hd)
end Go.Proofs.YteidabpflfkdcaaDoor.Bt
