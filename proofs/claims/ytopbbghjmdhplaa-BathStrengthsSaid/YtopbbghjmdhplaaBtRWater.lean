/-
  WALKS (layer 3, baths), of the reference: Water.
-/
import Derived.Test.YtopbbghjmdhplaaBtWater
import Derived.Test.YtopbbghjmdhplaaBtRefA
import Derived.LoopTactic
namespace Go.Proofs.Ytopbbghjmdhplaa.Bt
open Go Go.RowKit

theorem rWater_inv (W S A n d : Int) (w : World) (h : bathB ⟨W, S, A⟩ = false) :
    Calls Try.prog 49 #[.agg #[.int .i64 W, .int .i64 S, .int .i64 A], .int .i64 n, .int .i64 d] w (WatPost W S A n d w) := by
  have HV : Kp (bathB ⟨W, S, A⟩ = false) := ⟨h⟩
  clear h
  go_enter Try.func49, Try.ntmps49
  go_wp2_with fail
  refine (rValidBath_no _ _ _ _ HV.out).mono ?_
  rintro e w1 ⟨rfl, hb1⟩
  have HB1 : Kp (Below w.heap.size w w1) := ⟨Below.trans (by repeat (first | exact Below.refl _ _ | refine Below.alloc ?_ (by simp <;> omega) _ | refine bDrewN ?_ _ | refine Below.drew ?_)) (hb1.mono (by simp <;> omega))⟩
  have hz1 : w.heap.size < w1.heap.size := by have := hb1.size; simp at this; omega
  obtain ⟨hc, hf⟩ := bcell hb1
  have c1_0_0 : w1.cell? ⟨w.heap.size, 0, none⟩ = some (.int .i64 W) := (hc _ _ (by simp <;> omega)).trans (by go_simp)
  have c1_0_1 : w1.cell? ⟨w.heap.size, 1, none⟩ = some (.int .i64 S) := (hc _ _ (by simp <;> omega)).trans (by go_simp)
  have c1_0_2 : w1.cell? ⟨w.heap.size, 2, none⟩ = some (.int .i64 A) := (hc _ _ (by simp <;> omega)).trans (by go_simp)
  have z1_0 : ∀ j, w1.frozen? ⟨w.heap.size, j, none⟩ = false := fun j => (hf _ _ (by simp <;> omega)).trans (by go_simp)
  clear hc hf hb1
  go_wp2
  go_ret2
  exact watPost_inv HV.out rfl HB1.out
theorem rWater_rng1 (W S A n d : Int) (w : World) (h : bathB ⟨W, S, A⟩ = true) (g : n < 0 ∨ 1000000 < n) :
    Calls Try.prog 49 #[.agg #[.int .i64 W, .int .i64 S, .int .i64 A], .int .i64 n, .int .i64 d] w (WatPost W S A n d w) := by
  have HV : Kp (bathB ⟨W, S, A⟩ = true) := ⟨h⟩
  have HR : Kp (n < 0 ∨ 1000000 < n) := ⟨g⟩
  have HF : Kp (fracB n d = false) := ⟨by rw [← Bool.not_eq_true, frac_iff]; omega⟩
  clear h g
  go_enter Try.func49, Try.ntmps49
  go_wp2_with fail
  refine (rValidBath_yes _ _ _ _ HV.out).mono ?_
  rintro e w1 ⟨rfl, hb1⟩
  have HB1 : Kp (Below w.heap.size w w1) := ⟨Below.trans (by repeat (first | exact Below.refl _ _ | refine Below.alloc ?_ (by simp <;> omega) _ | refine bDrewN ?_ _ | refine Below.drew ?_)) (hb1.mono (by simp <;> omega))⟩
  have hz1 : w.heap.size < w1.heap.size := by have := hb1.size; simp at this; omega
  obtain ⟨hc, hf⟩ := bcell hb1
  have c1_0_0 : w1.cell? ⟨w.heap.size, 0, none⟩ = some (.int .i64 W) := (hc _ _ (by simp <;> omega)).trans (by go_simp)
  have c1_0_1 : w1.cell? ⟨w.heap.size, 1, none⟩ = some (.int .i64 S) := (hc _ _ (by simp <;> omega)).trans (by go_simp)
  have c1_0_2 : w1.cell? ⟨w.heap.size, 2, none⟩ = some (.int .i64 A) := (hc _ _ (by simp <;> omega)).trans (by go_simp)
  have z1_0 : ∀ j, w1.frozen? ⟨w.heap.size, j, none⟩ = false := fun j => (hf _ _ (by simp <;> omega)).trans (by go_simp)
  clear hc hf hb1
  go_wp2_with fail
  refine (rwithin_no _ _ _ _ HR.out).mono ?_
  rintro e w2 ⟨rfl, rfl⟩
  go_wp2
  go_ret2
  exact watPost_rng HV.out HF.out rfl HB1.out
theorem rWater_rng2 (W S A n d : Int) (w : World) (h : bathB ⟨W, S, A⟩ = true) (g : 0 ≤ n ∧ n ≤ 1000000) (k : d < 1 ∨ 1000000 < d) :
    Calls Try.prog 49 #[.agg #[.int .i64 W, .int .i64 S, .int .i64 A], .int .i64 n, .int .i64 d] w (WatPost W S A n d w) := by
  have HV : Kp (bathB ⟨W, S, A⟩ = true) := ⟨h⟩
  have HR : Kp (0 ≤ n ∧ n ≤ 1000000) := ⟨g⟩
  have HR2 : Kp (d < 1 ∨ 1000000 < d) := ⟨k⟩
  have HF : Kp (fracB n d = false) := ⟨by rw [← Bool.not_eq_true, frac_iff]; omega⟩
  clear h g k
  go_enter Try.func49, Try.ntmps49
  go_wp2_with fail
  refine (rValidBath_yes _ _ _ _ HV.out).mono ?_
  rintro e w1 ⟨rfl, hb1⟩
  have HB1 : Kp (Below w.heap.size w w1) := ⟨Below.trans (by repeat (first | exact Below.refl _ _ | refine Below.alloc ?_ (by simp <;> omega) _ | refine bDrewN ?_ _ | refine Below.drew ?_)) (hb1.mono (by simp <;> omega))⟩
  have hz1 : w.heap.size < w1.heap.size := by have := hb1.size; simp at this; omega
  obtain ⟨hc, hf⟩ := bcell hb1
  have c1_0_0 : w1.cell? ⟨w.heap.size, 0, none⟩ = some (.int .i64 W) := (hc _ _ (by simp <;> omega)).trans (by go_simp)
  have c1_0_1 : w1.cell? ⟨w.heap.size, 1, none⟩ = some (.int .i64 S) := (hc _ _ (by simp <;> omega)).trans (by go_simp)
  have c1_0_2 : w1.cell? ⟨w.heap.size, 2, none⟩ = some (.int .i64 A) := (hc _ _ (by simp <;> omega)).trans (by go_simp)
  have z1_0 : ∀ j, w1.frozen? ⟨w.heap.size, j, none⟩ = false := fun j => (hf _ _ (by simp <;> omega)).trans (by go_simp)
  clear hc hf hb1
  go_wp2_with fail
  refine (rwithin_yes _ _ _ _ HR.out.1 HR.out.2).mono ?_
  rintro e w2 ⟨rfl, rfl⟩
  go_wp2_with fail
  refine (rwithin_no _ _ _ _ HR2.out).mono ?_
  rintro e w2 ⟨rfl, rfl⟩
  go_wp2
  go_ret2
  exact watPost_rng HV.out HF.out rfl HB1.out
theorem rWater_in (W S A n d : Int) (w : World) (h : bathB ⟨W, S, A⟩ = true) (g : fracB n d = true) :
    Calls Try.prog 49 #[.agg #[.int .i64 W, .int .i64 S, .int .i64 A], .int .i64 n, .int .i64 d] w (WatPost W S A n d w) := by
  have HV : Kp (bathB ⟨W, S, A⟩ = true) := ⟨h⟩
  have HF : Kp (fracB n d = true) := ⟨g⟩
  obtain ⟨⟨n0, n1⟩, d0, d1⟩ := frac_iff.1 g
  obtain ⟨⟨w0, w1'⟩, -, a0, a1⟩ := bath_iff.1 h
  simp only at w0 w1' a0 a1
  have HR : Kp ((0 ≤ n ∧ n ≤ 1000000) ∧ 1 ≤ d ∧ d ≤ 1000000) := ⟨⟨⟨n0, n1⟩, d0, d1⟩⟩
  obtain ⟨m0, m1⟩ := mul_bd (x := A) (y := d) a0 a1 (show 0 ≤ d by omega) d1
  have m2 : A * d ≤ 1000000000000000 := m1
  clear h g m1
  by_cases hs : n * 1000000000 < A * d
  · have HS : Kp (short A n d = true) := ⟨decide_eq_true hs⟩
    go_enter Try.func49, Try.ntmps49
    go_wp2_with fail
    refine (rValidBath_yes _ _ _ _ HV.out).mono ?_
    rintro e w1 ⟨rfl, hb1⟩
    have HB1 : Kp (Below w.heap.size w w1) := ⟨Below.trans (by repeat (first | exact Below.refl _ _ | refine Below.alloc ?_ (by simp <;> omega) _ | refine bDrewN ?_ _ | refine Below.drew ?_)) (hb1.mono (by simp <;> omega))⟩
    have hz1 : w.heap.size < w1.heap.size := by have := hb1.size; simp at this; omega
    obtain ⟨hc, hf⟩ := bcell hb1
    have c1_0_0 : w1.cell? ⟨w.heap.size, 0, none⟩ = some (.int .i64 W) := (hc _ _ (by simp <;> omega)).trans (by go_simp)
    have c1_0_1 : w1.cell? ⟨w.heap.size, 1, none⟩ = some (.int .i64 S) := (hc _ _ (by simp <;> omega)).trans (by go_simp)
    have c1_0_2 : w1.cell? ⟨w.heap.size, 2, none⟩ = some (.int .i64 A) := (hc _ _ (by simp <;> omega)).trans (by go_simp)
    have z1_0 : ∀ j, w1.frozen? ⟨w.heap.size, j, none⟩ = false := fun j => (hf _ _ (by simp <;> omega)).trans (by go_simp)
    clear hc hf hb1
    go_wp2_with fail
    refine (rwithin_yes _ _ _ _ HR.out.1.1 HR.out.1.2).mono ?_
    rintro e w2 ⟨rfl, rfl⟩
    go_wp2_with fail
    refine (rwithin_yes _ _ _ _ HR.out.2.1 HR.out.2.2).mono ?_
    rintro e w2 ⟨rfl, rfl⟩
    go_wp2
    go_ret2
    exact watPost_short HV.out HF.out HS.out rfl HB1.out
  · have HS : Kp (short A n d = false) := ⟨decide_eq_false hs⟩
    have HS2 : Kp (A * d ≤ n * 1000000000) := ⟨by omega⟩
    have HN : Kp (0 < A → 0 < n) := ⟨(short_no n0 a0 d0 HS.out).1⟩
    by_cases hW : W = 0
    · subst hW
      go_enter Try.func49, Try.ntmps49
      go_wp2_with fail
      refine (rValidBath_yes _ _ _ _ HV.out).mono ?_
      rintro e w1 ⟨rfl, hb1⟩
      have HB1 : Kp (Below w.heap.size w w1) := ⟨Below.trans (by repeat (first | exact Below.refl _ _ | refine Below.alloc ?_ (by simp <;> omega) _ | refine bDrewN ?_ _ | refine Below.drew ?_)) (hb1.mono (by simp <;> omega))⟩
      have hz1 : w.heap.size < w1.heap.size := by have := hb1.size; simp at this; omega
      obtain ⟨hc, hf⟩ := bcell hb1
      have c1_0_0 : w1.cell? ⟨w.heap.size, 0, none⟩ = some (.int .i64 0) := (hc _ _ (by simp <;> omega)).trans (by go_simp)
      have c1_0_1 : w1.cell? ⟨w.heap.size, 1, none⟩ = some (.int .i64 S) := (hc _ _ (by simp <;> omega)).trans (by go_simp)
      have c1_0_2 : w1.cell? ⟨w.heap.size, 2, none⟩ = some (.int .i64 A) := (hc _ _ (by simp <;> omega)).trans (by go_simp)
      have z1_0 : ∀ j, w1.frozen? ⟨w.heap.size, j, none⟩ = false := fun j => (hf _ _ (by simp <;> omega)).trans (by go_simp)
      clear hc hf hb1
      go_wp2_with fail
      refine (rwithin_yes _ _ _ _ HR.out.1.1 HR.out.1.2).mono ?_
      rintro e w2 ⟨rfl, rfl⟩
      go_wp2_with fail
      refine (rwithin_yes _ _ _ _ HR.out.2.1 HR.out.2.2).mono ?_
      rintro e w2 ⟨rfl, rfl⟩
      go_wp2
      go_loop [8, 9] (fun a b => ∃ lo hi : Int, a = .int .i64 lo ∧ b = .int .i64 hi ∧ 0 ≤ lo ∧ lo < hi ∧ hi ≤ 1000000000 ∧ Kp (A * d ≤ n * hi) ∧ Kp (lo = 0 ∨ n * lo < A * d)) (fun a b => (intOf b - intOf a).toNat)
      case atStart => exact ⟨_, 1000000000, rfl, rfl, by omega, by omega, by omega, ⟨HS2.out⟩, ⟨.inl rfl⟩⟩
      case round =>
        obtain ⟨lo, hi, rfl, rfl, l0, l1, l2, HA, HB⟩ := hrel
        by_cases h1 : 1 < hi - lo
        · have hm0 : 0 ≤ lo + hi := by omega
          have hm1 : lo < (lo + hi) / 2 := by omega
          have hm2 : (lo + hi) / 2 < hi := by omega
          obtain ⟨m, hm⟩ : ∃ m, (lo + hi) / 2 = m := ⟨_, rfl⟩
          rw [hm] at hm1 hm2
          have HM : Kp ((lo + hi) / 2 = m) := ⟨hm⟩
          obtain ⟨p0, p1⟩ := mul_bd (x := n) (y := m) n0 n1 (show 0 ≤ m by omega) (show m ≤ 1000000000 by omega)
          have p2 : n * m ≤ 1000000000000000 := p1
          clear p1
          by_cases hc : A * d ≤ n * m
          · have HC : Kp (A * d ≤ n * m) := ⟨hc⟩
            go_wp2
            go_round
            case rel => exact ⟨lo, m, rfl, by rw [HM.out], l0, hm1, by omega, HC, HB⟩
            case measure => simp [intOf]; omega
          · have HC : Kp (n * m < A * d) := ⟨by omega⟩
            go_wp2
            go_round
            case rel => exact ⟨m, hi, by rw [HM.out], rfl, by omega, hm2, l2, HA, ⟨.inr HC.out⟩⟩
            case measure => simp [intOf]; omega
        · have HX : Kp (hi = watR 0 A n d) := ⟨(Int.sub_zero hi).symm.trans <| wat_search (W := 0) n0 a0 d0 HN.out HA.out (by omega) (by omega) (by
            have e : hi - 1 = lo := by omega
            rcases HB.out with h | h
            · left; omega
            · right; rw [e]; exact h) (by omega)⟩
          go_wp2
          go_ret2
          exact watPost_ok HV.out HF.out HS.out HX.out rfl HB1.out
    · have hW1 : 0 ≤ W - 1 := by omega
      go_enter Try.func49, Try.ntmps49
      go_wp2_with fail
      refine (rValidBath_yes _ _ _ _ HV.out).mono ?_
      rintro e w1 ⟨rfl, hb1⟩
      have HB1 : Kp (Below w.heap.size w w1) := ⟨Below.trans (by repeat (first | exact Below.refl _ _ | refine Below.alloc ?_ (by simp <;> omega) _ | refine bDrewN ?_ _ | refine Below.drew ?_)) (hb1.mono (by simp <;> omega))⟩
      have hz1 : w.heap.size < w1.heap.size := by have := hb1.size; simp at this; omega
      obtain ⟨hc, hf⟩ := bcell hb1
      have c1_0_0 : w1.cell? ⟨w.heap.size, 0, none⟩ = some (.int .i64 W) := (hc _ _ (by simp <;> omega)).trans (by go_simp)
      have c1_0_1 : w1.cell? ⟨w.heap.size, 1, none⟩ = some (.int .i64 S) := (hc _ _ (by simp <;> omega)).trans (by go_simp)
      have c1_0_2 : w1.cell? ⟨w.heap.size, 2, none⟩ = some (.int .i64 A) := (hc _ _ (by simp <;> omega)).trans (by go_simp)
      have z1_0 : ∀ j, w1.frozen? ⟨w.heap.size, j, none⟩ = false := fun j => (hf _ _ (by simp <;> omega)).trans (by go_simp)
      clear hc hf hb1
      go_wp2_with fail
      refine (rwithin_yes _ _ _ _ HR.out.1.1 HR.out.1.2).mono ?_
      rintro e w2 ⟨rfl, rfl⟩
      go_wp2_with fail
      refine (rwithin_yes _ _ _ _ HR.out.2.1 HR.out.2.2).mono ?_
      rintro e w2 ⟨rfl, rfl⟩
      go_wp2
      go_loop [8, 9] (fun a b => ∃ lo hi : Int, a = .int .i64 lo ∧ b = .int .i64 hi ∧ (W - 1) ≤ lo ∧ lo < hi ∧ hi ≤ 1000000000 ∧ Kp (A * d ≤ n * hi) ∧ Kp (lo = (W - 1) ∨ n * lo < A * d)) (fun a b => (intOf b - intOf a).toNat)
      case atStart => exact ⟨_, 1000000000, rfl, rfl, by omega, by omega, by omega, ⟨HS2.out⟩, ⟨.inl rfl⟩⟩
      case round =>
        obtain ⟨lo, hi, rfl, rfl, l0, l1, l2, HA, HB⟩ := hrel
        by_cases h1 : 1 < hi - lo
        · have hm0 : 0 ≤ lo + hi := by omega
          have hm1 : lo < (lo + hi) / 2 := by omega
          have hm2 : (lo + hi) / 2 < hi := by omega
          obtain ⟨m, hm⟩ : ∃ m, (lo + hi) / 2 = m := ⟨_, rfl⟩
          rw [hm] at hm1 hm2
          have HM : Kp ((lo + hi) / 2 = m) := ⟨hm⟩
          obtain ⟨p0, p1⟩ := mul_bd (x := n) (y := m) n0 n1 (show 0 ≤ m by omega) (show m ≤ 1000000000 by omega)
          have p2 : n * m ≤ 1000000000000000 := p1
          clear p1
          by_cases hc : A * d ≤ n * m
          · have HC : Kp (A * d ≤ n * m) := ⟨hc⟩
            go_wp2
            go_round
            case rel => exact ⟨lo, m, rfl, by rw [HM.out], l0, hm1, by omega, HC, HB⟩
            case measure => simp [intOf]; omega
          · have HC : Kp (n * m < A * d) := ⟨by omega⟩
            go_wp2
            go_round
            case rel => exact ⟨m, hi, by rw [HM.out], rfl, by omega, hm2, l2, HA, ⟨.inr HC.out⟩⟩
            case measure => simp [intOf]; omega
        · have HX : Kp (hi - W = watR W A n d) := ⟨wat_search n0 a0 d0 HN.out HA.out (by omega) (by omega) (by
            have e : hi - 1 = lo := by omega
            rcases HB.out with h | h
            · left; omega
            · right; rw [e]; exact h) (by omega)⟩
          go_wp2
          go_ret2
          exact watPost_ok HV.out HF.out HS.out HX.out rfl HB1.out
theorem rWater_any (W S A n d : Int) (w : World) :
    Calls Try.prog 49 #[.agg #[.int .i64 W, .int .i64 S, .int .i64 A], .int .i64 n, .int .i64 d] w (WatPost W S A n d w) := by
  cases h : bathB ⟨W, S, A⟩ with
  | false => exact rWater_inv W S A n d w h
  | true =>
    cases g : fracB n d with
    | true => exact rWater_in W S A n d w h g
    | false =>
      rw [← Bool.not_eq_true, frac_iff] at g
      by_cases k : 0 ≤ n ∧ n ≤ 1000000
      · exact rWater_rng2 W S A n d w h k (by omega)
      · exact rWater_rng1 W S A n d w h (by omega)
end Go.Proofs.Ytopbbghjmdhplaa.Bt
