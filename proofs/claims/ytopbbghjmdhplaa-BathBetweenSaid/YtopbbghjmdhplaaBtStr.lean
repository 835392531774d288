/-
  WALKS (layer 3, baths): the greatest common divisor, Strength, Stronger, by the program and by the reference.
-/
import Derived.Test.YtopbbghjmdhplaaBtMixP
import Derived.Test.YtopbbghjmdhplaaBtRefA
import Derived.Test.YtopbbghjmdhplaaBtHourB
import Derived.RegionTactic
import Derived.BigRegion
import Derived.IntWalk
namespace Go.Proofs.Ytopbbghjmdhplaa.Bt
open Go Go.RowKit

theorem divisor_any (a b : Nat) (w : World) (ha : a ≤ 1000000000) (hb : b ≤ 1000000000) :
    Calls Try.prog 73 #[.int .i64 a, .int .i64 b] w fun e w' => e = .returned (.int .i64 (Nat.gcd a b)) ∧ Below w.heap.size w w' := by
  go_enter Try.func73, Try.ntmps73
  go_wp2
  go_loopw [0, 1] (fun x y wr => ∃ m k : Nat, m ≤ 1000000000 ∧ k ≤ 1000000000 ∧ x = .int .i64 m ∧ y = .int .i64 k ∧ Kp (Nat.gcd m k = Nat.gcd a b) ∧ Kp (Below w.heap.size w wr)) (fun _ y _ => (intOf y).toNat)
  case atStart => exact ⟨a, b, ha, hb, rfl, rfl, ⟨rfl⟩, ⟨Below.refl _ _⟩⟩
  case round =>
    obtain ⟨m, k, hm, hk, rfl, rfl, HG, HB⟩ := hrel
    by_cases h0 : 0 < k
    · have hl : m % k < k := Nat.mod_lt _ h0
      have hne : ¬ (k : Int) = 0 := by omega
      have hgt : (0 : Int) < (k : Int) := by omega
      go_wp2
      go_quiet (fail)
      go_wp2
      go_roundw
      case rel => exact ⟨k, m % k, hk, by omega, rfl, by rw [Int.natCast_emod], ⟨gcd_step' HG.out⟩, ⟨bDrewN HB.out _⟩⟩
      case measure => simp only [intOf]; rw [← Int.natCast_emod]; omega
    · obtain rfl : k = 0 := by omega
      have HE : Kp (m = Nat.gcd a b) := ⟨by rw [← HG.out, Nat.gcd_zero_right]⟩
      go_wp2
      go_ret
      exact ⟨ret_i (by rw [← HE.out]), HB.out⟩
theorem rdivisor_any (a b : Nat) (w : World) (ha : a ≤ 1000000000) (hb : b ≤ 1000000000) :
    Calls Try.prog 74 #[.int .i64 a, .int .i64 b] w fun e w' => e = .returned (.int .i64 (Nat.gcd a b)) ∧ Below w.heap.size w w' := by
  go_enter Try.func74, Try.ntmps74
  go_wp2
  go_loopw [0, 1] (fun x y wr => ∃ m k : Nat, m ≤ 1000000000 ∧ k ≤ 1000000000 ∧ x = .int .i64 m ∧ y = .int .i64 k ∧ Kp (Nat.gcd m k = Nat.gcd a b) ∧ Kp (Below w.heap.size w wr)) (fun _ y _ => (intOf y).toNat)
  case atStart => exact ⟨a, b, ha, hb, rfl, rfl, ⟨rfl⟩, ⟨Below.refl _ _⟩⟩
  case round =>
    obtain ⟨m, k, hm, hk, rfl, rfl, HG, HB⟩ := hrel
    by_cases h0 : 0 < k
    · have hl : m % k < k := Nat.mod_lt _ h0
      have hne : ¬ (k : Int) = 0 := by omega
      have hgt : ((k : Int) != 0) = true := by rw [bne_iff_ne]; omega
      go_wp2
      go_quiet (fail)
      go_wp2
      go_roundw
      case rel => exact ⟨k, m % k, hk, by omega, rfl, by rw [Int.natCast_emod], ⟨gcd_step' HG.out⟩, ⟨bDrewN HB.out _⟩⟩
      case measure => simp only [intOf]; rw [← Int.natCast_emod]; omega
    · obtain rfl : k = 0 := by omega
      have HE : Kp (m = Nat.gcd a b) := ⟨by rw [← HG.out, Nat.gcd_zero_right]⟩
      go_wp2
      go_ret
      exact ⟨ret_i (by rw [← HE.out]), HB.out⟩
theorem Strength_ok (x y z : Int) (w : World) (h : bathB ⟨x, y, z⟩ = true) (hw : x ≠ 0) :
    Calls Try.prog 44 #[.agg #[.int .i64 x, .int .i64 y, .int .i64 z]] w (StrPost ⟨x, y, z⟩ w) := by
  have HV : Kp (bathB ⟨x, y, z⟩ = true) := ⟨h⟩
  obtain ⟨⟨x0, x1⟩, -, z0, z1⟩ := bath_iff.1 h
  simp only at x0 x1 z0 z1
  obtain ⟨p, rfl⟩ := Int.eq_ofNat_of_zero_le x0
  obtain ⟨q, rfl⟩ := Int.eq_ofNat_of_zero_le z0
  have hp : 0 < p := by omega
  have hg := Nat.gcd_pos_of_pos_left q hp
  have HE : Kp (strE ⟨p, y, q⟩ = 0) := ⟨by unfold strE; rw [h, if_pos rfl, if_neg hw]⟩
  have HN : Kp (strN ⟨p, y, q⟩ = (q : Int) / (Nat.gcd p q : Nat)) := ⟨by unfold strN gcdI; rw [HE.out, if_pos rfl]; rfl⟩
  have HD : Kp (strD ⟨p, y, q⟩ = (p : Int) / (Nat.gcd p q : Nat)) := ⟨by unfold strD gcdI; rw [HE.out, if_pos rfl]; rfl⟩
  have hx : ((p : Int) == 0) = false := by rw [beq_eq_false_iff_ne]; omega
  have HQ : Kp (∀ W : World, Calls Try.prog 73 #[.int .i64 p, .int .i64 q] W fun e w' => e = .returned (.int .i64 (Nat.gcd p q)) ∧ Below W.heap.size W w') := ⟨fun W => by
    have := divisor_any p q W (by omega) (by omega)
    exact this⟩
  have hle : Nat.gcd p q ≤ p := Nat.le_of_dvd hp (Nat.gcd_dvd_left p q)
  obtain ⟨g, hgg⟩ : ∃ g, Nat.gcd p q = g := ⟨_, rfl⟩
  rw [hgg] at HN HD HQ hg hle
  have hg0 : ¬ (g : Int) = 0 := by omega
  have HR : Kp ((0 ≤ (q : Int) / g ∧ (q : Int) / g ≤ q) ∧ 0 ≤ (p : Int) / g ∧ (p : Int) / g ≤ p) := ⟨⟨Int.ediv_nonneg (by omega) (by omega), Int.ediv_le_self _ (by omega)⟩, Int.ediv_nonneg (by omega) (by omega), Int.ediv_le_self _ (by omega)⟩
  clear h hgg hw
  go_enter Try.func44, Try.ntmps44
  go_wp2_with fail
  refine (ValidBath_yes _ _ _ _ HV.out).mono ?_
  rintro e w1 ⟨rfl, hb1⟩
  have HB1 : Kp (Below w.heap.size w w1) := ⟨Below.trans (by repeat (first | exact Below.refl _ _ | refine Below.alloc ?_ (by simp <;> omega) _ | refine bDrewN ?_ _ | refine Below.drew ?_)) (hb1.mono (by simp <;> omega))⟩
  have hz1 : w.heap.size + 1 < w1.heap.size := by have := hb1.size; simp at this; omega
  obtain ⟨hc, hf⟩ := bcell hb1
  have c1_0_0 : w1.cell? ⟨w.heap.size, 0, none⟩ = some (.int .i64 p) := (hc _ _ (by simp <;> omega)).trans (by go_simp)
  have c1_0_1 : w1.cell? ⟨w.heap.size, 1, none⟩ = some (.int .i64 y) := (hc _ _ (by simp <;> omega)).trans (by go_simp)
  have c1_0_2 : w1.cell? ⟨w.heap.size, 2, none⟩ = some (.int .i64 q) := (hc _ _ (by simp <;> omega)).trans (by go_simp)
  have z1_0 : ∀ j, w1.frozen? ⟨w.heap.size, j, none⟩ = false := fun j => (hf _ _ (by simp <;> omega)).trans (by go_simp)
  have c1_1_0 : w1.cell? ⟨w.heap.size + 1, 0, none⟩ = some (.int .i64 0) := (hc _ _ (by simp <;> omega)).trans (by go_simp)
  have c1_1_1 : w1.cell? ⟨w.heap.size + 1, 1, none⟩ = some (.int .i64 0) := (hc _ _ (by simp <;> omega)).trans (by go_simp)
  have z1_1 : ∀ j, w1.frozen? ⟨w.heap.size + 1, j, none⟩ = false := fun j => (hf _ _ (by simp <;> omega)).trans (by go_simp)
  clear hc hf hb1
  go_wp2_with fail
  refine (HQ.out _).mono ?_
  rintro e w2 ⟨rfl, hb2⟩
  have HB2 : Kp (Below w.heap.size w w2) := ⟨HB1.out.trans (hb2.mono (by omega))⟩
  have hz2 : w.heap.size + 1 < w2.heap.size := by have := hb2.size; omega
  obtain ⟨hc, hf⟩ := bcell hb2
  have c2_0_0 : w2.cell? ⟨w.heap.size, 0, none⟩ = some (.int .i64 p) := (hc _ _ (by omega)).trans c1_0_0
  have c2_0_1 : w2.cell? ⟨w.heap.size, 1, none⟩ = some (.int .i64 y) := (hc _ _ (by omega)).trans c1_0_1
  have c2_0_2 : w2.cell? ⟨w.heap.size, 2, none⟩ = some (.int .i64 q) := (hc _ _ (by omega)).trans c1_0_2
  have z2_0 : ∀ j, w2.frozen? ⟨w.heap.size, j, none⟩ = false := fun j => (hf _ _ (by omega)).trans (z1_0 j)
  have c2_1_0 : w2.cell? ⟨w.heap.size + 1, 0, none⟩ = some (.int .i64 0) := (hc _ _ (by omega)).trans c1_1_0
  have c2_1_1 : w2.cell? ⟨w.heap.size + 1, 1, none⟩ = some (.int .i64 0) := (hc _ _ (by omega)).trans c1_1_1
  have z2_1 : ∀ j, w2.frozen? ⟨w.heap.size + 1, j, none⟩ = false := fun j => (hf _ _ (by omega)).trans (z1_1 j)
  clear hc hf hb2 hz1 c1_0_0 c1_0_1 c1_0_2 z1_0 c1_1_0 c1_1_1 z1_1
  go_wp2
  go_region
  go_wp2
  refine bodyPost_ret (v := .tuple #[.agg #[.int .i64 (q / g), .int .i64 (p / g)], .int .i64 0]) ?_ rfl (strPost_of HE.out HN.out HD.out rfl ?_)
  · simp [results, Try.results44, go_sem, c2_1_0, c2_1_1]
    exact ⟨IntWalk.wrap64_in _ (by have := HR.out; omega), IntWalk.wrap64_in _ (by have := HR.out; omega)⟩
  · (have hzS := HB2.out.size; repeat (first | refine Below.setCell ?_ (by simp) _ | refine Below.drew ?_ | refine bDrewN ?_ _ | refine Below.alloc ?_ (by (try simp) <;> omega) _ | exact HB2.out))
theorem Strength_dry (y z : Int) (w : World) (h : bathB ⟨0, y, z⟩ = true) :
    Calls Try.prog 44 #[.agg #[.int .i64 0, .int .i64 y, .int .i64 z]] w (StrPost ⟨0, y, z⟩ w) := by
  have HV : Kp (bathB ⟨0, y, z⟩ = true) := ⟨h⟩
  have HE : Kp (strE ⟨0, y, z⟩ = 8) := ⟨by unfold strE; rw [h]; rfl⟩
  have HN : Kp (strN ⟨0, y, z⟩ = 0) := ⟨by unfold strN; rw [HE.out]; rfl⟩
  have HD : Kp (strD ⟨0, y, z⟩ = 0) := ⟨by unfold strD; rw [HE.out]; rfl⟩
  clear h
  go_enter Try.func44, Try.ntmps44
  go_wp2_with fail
  refine (ValidBath_yes _ _ _ _ HV.out).mono ?_
  rintro e w1 ⟨rfl, hb1⟩
  have HB1 : Kp (Below w.heap.size w w1) := ⟨Below.trans (by repeat (first | exact Below.refl _ _ | refine Below.alloc ?_ (by simp <;> omega) _ | refine bDrewN ?_ _ | refine Below.drew ?_)) (hb1.mono (by simp <;> omega))⟩
  have hz1 : w.heap.size + 1 < w1.heap.size := by have := hb1.size; simp at this; omega
  obtain ⟨hc, hf⟩ := bcell hb1
  have c1_0_0 : w1.cell? ⟨w.heap.size, 0, none⟩ = some (.int .i64 0) := (hc _ _ (by simp <;> omega)).trans (by go_simp)
  have c1_0_1 : w1.cell? ⟨w.heap.size, 1, none⟩ = some (.int .i64 y) := (hc _ _ (by simp <;> omega)).trans (by go_simp)
  have c1_0_2 : w1.cell? ⟨w.heap.size, 2, none⟩ = some (.int .i64 z) := (hc _ _ (by simp <;> omega)).trans (by go_simp)
  have z1_0 : ∀ j, w1.frozen? ⟨w.heap.size, j, none⟩ = false := fun j => (hf _ _ (by simp <;> omega)).trans (by go_simp)
  have c1_1_0 : w1.cell? ⟨w.heap.size + 1, 0, none⟩ = some (.int .i64 0) := (hc _ _ (by simp <;> omega)).trans (by go_simp)
  have c1_1_1 : w1.cell? ⟨w.heap.size + 1, 1, none⟩ = some (.int .i64 0) := (hc _ _ (by simp <;> omega)).trans (by go_simp)
  have z1_1 : ∀ j, w1.frozen? ⟨w.heap.size + 1, j, none⟩ = false := fun j => (hf _ _ (by simp <;> omega)).trans (by go_simp)
  clear hc hf hb1
  go_wp2
  refine bodyPost_ret (v := .tuple #[.agg #[.int .i64 0, .int .i64 0], .int .i64 8]) ?_ rfl (strPost_of HE.out HN.out HD.out rfl ?_)
  · simp [results, Try.results44, go_sem, c1_1_0, c1_1_1]
  · (have hzS := HB1.out.size; repeat (first | refine Below.setCell ?_ (by simp) _ | refine Below.drew ?_ | refine bDrewN ?_ _ | refine Below.alloc ?_ (by (try simp) <;> omega) _ | exact HB1.out))
theorem Strength_inv (x y z : Int) (w : World) (h : bathB ⟨x, y, z⟩ = false) :
    Calls Try.prog 44 #[.agg #[.int .i64 x, .int .i64 y, .int .i64 z]] w (StrPost ⟨x, y, z⟩ w) := by
  have HV : Kp (bathB ⟨x, y, z⟩ = false) := ⟨h⟩
  have HE : Kp (strE ⟨x, y, z⟩ = 1) := ⟨by unfold strE; rw [h]; rfl⟩
  have HN : Kp (strN ⟨x, y, z⟩ = 0) := ⟨by unfold strN; rw [HE.out]; rfl⟩
  have HD : Kp (strD ⟨x, y, z⟩ = 0) := ⟨by unfold strD; rw [HE.out]; rfl⟩
  clear h
  go_enter Try.func44, Try.ntmps44
  go_wp2_with fail
  refine (ValidBath_no _ _ _ _ HV.out).mono ?_
  rintro e w1 ⟨rfl, hb1⟩
  have HB1 : Kp (Below w.heap.size w w1) := ⟨Below.trans (by repeat (first | exact Below.refl _ _ | refine Below.alloc ?_ (by simp <;> omega) _ | refine bDrewN ?_ _ | refine Below.drew ?_)) (hb1.mono (by simp <;> omega))⟩
  have hz1 : w.heap.size + 1 < w1.heap.size := by have := hb1.size; simp at this; omega
  obtain ⟨hc, hf⟩ := bcell hb1
  have c1_0_0 : w1.cell? ⟨w.heap.size, 0, none⟩ = some (.int .i64 x) := (hc _ _ (by simp <;> omega)).trans (by go_simp)
  have c1_0_1 : w1.cell? ⟨w.heap.size, 1, none⟩ = some (.int .i64 y) := (hc _ _ (by simp <;> omega)).trans (by go_simp)
  have c1_0_2 : w1.cell? ⟨w.heap.size, 2, none⟩ = some (.int .i64 z) := (hc _ _ (by simp <;> omega)).trans (by go_simp)
  have z1_0 : ∀ j, w1.frozen? ⟨w.heap.size, j, none⟩ = false := fun j => (hf _ _ (by simp <;> omega)).trans (by go_simp)
  have c1_1_0 : w1.cell? ⟨w.heap.size + 1, 0, none⟩ = some (.int .i64 0) := (hc _ _ (by simp <;> omega)).trans (by go_simp)
  have c1_1_1 : w1.cell? ⟨w.heap.size + 1, 1, none⟩ = some (.int .i64 0) := (hc _ _ (by simp <;> omega)).trans (by go_simp)
  have z1_1 : ∀ j, w1.frozen? ⟨w.heap.size + 1, j, none⟩ = false := fun j => (hf _ _ (by simp <;> omega)).trans (by go_simp)
  clear hc hf hb1
  go_wp2
  refine bodyPost_ret (v := .tuple #[.agg #[.int .i64 0, .int .i64 0], .int .i64 1]) ?_ rfl (strPost_of HE.out HN.out HD.out rfl ?_)
  · simp [results, Try.results44, go_sem, c1_1_0, c1_1_1]
  · (have hzS := HB1.out.size; repeat (first | refine Below.setCell ?_ (by simp) _ | refine Below.drew ?_ | refine bDrewN ?_ _ | refine Below.alloc ?_ (by (try simp) <;> omega) _ | exact HB1.out))
theorem Strength_any (x y z : Int) (w : World) : Calls Try.prog 44 #[.agg #[.int .i64 x, .int .i64 y, .int .i64 z]] w (StrPost ⟨x, y, z⟩ w) := by
  cases h : bathB ⟨x, y, z⟩ with
  | false => exact Strength_inv x y z w h
  | true =>
    by_cases hx : x = 0
    · subst hx; exact Strength_dry y z w h
    · exact Strength_ok x y z w h hx
theorem rStrength_ok (x y z : Int) (w : World) (h : bathB ⟨x, y, z⟩ = true) (hw : x ≠ 0) :
    Calls Try.prog 45 #[.agg #[.int .i64 x, .int .i64 y, .int .i64 z]] w (StrPost ⟨x, y, z⟩ w) := by
  have HV : Kp (bathB ⟨x, y, z⟩ = true) := ⟨h⟩
  obtain ⟨⟨x0, x1⟩, -, z0, z1⟩ := bath_iff.1 h
  simp only at x0 x1 z0 z1
  obtain ⟨p, rfl⟩ := Int.eq_ofNat_of_zero_le x0
  obtain ⟨q, rfl⟩ := Int.eq_ofNat_of_zero_le z0
  have hp : 0 < p := by omega
  have hg := Nat.gcd_pos_of_pos_left q hp
  have HE : Kp (strE ⟨p, y, q⟩ = 0) := ⟨by unfold strE; rw [h, if_pos rfl, if_neg hw]⟩
  have HN : Kp (strN ⟨p, y, q⟩ = (q : Int) / (Nat.gcd p q : Nat)) := ⟨by unfold strN gcdI; rw [HE.out, if_pos rfl]; rfl⟩
  have HD : Kp (strD ⟨p, y, q⟩ = (p : Int) / (Nat.gcd p q : Nat)) := ⟨by unfold strD gcdI; rw [HE.out, if_pos rfl]; rfl⟩
  have hx : ((p : Int) == 0) = false := by rw [beq_eq_false_iff_ne]; omega
  have HQ : Kp (∀ W : World, Calls Try.prog 74 #[.int .i64 q, .int .i64 p] W fun e w' => e = .returned (.int .i64 (Nat.gcd p q)) ∧ Below W.heap.size W w') := ⟨fun W => by
    have := rdivisor_any q p W (by omega) (by omega)
    rw [Nat.gcd_comm] at this
    exact this⟩
  have hle : Nat.gcd p q ≤ p := Nat.le_of_dvd hp (Nat.gcd_dvd_left p q)
  obtain ⟨g, hgg⟩ : ∃ g, Nat.gcd p q = g := ⟨_, rfl⟩
  rw [hgg] at HN HD HQ hg hle
  have hg0 : ¬ (g : Int) = 0 := by omega
  have HR : Kp ((0 ≤ (q : Int) / g ∧ (q : Int) / g ≤ q) ∧ 0 ≤ (p : Int) / g ∧ (p : Int) / g ≤ p) := ⟨⟨Int.ediv_nonneg (by omega) (by omega), Int.ediv_le_self _ (by omega)⟩, Int.ediv_nonneg (by omega) (by omega), Int.ediv_le_self _ (by omega)⟩
  clear h hgg hw
  go_enter Try.func45, Try.ntmps45
  go_wp2_with fail
  refine (rValidBath_yes _ _ _ _ HV.out).mono ?_
  rintro e w1 ⟨rfl, hb1⟩
  have HB1 : Kp (Below w.heap.size w w1) := ⟨Below.trans (by repeat (first | exact Below.refl _ _ | refine Below.alloc ?_ (by simp <;> omega) _ | refine bDrewN ?_ _ | refine Below.drew ?_)) (hb1.mono (by simp <;> omega))⟩
  have hz1 : w.heap.size + 1 < w1.heap.size := by have := hb1.size; simp at this; omega
  obtain ⟨hc, hf⟩ := bcell hb1
  have c1_0_0 : w1.cell? ⟨w.heap.size, 0, none⟩ = some (.int .i64 p) := (hc _ _ (by simp <;> omega)).trans (by go_simp)
  have c1_0_1 : w1.cell? ⟨w.heap.size, 1, none⟩ = some (.int .i64 y) := (hc _ _ (by simp <;> omega)).trans (by go_simp)
  have c1_0_2 : w1.cell? ⟨w.heap.size, 2, none⟩ = some (.int .i64 q) := (hc _ _ (by simp <;> omega)).trans (by go_simp)
  have z1_0 : ∀ j, w1.frozen? ⟨w.heap.size, j, none⟩ = false := fun j => (hf _ _ (by simp <;> omega)).trans (by go_simp)
  have c1_1_0 : w1.cell? ⟨w.heap.size + 1, 0, none⟩ = some (.int .i64 0) := (hc _ _ (by simp <;> omega)).trans (by go_simp)
  have c1_1_1 : w1.cell? ⟨w.heap.size + 1, 1, none⟩ = some (.int .i64 0) := (hc _ _ (by simp <;> omega)).trans (by go_simp)
  have z1_1 : ∀ j, w1.frozen? ⟨w.heap.size + 1, j, none⟩ = false := fun j => (hf _ _ (by simp <;> omega)).trans (by go_simp)
  clear hc hf hb1
  go_wp2_with fail
  refine (HQ.out _).mono ?_
  rintro e w2 ⟨rfl, hb2⟩
  have HB2 : Kp (Below w.heap.size w w2) := ⟨HB1.out.trans (hb2.mono (by omega))⟩
  have hz2 : w.heap.size + 1 < w2.heap.size := by have := hb2.size; omega
  obtain ⟨hc, hf⟩ := bcell hb2
  have c2_0_0 : w2.cell? ⟨w.heap.size, 0, none⟩ = some (.int .i64 p) := (hc _ _ (by omega)).trans c1_0_0
  have c2_0_1 : w2.cell? ⟨w.heap.size, 1, none⟩ = some (.int .i64 y) := (hc _ _ (by omega)).trans c1_0_1
  have c2_0_2 : w2.cell? ⟨w.heap.size, 2, none⟩ = some (.int .i64 q) := (hc _ _ (by omega)).trans c1_0_2
  have z2_0 : ∀ j, w2.frozen? ⟨w.heap.size, j, none⟩ = false := fun j => (hf _ _ (by omega)).trans (z1_0 j)
  have c2_1_0 : w2.cell? ⟨w.heap.size + 1, 0, none⟩ = some (.int .i64 0) := (hc _ _ (by omega)).trans c1_1_0
  have c2_1_1 : w2.cell? ⟨w.heap.size + 1, 1, none⟩ = some (.int .i64 0) := (hc _ _ (by omega)).trans c1_1_1
  have z2_1 : ∀ j, w2.frozen? ⟨w.heap.size + 1, j, none⟩ = false := fun j => (hf _ _ (by omega)).trans (z1_1 j)
  clear hc hf hb2 hz1 c1_0_0 c1_0_1 c1_0_2 z1_0 c1_1_0 c1_1_1 z1_1
  go_wp2
  go_region
  go_wp2
  refine bodyPost_ret (v := .tuple #[.agg #[.int .i64 (q / g), .int .i64 (p / g)], .int .i64 0]) ?_ rfl (strPost_of HE.out HN.out HD.out rfl ?_)
  · simp [results, Try.results45, go_sem, c2_1_0, c2_1_1]
    exact ⟨IntWalk.wrap64_in _ (by have := HR.out; omega), IntWalk.wrap64_in _ (by have := HR.out; omega)⟩
  · (have hzS := HB2.out.size; repeat (first | refine Below.setCell ?_ (by simp) _ | refine Below.drew ?_ | refine bDrewN ?_ _ | refine Below.alloc ?_ (by (try simp) <;> omega) _ | exact HB2.out))
theorem rStrength_dry (y z : Int) (w : World) (h : bathB ⟨0, y, z⟩ = true) :
    Calls Try.prog 45 #[.agg #[.int .i64 0, .int .i64 y, .int .i64 z]] w (StrPost ⟨0, y, z⟩ w) := by
  have HV : Kp (bathB ⟨0, y, z⟩ = true) := ⟨h⟩
  have HE : Kp (strE ⟨0, y, z⟩ = 8) := ⟨by unfold strE; rw [h]; rfl⟩
  have HN : Kp (strN ⟨0, y, z⟩ = 0) := ⟨by unfold strN; rw [HE.out]; rfl⟩
  have HD : Kp (strD ⟨0, y, z⟩ = 0) := ⟨by unfold strD; rw [HE.out]; rfl⟩
  clear h
  go_enter Try.func45, Try.ntmps45
  go_wp2_with fail
  refine (rValidBath_yes _ _ _ _ HV.out).mono ?_
  rintro e w1 ⟨rfl, hb1⟩
  have HB1 : Kp (Below w.heap.size w w1) := ⟨Below.trans (by repeat (first | exact Below.refl _ _ | refine Below.alloc ?_ (by simp <;> omega) _ | refine bDrewN ?_ _ | refine Below.drew ?_)) (hb1.mono (by simp <;> omega))⟩
  have hz1 : w.heap.size + 1 < w1.heap.size := by have := hb1.size; simp at this; omega
  obtain ⟨hc, hf⟩ := bcell hb1
  have c1_0_0 : w1.cell? ⟨w.heap.size, 0, none⟩ = some (.int .i64 0) := (hc _ _ (by simp <;> omega)).trans (by go_simp)
  have c1_0_1 : w1.cell? ⟨w.heap.size, 1, none⟩ = some (.int .i64 y) := (hc _ _ (by simp <;> omega)).trans (by go_simp)
  have c1_0_2 : w1.cell? ⟨w.heap.size, 2, none⟩ = some (.int .i64 z) := (hc _ _ (by simp <;> omega)).trans (by go_simp)
  have z1_0 : ∀ j, w1.frozen? ⟨w.heap.size, j, none⟩ = false := fun j => (hf _ _ (by simp <;> omega)).trans (by go_simp)
  have c1_1_0 : w1.cell? ⟨w.heap.size + 1, 0, none⟩ = some (.int .i64 0) := (hc _ _ (by simp <;> omega)).trans (by go_simp)
  have c1_1_1 : w1.cell? ⟨w.heap.size + 1, 1, none⟩ = some (.int .i64 0) := (hc _ _ (by simp <;> omega)).trans (by go_simp)
  have z1_1 : ∀ j, w1.frozen? ⟨w.heap.size + 1, j, none⟩ = false := fun j => (hf _ _ (by simp <;> omega)).trans (by go_simp)
  clear hc hf hb1
  go_wp2
  refine bodyPost_ret (v := .tuple #[.agg #[.int .i64 0, .int .i64 0], .int .i64 8]) ?_ rfl (strPost_of HE.out HN.out HD.out rfl ?_)
  · simp [results, Try.results45, go_sem, c1_1_0, c1_1_1]
  · (have hzS := HB1.out.size; repeat (first | refine Below.setCell ?_ (by simp) _ | refine Below.drew ?_ | refine bDrewN ?_ _ | refine Below.alloc ?_ (by (try simp) <;> omega) _ | exact HB1.out))
theorem rStrength_inv (x y z : Int) (w : World) (h : bathB ⟨x, y, z⟩ = false) :
    Calls Try.prog 45 #[.agg #[.int .i64 x, .int .i64 y, .int .i64 z]] w (StrPost ⟨x, y, z⟩ w) := by
  have HV : Kp (bathB ⟨x, y, z⟩ = false) := ⟨h⟩
  have HE : Kp (strE ⟨x, y, z⟩ = 1) := ⟨by unfold strE; rw [h]; rfl⟩
  have HN : Kp (strN ⟨x, y, z⟩ = 0) := ⟨by unfold strN; rw [HE.out]; rfl⟩
  have HD : Kp (strD ⟨x, y, z⟩ = 0) := ⟨by unfold strD; rw [HE.out]; rfl⟩
  clear h
  go_enter Try.func45, Try.ntmps45
  go_wp2_with fail
  refine (rValidBath_no _ _ _ _ HV.out).mono ?_
  rintro e w1 ⟨rfl, hb1⟩
  have HB1 : Kp (Below w.heap.size w w1) := ⟨Below.trans (by repeat (first | exact Below.refl _ _ | refine Below.alloc ?_ (by simp <;> omega) _ | refine bDrewN ?_ _ | refine Below.drew ?_)) (hb1.mono (by simp <;> omega))⟩
  have hz1 : w.heap.size + 1 < w1.heap.size := by have := hb1.size; simp at this; omega
  obtain ⟨hc, hf⟩ := bcell hb1
  have c1_0_0 : w1.cell? ⟨w.heap.size, 0, none⟩ = some (.int .i64 x) := (hc _ _ (by simp <;> omega)).trans (by go_simp)
  have c1_0_1 : w1.cell? ⟨w.heap.size, 1, none⟩ = some (.int .i64 y) := (hc _ _ (by simp <;> omega)).trans (by go_simp)
  have c1_0_2 : w1.cell? ⟨w.heap.size, 2, none⟩ = some (.int .i64 z) := (hc _ _ (by simp <;> omega)).trans (by go_simp)
  have z1_0 : ∀ j, w1.frozen? ⟨w.heap.size, j, none⟩ = false := fun j => (hf _ _ (by simp <;> omega)).trans (by go_simp)
  have c1_1_0 : w1.cell? ⟨w.heap.size + 1, 0, none⟩ = some (.int .i64 0) := (hc _ _ (by simp <;> omega)).trans (by go_simp)
  have c1_1_1 : w1.cell? ⟨w.heap.size + 1, 1, none⟩ = some (.int .i64 0) := (hc _ _ (by simp <;> omega)).trans (by go_simp)
  have z1_1 : ∀ j, w1.frozen? ⟨w.heap.size + 1, j, none⟩ = false := fun j => (hf _ _ (by simp <;> omega)).trans (by go_simp)
  clear hc hf hb1
  go_wp2
  refine bodyPost_ret (v := .tuple #[.agg #[.int .i64 0, .int .i64 0], .int .i64 1]) ?_ rfl (strPost_of HE.out HN.out HD.out rfl ?_)
  · simp [results, Try.results45, go_sem, c1_1_0, c1_1_1]
  · (have hzS := HB1.out.size; repeat (first | refine Below.setCell ?_ (by simp) _ | refine Below.drew ?_ | refine bDrewN ?_ _ | refine Below.alloc ?_ (by (try simp) <;> omega) _ | exact HB1.out))
theorem rStrength_any (x y z : Int) (w : World) : Calls Try.prog 45 #[.agg #[.int .i64 x, .int .i64 y, .int .i64 z]] w (StrPost ⟨x, y, z⟩ w) := by
  cases h : bathB ⟨x, y, z⟩ with
  | false => exact rStrength_inv x y z w h
  | true =>
    by_cases hx : x = 0
    · subst hx; exact rStrength_dry y z w h
    · exact rStrength_ok x y z w h hx
theorem isNaN_any (x : Int) (w : World) : Calls Try.prog 81 #[.int .i64 x] w fun e w' => e = .returned (.bool false) ∧ w = w' := by
  have hx : (x != x) = false := by simp
  go_enter Try.func81, Try.ntmps81
  go_wp2
  go_ret
  exact ⟨rfl, rfl⟩
theorem Compare_any (x y : Int) (w : World) : Calls Try.prog 75 #[.int .i64 x, .int .i64 y] w fun e w' => e = .returned (.int .i64 (cmpI x y)) ∧ w = w' := by
  by_cases h : x < y
  · have HE : Kp (cmpI x y = -1) := ⟨if_pos h⟩
    go_enter Try.func75, Try.ntmps75
    go_wp2_with (go_at_call 81; refine (isNaN_any _ _).mono ?_; rintro e w' ⟨rfl, rfl⟩)
    go_ret
    exact ⟨ret_i HE.out.symm, rfl⟩
  · by_cases h2 : y < x
    · have HE : Kp (cmpI x y = 1) := ⟨by unfold cmpI; rw [if_neg h, if_pos h2]⟩
      go_enter Try.func75, Try.ntmps75
      go_wp2_with (go_at_call 81; refine (isNaN_any _ _).mono ?_; rintro e w' ⟨rfl, rfl⟩)
      go_ret
      exact ⟨ret_i HE.out.symm, rfl⟩
    · have HE : Kp (cmpI x y = 0) := ⟨by unfold cmpI; rw [if_neg h, if_neg h2]⟩
      go_enter Try.func75, Try.ntmps75
      go_wp2_with (go_at_call 81; refine (isNaN_any _ _).mono ?_; rintro e w' ⟨rfl, rfl⟩)
      go_ret
      exact ⟨ret_i HE.out.symm, rfl⟩
end Go.Proofs.Ytopbbghjmdhplaa.Bt
