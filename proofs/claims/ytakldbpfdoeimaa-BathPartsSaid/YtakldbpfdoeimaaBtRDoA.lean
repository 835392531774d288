/-
  WALKS (layer 3, baths): Do, by the reference: waiting.
-/
import Derived.Test.YtakldbpfdoeimaaBtRDo
namespace Go.Proofs.Ytakldbpfdoeimaa.Bt
open Go Go.RowKit

set_option maxHeartbeats 2000000 in
theorem rDo_1 (bw bs ba sw ss sa so gw gs ga y0 y1 y2 y3 y4 y5 y6 y7 y8 y9 r0 r1 r2 r3 r4 r5 r6 r7 r8 r9 E : Int) (n : Nat) (w : World) (HC : Kp (CheckC y0 y1 y2 y3 y4 y5 y6 y7 y8 y9 r0 r1 r2 r3 r4 r5 r6 r7 r8 r9 E)) (HE : Kp (hoursN n ⟨⟨bw, bs, ba⟩, ⟨sw, ss, sa, so⟩, ⟨gw, gs, ga⟩⟩ = ⟨⟨y0, y1, y2⟩, ⟨y3, y4, y5, y6⟩, ⟨y7, y8, y9⟩⟩)) (hv : vatB ⟨⟨bw, bs, ba⟩, ⟨sw, ss, sa, so⟩, ⟨gw, gs, ga⟩⟩ = true) (hs : stepB ⟨1, n⟩ = true) :
    Calls Try.prog 33 #[.agg #[.int .i64 bw, .int .i64 bs, .int .i64 ba, .int .i64 sw, .int .i64 ss, .int .i64 sa, .int .i64 so, .int .i64 gw, .int .i64 gs, .int .i64 ga], .agg #[.int .i64 1, .int .i64 (n : Int)]] w fun e w' => e = .returned (.tuple #[.agg #[.int .i64 r0, .int .i64 r1, .int .i64 r2, .int .i64 r3, .int .i64 r4, .int .i64 r5, .int .i64 r6, .int .i64 r7, .int .i64 r8, .int .i64 r9], .int .i64 E]) ∧ Below w.heap.size w w' := by
  have HV : Kp (vatB ⟨⟨bw, bs, ba⟩, ⟨sw, ss, sa, so⟩, ⟨gw, gs, ga⟩⟩ = true) := ⟨hv⟩
  have HS : Kp (stepB ⟨1, n⟩ = true) := ⟨hs⟩
  obtain ⟨-, n0, n1⟩ := step_iff.1 hs
  simp only [lim, true_or, if_true] at n1
  clear hv hs n0
  go_enter Try.func33, Try.ntmps33
  go_wp2_with fail
  refine (rValidVat_yes bw bs ba sw ss sa so gw gs ga _ HV.out).mono ?_
  rintro e w1 ⟨rfl, hb1⟩
  have HB1 : Kp (Below w.heap.size w w1) := ⟨Below.trans (by repeat (first | refine Below.alloc ?_ (by (try simp) <;> omega) _ | refine bDrewN ?_ _ | refine Below.drew ?_ | exact Below.refl _ _)) (hb1.mono (by (try simp) <;> omega))⟩
  have hz1_0 : w.heap.size < w1.heap.size := by have := hb1.size; (try simp at this); omega
  have hz1_1 : w.heap.size + 1 < w1.heap.size := by have := hb1.size; (try simp at this); omega
  have hz1_2 : w.heap.size + 1 + 1 < w1.heap.size := by have := hb1.size; (try simp at this); omega
  obtain ⟨hc, hf⟩ := bcell hb1
  have c1_0_0 : w1.cell? ⟨w.heap.size, 0, none⟩ = some (.int .i64 bw) := (hc _ _ (by (try simp) <;> omega)).trans (by go_simp)
  have c1_0_1 : w1.cell? ⟨w.heap.size, 1, none⟩ = some (.int .i64 bs) := (hc _ _ (by (try simp) <;> omega)).trans (by go_simp)
  have c1_0_2 : w1.cell? ⟨w.heap.size, 2, none⟩ = some (.int .i64 ba) := (hc _ _ (by (try simp) <;> omega)).trans (by go_simp)
  have c1_0_3 : w1.cell? ⟨w.heap.size, 3, none⟩ = some (.int .i64 sw) := (hc _ _ (by (try simp) <;> omega)).trans (by go_simp)
  have c1_0_4 : w1.cell? ⟨w.heap.size, 4, none⟩ = some (.int .i64 ss) := (hc _ _ (by (try simp) <;> omega)).trans (by go_simp)
  have c1_0_5 : w1.cell? ⟨w.heap.size, 5, none⟩ = some (.int .i64 sa) := (hc _ _ (by (try simp) <;> omega)).trans (by go_simp)
  have c1_0_6 : w1.cell? ⟨w.heap.size, 6, none⟩ = some (.int .i64 so) := (hc _ _ (by (try simp) <;> omega)).trans (by go_simp)
  have c1_0_7 : w1.cell? ⟨w.heap.size, 7, none⟩ = some (.int .i64 gw) := (hc _ _ (by (try simp) <;> omega)).trans (by go_simp)
  have c1_0_8 : w1.cell? ⟨w.heap.size, 8, none⟩ = some (.int .i64 gs) := (hc _ _ (by (try simp) <;> omega)).trans (by go_simp)
  have c1_0_9 : w1.cell? ⟨w.heap.size, 9, none⟩ = some (.int .i64 ga) := (hc _ _ (by (try simp) <;> omega)).trans (by go_simp)
  have z1_0 : ∀ j, w1.frozen? ⟨w.heap.size, j, none⟩ = false := fun j => (hf _ _ (by (try simp) <;> omega)).trans (by go_simp)
  have c1_1_0 : w1.cell? ⟨w.heap.size + 1, 0, none⟩ = some (.int .i64 1) := (hc _ _ (by (try simp) <;> omega)).trans (by go_simp)
  have c1_1_1 : w1.cell? ⟨w.heap.size + 1, 1, none⟩ = some (.int .i64 n) := (hc _ _ (by (try simp) <;> omega)).trans (by go_simp)
  have z1_1 : ∀ j, w1.frozen? ⟨w.heap.size + 1, j, none⟩ = false := fun j => (hf _ _ (by (try simp) <;> omega)).trans (by go_simp)
  have c1_2_0 : w1.cell? ⟨w.heap.size + 1 + 1, 0, none⟩ = some (.int .i64 0) := (hc _ _ (by (try simp) <;> omega)).trans (by go_simp)
  have c1_2_1 : w1.cell? ⟨w.heap.size + 1 + 1, 1, none⟩ = some (.int .i64 0) := (hc _ _ (by (try simp) <;> omega)).trans (by go_simp)
  have c1_2_2 : w1.cell? ⟨w.heap.size + 1 + 1, 2, none⟩ = some (.int .i64 0) := (hc _ _ (by (try simp) <;> omega)).trans (by go_simp)
  have c1_2_3 : w1.cell? ⟨w.heap.size + 1 + 1, 3, none⟩ = some (.int .i64 0) := (hc _ _ (by (try simp) <;> omega)).trans (by go_simp)
  have c1_2_4 : w1.cell? ⟨w.heap.size + 1 + 1, 4, none⟩ = some (.int .i64 0) := (hc _ _ (by (try simp) <;> omega)).trans (by go_simp)
  have c1_2_5 : w1.cell? ⟨w.heap.size + 1 + 1, 5, none⟩ = some (.int .i64 0) := (hc _ _ (by (try simp) <;> omega)).trans (by go_simp)
  have c1_2_6 : w1.cell? ⟨w.heap.size + 1 + 1, 6, none⟩ = some (.int .i64 0) := (hc _ _ (by (try simp) <;> omega)).trans (by go_simp)
  have c1_2_7 : w1.cell? ⟨w.heap.size + 1 + 1, 7, none⟩ = some (.int .i64 0) := (hc _ _ (by (try simp) <;> omega)).trans (by go_simp)
  have c1_2_8 : w1.cell? ⟨w.heap.size + 1 + 1, 8, none⟩ = some (.int .i64 0) := (hc _ _ (by (try simp) <;> omega)).trans (by go_simp)
  have c1_2_9 : w1.cell? ⟨w.heap.size + 1 + 1, 9, none⟩ = some (.int .i64 0) := (hc _ _ (by (try simp) <;> omega)).trans (by go_simp)
  have z1_2 : ∀ j, w1.frozen? ⟨w.heap.size + 1 + 1, j, none⟩ = false := fun j => (hf _ _ (by (try simp) <;> omega)).trans (by go_simp)
  clear hc hf hb1
  go_wp2_with fail
  refine (rvalidStep_yes _ _ _ HS.out).mono ?_
  rintro e w2 ⟨rfl, hb2⟩
  have HB2 : Kp (Below w.heap.size w w2) := ⟨Below.trans (by repeat (first | refine Below.alloc ?_ (by have := HB1.out.size; (try simp) <;> omega) _ | refine bDrewN ?_ _ | refine Below.drew ?_ | exact HB1.out)) (hb2.mono (by have := HB1.out.size; (try simp) <;> omega))⟩
  have hz2_0 : w.heap.size < w2.heap.size := by have := hb2.size; (try simp at this); omega
  have hz2_1 : w.heap.size + 1 < w2.heap.size := by have := hb2.size; (try simp at this); omega
  have hz2_2 : w.heap.size + 1 + 1 < w2.heap.size := by have := hb2.size; (try simp at this); omega
  obtain ⟨hc, hf⟩ := bcell hb2
  have c2_0_0 : w2.cell? ⟨w.heap.size, 0, none⟩ = some (.int .i64 bw) := (hc _ _ (by (try simp) <;> omega)).trans (by go_simp)
  have c2_0_1 : w2.cell? ⟨w.heap.size, 1, none⟩ = some (.int .i64 bs) := (hc _ _ (by (try simp) <;> omega)).trans (by go_simp)
  have c2_0_2 : w2.cell? ⟨w.heap.size, 2, none⟩ = some (.int .i64 ba) := (hc _ _ (by (try simp) <;> omega)).trans (by go_simp)
  have c2_0_3 : w2.cell? ⟨w.heap.size, 3, none⟩ = some (.int .i64 sw) := (hc _ _ (by (try simp) <;> omega)).trans (by go_simp)
  have c2_0_4 : w2.cell? ⟨w.heap.size, 4, none⟩ = some (.int .i64 ss) := (hc _ _ (by (try simp) <;> omega)).trans (by go_simp)
  have c2_0_5 : w2.cell? ⟨w.heap.size, 5, none⟩ = some (.int .i64 sa) := (hc _ _ (by (try simp) <;> omega)).trans (by go_simp)
  have c2_0_6 : w2.cell? ⟨w.heap.size, 6, none⟩ = some (.int .i64 so) := (hc _ _ (by (try simp) <;> omega)).trans (by go_simp)
  have c2_0_7 : w2.cell? ⟨w.heap.size, 7, none⟩ = some (.int .i64 gw) := (hc _ _ (by (try simp) <;> omega)).trans (by go_simp)
  have c2_0_8 : w2.cell? ⟨w.heap.size, 8, none⟩ = some (.int .i64 gs) := (hc _ _ (by (try simp) <;> omega)).trans (by go_simp)
  have c2_0_9 : w2.cell? ⟨w.heap.size, 9, none⟩ = some (.int .i64 ga) := (hc _ _ (by (try simp) <;> omega)).trans (by go_simp)
  have z2_0 : ∀ j, w2.frozen? ⟨w.heap.size, j, none⟩ = false := fun j => (hf _ _ (by (try simp) <;> omega)).trans (by go_simp)
  have c2_1_0 : w2.cell? ⟨w.heap.size + 1, 0, none⟩ = some (.int .i64 1) := (hc _ _ (by (try simp) <;> omega)).trans (by go_simp)
  have c2_1_1 : w2.cell? ⟨w.heap.size + 1, 1, none⟩ = some (.int .i64 n) := (hc _ _ (by (try simp) <;> omega)).trans (by go_simp)
  have z2_1 : ∀ j, w2.frozen? ⟨w.heap.size + 1, j, none⟩ = false := fun j => (hf _ _ (by (try simp) <;> omega)).trans (by go_simp)
  have c2_2_0 : w2.cell? ⟨w.heap.size + 1 + 1, 0, none⟩ = some (.int .i64 0) := (hc _ _ (by (try simp) <;> omega)).trans (by go_simp)
  have c2_2_1 : w2.cell? ⟨w.heap.size + 1 + 1, 1, none⟩ = some (.int .i64 0) := (hc _ _ (by (try simp) <;> omega)).trans (by go_simp)
  have c2_2_2 : w2.cell? ⟨w.heap.size + 1 + 1, 2, none⟩ = some (.int .i64 0) := (hc _ _ (by (try simp) <;> omega)).trans (by go_simp)
  have c2_2_3 : w2.cell? ⟨w.heap.size + 1 + 1, 3, none⟩ = some (.int .i64 0) := (hc _ _ (by (try simp) <;> omega)).trans (by go_simp)
  have c2_2_4 : w2.cell? ⟨w.heap.size + 1 + 1, 4, none⟩ = some (.int .i64 0) := (hc _ _ (by (try simp) <;> omega)).trans (by go_simp)
  have c2_2_5 : w2.cell? ⟨w.heap.size + 1 + 1, 5, none⟩ = some (.int .i64 0) := (hc _ _ (by (try simp) <;> omega)).trans (by go_simp)
  have c2_2_6 : w2.cell? ⟨w.heap.size + 1 + 1, 6, none⟩ = some (.int .i64 0) := (hc _ _ (by (try simp) <;> omega)).trans (by go_simp)
  have c2_2_7 : w2.cell? ⟨w.heap.size + 1 + 1, 7, none⟩ = some (.int .i64 0) := (hc _ _ (by (try simp) <;> omega)).trans (by go_simp)
  have c2_2_8 : w2.cell? ⟨w.heap.size + 1 + 1, 8, none⟩ = some (.int .i64 0) := (hc _ _ (by (try simp) <;> omega)).trans (by go_simp)
  have c2_2_9 : w2.cell? ⟨w.heap.size + 1 + 1, 9, none⟩ = some (.int .i64 0) := (hc _ _ (by (try simp) <;> omega)).trans (by go_simp)
  have z2_2 : ∀ j, w2.frozen? ⟨w.heap.size + 1 + 1, j, none⟩ = false := fun j => (hf _ _ (by (try simp) <;> omega)).trans (by go_simp)
  clear hc hf hb2
  have HI : Kp (VatAt w2 w.heap.size ⟨⟨bw, bs, ba⟩, ⟨sw, ss, sa, so⟩, ⟨gw, gs, ga⟩⟩) := ⟨⟨c2_0_0, c2_0_1, c2_0_2, c2_0_3, c2_0_4, c2_0_5, c2_0_6, c2_0_7, c2_0_8, c2_0_9, z2_0⟩⟩
  have HO : Kp (VatAt w2 (w.heap.size + 1 + 1) zeroV) := ⟨⟨c2_2_0, c2_2_1, c2_2_2, c2_2_3, c2_2_4, c2_2_5, c2_2_6, c2_2_7, c2_2_8, c2_2_9, z2_2⟩⟩
  clear c2_0_0 c2_2_0 c2_0_1 c2_2_1 c2_0_2 c2_2_2 c2_0_3 c2_2_3 c2_0_4 c2_2_4 c2_0_5 c2_2_5 c2_0_6 c2_2_6 c2_0_7 c2_2_7 c2_0_8 c2_2_8 c2_0_9 c2_2_9 z2_0 z2_2
  go_wp2
  obtain ⟨Z, hZ⟩ : ∃ Z, w.heap.size = Z := ⟨_, rfl⟩
  rw [hZ] at HI HO ⊢
  have HZ : Kp (w.heap.size = Z) := ⟨hZ⟩
  clear hZ
  go_loopw [27] (fun i wr => ∃ k : Nat, k ≤ n ∧ i = .int .i64 k ∧ VatAt wr Z (hoursN k ⟨⟨bw, bs, ba⟩, ⟨sw, ss, sa, so⟩, ⟨gw, gs, ga⟩⟩) ∧ VatAt wr (Z + 1 + 1) zeroV ∧ Kp (Below w.heap.size w wr)) (fun i _ => n - (intOf i).toNat)
  case atStart => exact ⟨0, by omega, rfl, HI.out, HO.out, HB2⟩
  case round =>
    obtain ⟨k, hk, rfl, hN, hO, HB⟩ := hrel
    have HO : Kp (VatAt wr (Z + 1 + 1) zeroV) := ⟨hO⟩
    clear hO
    by_cases hlt : k < n
    · have HH : Kp (hoursN (k + 1) ⟨⟨bw, bs, ba⟩, ⟨sw, ss, sa, so⟩, ⟨gw, gs, ga⟩⟩ = hour (hoursN k ⟨⟨bw, bs, ba⟩, ⟨sw, ss, sa, so⟩, ⟨gw, gs, ga⟩⟩)) := ⟨hoursN_succ k _⟩
      have HW : Kp (vatB (hoursN k ⟨⟨bw, bs, ba⟩, ⟨sw, ss, sa, so⟩, ⟨gw, gs, ga⟩⟩) = true) := ⟨hoursN_valid k HV.out⟩
      obtain ⟨u, hu⟩ : ∃ u, hoursN k ⟨⟨bw, bs, ba⟩, ⟨sw, ss, sa, so⟩, ⟨gw, gs, ga⟩⟩ = u := ⟨_, rfl⟩
      rw [hu] at hN HH HW
      clear hu
      obtain ⟨⟨x0, x1, x2⟩, ⟨x3, x4, x5, x6⟩, ⟨x7, x8, x9⟩⟩ := u
      have HN : Kp (VatAt wr Z ⟨⟨x0, x1, x2⟩, ⟨x3, x4, x5, x6⟩, ⟨x7, x8, x9⟩⟩) := ⟨hN⟩
      have hlz := hN.lt
      obtain ⟨a0, a1, a2, a3, a4, a5, a6, a7, a8, a9, az⟩ := hN
      simp only at a0 a1 a2 a3 a4 a5 a6 a7 a8 a9
      have o1 : (k : Int) < (n : Int) := by omega
      go_wp2_with fail
      refine (rHour_yes _ _ _ _ _ _ _ _ _ _ _ HW.out).mono ?_
      obtain ⟨D, hD⟩ : ∃ D, ovr x6 (bal x0 x3 x1 x4 - x4) = D := ⟨_, rfl⟩
      obtain ⟨F, hF⟩ : ∃ F, ovr x6 (bal x0 x3 x2 x5 - x5) = F := ⟨_, rfl⟩
      have HU : Kp (hour ⟨⟨x0, x1, x2⟩, ⟨x3, x4, x5, x6⟩, ⟨x7, x8, x9⟩⟩ = ⟨⟨x0, x1 - D, x2 - F⟩, ⟨x3, x4 + D, x5 + F, x6⟩, ⟨x7, x8, x9⟩⟩) := ⟨by unfold hour; simp only [hD, hF]⟩
      rw [hD, hF]
      clear hD hF
      rintro e w4 ⟨rfl, hb4⟩
      have HN4 : Kp (VatAt w4 Z ⟨⟨x0, x1, x2⟩, ⟨x3, x4, x5, x6⟩, ⟨x7, x8, x9⟩⟩) := ⟨HN.out.same (hb4.block Z hlz)⟩
      have HO4 : Kp (VatAt w4 (Z + 1 + 1) zeroV) := ⟨HO.out.same (hb4.block _ HO.out.lt)⟩
      have HB4 : Kp (Below w.heap.size w w4) := ⟨HB.out.trans (hb4.mono HB.out.size)⟩
      have HN5 : Kp (VatAt (setVat w4 Z ⟨⟨x0, x1 - D, x2 - F⟩, ⟨x3, x4 + D, x5 + F, x6⟩, ⟨x7, x8, x9⟩⟩) Z ⟨⟨x0, x1 - D, x2 - F⟩, ⟨x3, x4 + D, x5 + F, x6⟩, ⟨x7, x8, x9⟩⟩) := ⟨setVat_at HN4.out⟩
      have HO5 : Kp (VatAt (setVat w4 Z ⟨⟨x0, x1 - D, x2 - F⟩, ⟨x3, x4 + D, x5 + F, x6⟩, ⟨x7, x8, x9⟩⟩) (Z + 1 + 1) zeroV) := ⟨setVat_other HO4.out (by omega)⟩
      have HB5 : Kp (Below w.heap.size w (setVat w4 Z ⟨⟨x0, x1 - D, x2 - F⟩, ⟨x3, x4 + D, x5 + F, x6⟩, ⟨x7, x8, x9⟩⟩)) := ⟨HB4.out.grown (setVat_grown w4 Z _) HB4.out.size (fun j e => by simp only [Option.some.injEq] at e; have := HZ.out; omega)⟩
      have hl4 : Z < w4.heap.size := HN4.out.lt
      clear hb4 a0 a1 a2 a3 a4 a5 a6 a7 a8 a9 az HN HO HB
      obtain ⟨a0, a1, a2, a3, a4, a5, a6, a7, a8, a9, az⟩ := HN4.out
      simp only at a0 a1 a2 a3 a4 a5 a6 a7 a8 a9
      unfold setVat at HN5 HO5 HB5
      go_wp2
      go_roundw
      case rel => exact ⟨k + 1, by omega, by go_num, by rw [HH.out, HU.out]; exact (vatAt_alloc HN5.out _), vatAt_alloc HO5.out _, ⟨HB5.out.alloc HB5.out.size _⟩⟩
      case measure => simp [intOf]; omega
    · obtain rfl : k = n := by omega
      rw [HE.out] at hN
      obtain ⟨a0, a1, a2, a3, a4, a5, a6, a7, a8, a9, az⟩ := hN
      simp only at a0 a1 a2 a3 a4 a5 a6 a7 a8 a9
      clear hlt
      go_wp2_with fail
      refine (HC.out _).mono ?_
      rintro e w5 ⟨rfl, hb5⟩
      have HO5 : Kp (VatAt w5 (Z + 1 + 1) zeroV) := ⟨HO.out.same (hb5.block _ HO.out.lt)⟩
      have HB5 : Kp (Below w.heap.size w w5) := ⟨HB.out.trans (hb5.mono HB.out.size)⟩

      clear hb5 a0 a1 a2 a3 a4 a5 a6 a7 a8 a9 az
      obtain ⟨q0, q1, q2, q3, q4, q5, q6, q7, q8, q9, qz⟩ := HO5.out
      simp only [zeroV] at q0 q1 q2 q3 q4 q5 q6 q7 q8 q9
      go_wp2
      refine bodyPost_ret (v := .tuple #[.agg #[.int .i64 r0, .int .i64 r1, .int .i64 r2, .int .i64 r3, .int .i64 r4, .int .i64 r5, .int .i64 r6, .int .i64 r7, .int .i64 r8, .int .i64 r9], .int .i64 E]) ?_ rfl ⟨rfl, ?_⟩
      · simp [results, Try.results33, go_sem, q0, q1, q2, q3, q4, q5, q6, q7, q8, q9]
      · (have hzS := HB5.out.size; have hzz := HZ.out; (repeat (with_reducible first | exact HB5.out | refine Below.setCell ?_ ?_ _ | refine Below.alloc ?_ ?_ _ | refine Below.drew ?_)); all_goals ((try simp) <;> omega))
end Go.Proofs.Ytakldbpfdoeimaa.Bt
