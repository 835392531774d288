/-
  WALKS (layer 7, scene): a fraction in lowest terms, by the program.
-/
import Derived.Test.YtjnggchljilooaaScAsked
namespace Go.Proofs.Ytjnggchljilooaa.Sc
open Go Go.RowKit

theorem gcd_step {a b : Nat} (hb : 0 < b) : Nat.gcd b (a % b) = Nat.gcd a b := by
  rw [Nat.gcd_comm a b, Nat.gcd_rec b a, Nat.gcd_comm]
set_option maxRecDepth 100000 in
set_option maxHeartbeats 1000000 in
theorem ratio_any (n d : Nat) (w : World) (hn : n ≤ 100000000) (hd : d ≤ 100000000) (h0 : 0 < d) :
    Calls Try.prog 72 #[.int .i64 n, .int .i64 d] w fun e w' => e = .returned (.agg #[.int .i64 (n / Nat.gcd n d : Nat), .int .i64 (d / Nat.gcd n d : Nat)]) ∧ Below w.heap.size w w' := by
  have HG : Kp (0 < Nat.gcd n d ∧ n / Nat.gcd n d ≤ 100000000 ∧ d / Nat.gcd n d ≤ 100000000) := ⟨Nat.gcd_pos_of_pos_right _ h0, Nat.le_trans (Nat.div_le_self _ _) hn, Nat.le_trans (Nat.div_le_self _ _) hd⟩
  have HH : Kp (n ≤ 100000000 ∧ d ≤ 100000000 ∧ 0 < d) := ⟨hn, hd, h0⟩
  clear hn hd h0
  go_enter Try.func72, Try.ntmps72
  go_wp2
  obtain ⟨W1, hW1⟩ : ∃ W, w.alloc (.cells #[.int .i64 0, .int .i64 0] 59) = W := ⟨_, rfl⟩
  have hb1 : Below w.heap.size w W1 ∧ W1.heap.size = w.heap.size + 1 ∧ (∀ j, W1.frozen? ⟨w.heap.size, j, none⟩ = false) ∧ W1.cell? ⟨w.heap.size, 0, none⟩ = some (.int .i64 0) ∧ W1.cell? ⟨w.heap.size, 1, none⟩ = some (.int .i64 0) := by
    subst hW1
    exact ⟨by repeat (first | exact Below.refl _ _ | refine Below.alloc ?_ (by simp <;> omega) _ | refine bDrewN ?_ _ | refine Below.drew ?_), by simp, fun j => by go_simp, by go_simp, by go_simp⟩
  have HB1 := Kp.mk hb1
  rw [hW1]
  clear hW1 hb1
  go_loopw [5, 6] (fun a b wr => ∃ x y : Nat, a = .int .i64 x ∧ b = .int .i64 y ∧ Kp (Nat.gcd x y = Nat.gcd n d ∧ x ≤ 100000000 ∧ y ≤ 100000000) ∧ Kp (Below W1.heap.size W1 wr)) (fun _ b _ => (intOf b).toNat)
  case atStart => exact ⟨d, n, rfl, rfl, ⟨Nat.gcd_comm _ _, HH.out.2.1, HH.out.1⟩, ⟨Below.refl _ _⟩⟩
  case round =>
    obtain ⟨x, y, rfl, rfl, HX, HW⟩ := hrel
    have hz : w.heap.size < W1.heap.size := by have := HB1.out.2.1; omega
    by_cases hlt : 0 < y
    · have o1 : (0 : Int) < (y : Int) := by omega
      have o2 : ¬ (y : Int) = 0 := by omega
      have e1 : IntKind.i64.wrap (((x : Int)).tmod (y : Int)) = ((x % y : Nat) : Int) := by
        rw [Int.tmod_eq_emod_of_nonneg (by omega), ← Int.natCast_emod]
        exact IntWalk.i64_in _ (by have := Nat.mod_le x y; have := HX.out; omega)
      have e2 : ((x : Int)).tmod (y : Int) = ((x % y : Nat) : Int) := by rw [Int.tmod_eq_emod_of_nonneg (by omega), ← Int.natCast_emod]
      have HX2 : Kp (Nat.gcd y (x % y) = Nat.gcd n d ∧ y ≤ 100000000 ∧ x % y ≤ 100000000) := ⟨(gcd_step hlt).trans HX.out.1, HX.out.2.2, Nat.le_trans (Nat.mod_le _ _) HX.out.2.1⟩
      have HM := Kp.mk (Nat.mod_lt x hlt)
      clear hlt
      go_wp2
      go_region
      all_goals
        go_wp2
        exact ⟨⟨y, x % y, rfl, by rw [Int.natCast_emod], HX2, ⟨Below.drew HW.out⟩⟩, by
          show ((x : Int) % (y : Int)).toNat < ((y : Int)).toNat
          rw [← Int.natCast_emod, Int.toNat_natCast, Int.toNat_natCast]
          exact HM.out⟩
    · obtain rfl : y = 0 := by omega
      have hx : x = Nat.gcd n d := by have := HX.out.1; rwa [Nat.gcd_zero_right] at this
      have HXG := Kp.mk hx
      have hx0 : 0 < x := by rw [hx]; exact HG.out.1
      have n0 : ¬ (x : Int) = 0 := by omega
      have e3 : ((n : Int)).tdiv (x : Int) = ((n / x : Nat) : Int) := by rw [Int.tdiv_eq_ediv_of_nonneg (by omega), ← Int.natCast_ediv]
      have e4 : ((d : Int)).tdiv (x : Int) = ((d / x : Nat) : Int) := by rw [Int.tdiv_eq_ediv_of_nonneg (by omega), ← Int.natCast_ediv]
      have hA1 : n / x ≤ 100000000 := Nat.le_trans (Nat.div_le_self _ _) HH.out.1
      have hD1 : d / x ≤ 100000000 := Nat.le_trans (Nat.div_le_self _ _) HH.out.2.1
      have HRS : Kp (n / Nat.gcd n d = n / x ∧ d / Nat.gcd n d = d / x) := ⟨by rw [hx]; exact ⟨rfl, rfl⟩⟩
      obtain ⟨A, hA⟩ : ∃ A, n / x = A := ⟨_, rfl⟩
      obtain ⟨D, hD⟩ : ∃ A, d / x = A := ⟨_, rfl⟩
      rw [hA] at e3 hA1 HRS
      rw [hD] at e4 hD1 HRS
      have e5 : IntKind.i64.wrap (A : Int) = (A : Int) := IntWalk.i64_in _ (by omega)
      have e6 : IntKind.i64.wrap (D : Int) = (D : Int) := IntWalk.i64_in _ (by omega)
      obtain ⟨b0, b1, b2, b3, b4⟩ := HB1.out
      have c0 : wr.cell? ⟨w.heap.size, 0, none⟩ = some (.int .i64 0) := (HW.out.cell (p := ⟨w.heap.size, 0, none⟩) hz).trans b3
      have c1 : wr.cell? ⟨w.heap.size, 1, none⟩ = some (.int .i64 0) := (HW.out.cell (p := ⟨w.heap.size, 1, none⟩) hz).trans b4
      have z0 : wr.frozen? ⟨w.heap.size, 0, none⟩ = false := (World.frozen?_of_block (a := ⟨w.heap.size, 0, none⟩) (HW.out.block _ hz)).trans (b2 0)
      have z1 : wr.frozen? ⟨w.heap.size, 1, none⟩ = false := (World.frozen?_of_block (a := ⟨w.heap.size, 1, none⟩) (HW.out.block _ hz)).trans (b2 1)
      have HBW := Kp.mk (b0.trans (HW.out.mono b0.size))
      clear hx hx0 hlt hA hD hA1 hD1 hz b0 b1 b2 b3 b4
      go_wp2
      go_region
      all_goals
        go_wp2
        exact bodyPost_ret (v := .agg #[.int .i64 A, .int .i64 D]) (by simp [results, Try.results72, go_sem, c0, c1]) rfl ⟨by rw [HRS.out.1, HRS.out.2], by first | exact ((Below.drew HBW.out).setCell (by simp only; omega) _).setCell (by simp only; omega) _ | exact Below.drew ((HBW.out.setCell (by simp only; omega) _).setCell (by simp only; omega) _)⟩
end Go.Proofs.Ytjnggchljilooaa.Sc
