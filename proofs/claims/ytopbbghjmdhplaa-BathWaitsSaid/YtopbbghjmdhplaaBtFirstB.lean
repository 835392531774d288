/-
  WALKS (layer 3, baths): Until and Below, by the program.
-/
import Derived.Test.YtopbbghjmdhplaaBtFirst
namespace Go.Proofs.Ytopbbghjmdhplaa.Bt
open Go Go.RowKit

theorem firstHour_any (bw bs ba sw ss sa so gw gs ga acid most : Int) (f C : Nat) (t : Int → Bool) (w : World) (hf : AskC t f C w) (hfe : ∀ args W, (callFunc f args).run Try.prog W = .ok (.enter f args) W) :
    Calls Try.prog 69 #[.agg #[.int .i64 bw, .int .i64 bs, .int .i64 ba, .int .i64 sw, .int .i64 ss, .int .i64 sa, .int .i64 so, .int .i64 gw, .int .i64 gs, .int .i64 ga], .int .i64 acid, .int .i64 most, .func (.func f) #[] #[.pointer (some ⟨C, 0, none⟩)]] w (FirPost t ⟨⟨bw, bs, ba⟩, ⟨sw, ss, sa, so⟩, ⟨gw, gs, ga⟩⟩ acid most w) := by
  cases hv : vatB ⟨⟨bw, bs, ba⟩, ⟨sw, ss, sa, so⟩, ⟨gw, gs, ga⟩⟩ with
  | false => exact firstHour_inv bw bs ba sw ss sa so gw gs ga acid most f C t w hv
  | true =>
    cases ha : rngB 1000000000 acid with
    | false => exact firstHour_rng1 bw bs ba sw ss sa so gw gs ga acid most f C t w hv ha
    | true =>
      cases hm : rngB 10000 most with
      | false => exact firstHour_rng2 bw bs ba sw ss sa so gw gs ga acid most f C t w hv ha hm
      | true =>
        obtain ⟨m0, m1⟩ := rng_iff.1 hm
        obtain ⟨m, rfl⟩ := Int.eq_ofNat_of_zero_le m0
        exact firstHour_in bw bs ba sw ss sa so gw gs ga acid m f C t w hv ha (by omega) hf hfe
theorem ask_until (acid x : Int) (C : Nat) (w : World) (h : w.cell? ⟨C, 0, none⟩ = some (.int .i64 acid)) :
    Calls Try.prog 70 #[.int .i64 x, .pointer (some ⟨C, 0, none⟩)] w fun e w' => e = .returned (.bool (decide (acid ≤ x))) ∧ w = w' := by
  go_enter Try.func70, Try.ntmps70
  go_wp2
  go_ret
  exact ⟨rfl, rfl⟩
theorem Until_any (bw bs ba sw ss sa so gw gs ga acid most : Int) (w : World) : Calls Try.prog 40 #[.agg #[.int .i64 bw, .int .i64 bs, .int .i64 ba, .int .i64 sw, .int .i64 ss, .int .i64 sa, .int .i64 so, .int .i64 gw, .int .i64 gs, .int .i64 ga], .int .i64 acid, .int .i64 most] w (FirPost (fun x => decide (acid ≤ x)) ⟨⟨bw, bs, ba⟩, ⟨sw, ss, sa, so⟩, ⟨gw, gs, ga⟩⟩ acid most w) := by
  have HQ : Kp (∀ W : World, W.cell? ⟨w.heap.size + 1, 0, none⟩ = some (.int .i64 acid) → Calls Try.prog 69 #[.agg #[.int .i64 bw, .int .i64 bs, .int .i64 ba, .int .i64 sw, .int .i64 ss, .int .i64 sa, .int .i64 so, .int .i64 gw, .int .i64 gs, .int .i64 ga], .int .i64 acid, .int .i64 most, .func (.func 70) #[] #[.pointer (some ⟨w.heap.size + 1, 0, none⟩)]] W (FirPost (fun x => decide (acid ≤ x)) ⟨⟨bw, bs, ba⟩, ⟨sw, ss, sa, so⟩, ⟨gw, gs, ga⟩⟩ acid most W)) :=
    ⟨fun W h => firstHour_any bw bs ba sw ss sa so gw gs ga acid most 70 (w.heap.size + 1) _ W (fun x W' hb => ask_until acid x _ W' ((hb.cell (p := ⟨w.heap.size + 1, 0, none⟩) (World.block_lt_of_cell? _ _ h)).trans h)) (enters_of Try.func70 (by kernel_rfl) rfl)⟩
  go_enter Try.func40, Try.ntmps40
  go_wp2_with fail
  refine (HQ.out _ (by go_simp)).mono ?_
  rintro e w1 ⟨rfl, hb1⟩
  have HB1 : Kp (Below w.heap.size w w1) := ⟨Below.trans (by repeat (first | exact Below.refl _ _ | refine Below.alloc ?_ (by simp <;> omega) _ | refine bDrewN ?_ _ | refine Below.drew ?_)) (hb1.mono (by simp <;> omega))⟩
  clear hb1
  go_wp2
  go_ret2
  exact ⟨rfl, HB1.out⟩
theorem ask_below (acid x : Int) (C : Nat) (w : World) (h : w.cell? ⟨C, 0, none⟩ = some (.int .i64 acid)) :
    Calls Try.prog 72 #[.int .i64 x, .pointer (some ⟨C, 0, none⟩)] w fun e w' => e = .returned (.bool (decide (x ≤ acid))) ∧ w = w' := by
  go_enter Try.func72, Try.ntmps72
  go_wp2
  go_ret
  exact ⟨rfl, rfl⟩
theorem Below_any (bw bs ba sw ss sa so gw gs ga acid most : Int) (w : World) : Calls Try.prog 42 #[.agg #[.int .i64 bw, .int .i64 bs, .int .i64 ba, .int .i64 sw, .int .i64 ss, .int .i64 sa, .int .i64 so, .int .i64 gw, .int .i64 gs, .int .i64 ga], .int .i64 acid, .int .i64 most] w (FirPost (fun x => decide (x ≤ acid)) ⟨⟨bw, bs, ba⟩, ⟨sw, ss, sa, so⟩, ⟨gw, gs, ga⟩⟩ acid most w) := by
  have HQ : Kp (∀ W : World, W.cell? ⟨w.heap.size + 1, 0, none⟩ = some (.int .i64 acid) → Calls Try.prog 69 #[.agg #[.int .i64 bw, .int .i64 bs, .int .i64 ba, .int .i64 sw, .int .i64 ss, .int .i64 sa, .int .i64 so, .int .i64 gw, .int .i64 gs, .int .i64 ga], .int .i64 acid, .int .i64 most, .func (.func 72) #[] #[.pointer (some ⟨w.heap.size + 1, 0, none⟩)]] W (FirPost (fun x => decide (x ≤ acid)) ⟨⟨bw, bs, ba⟩, ⟨sw, ss, sa, so⟩, ⟨gw, gs, ga⟩⟩ acid most W)) :=
    ⟨fun W h => firstHour_any bw bs ba sw ss sa so gw gs ga acid most 72 (w.heap.size + 1) _ W (fun x W' hb => ask_below acid x _ W' ((hb.cell (p := ⟨w.heap.size + 1, 0, none⟩) (World.block_lt_of_cell? _ _ h)).trans h)) (enters_of Try.func72 (by kernel_rfl) rfl)⟩
  go_enter Try.func42, Try.ntmps42
  go_wp2_with fail
  refine (HQ.out _ (by go_simp)).mono ?_
  rintro e w1 ⟨rfl, hb1⟩
  have HB1 : Kp (Below w.heap.size w w1) := ⟨Below.trans (by repeat (first | exact Below.refl _ _ | refine Below.alloc ?_ (by simp <;> omega) _ | refine bDrewN ?_ _ | refine Below.drew ?_)) (hb1.mono (by simp <;> omega))⟩
  clear hb1
  go_wp2
  go_ret2
  exact ⟨rfl, HB1.out⟩
end Go.Proofs.Ytopbbghjmdhplaa.Bt
