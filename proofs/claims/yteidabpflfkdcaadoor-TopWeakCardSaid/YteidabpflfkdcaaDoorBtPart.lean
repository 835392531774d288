/-
  WALKS (layer 3, baths): a bath's parts.
-/
import Derived.Test.YteidabpflfkdcaaDoorBtMixP
import Derived.Test.YteidabpflfkdcaaDoorBtHourB
import Derived.StillTailTactics
import Derived.RegionTactic
import Derived.BigRegion
namespace Go.Proofs.YteidabpflfkdcaaDoor.Bt
open Go Go.RowKit

theorem region_tail {P : Program} {id : Nat} {Q : Exit → Act → World → Prop} {a : Act} {w : World} {l : List Oper} (n : Nat) (hm : P.follows .mixedOrders = true) (hB : Region.lexTailB .any l.toArray n = true)
    (h : ∀ w1, w1 = w.drew → wpStill P l.toArray w1 (fun a' => wpList P l.toArray Q (l.drop n) a' w1) (l.take n) a) : (Code.region id l.toArray true).wp P Q a w :=
  wp_region_still_tail n hm hB (h _ rfl)
theorem part1_any (n t : Int) (b : Nat) (w : World) (hc : w.cell? ⟨b, 0, none⟩ = some (.int .i64 t)) (h0 : 0 ≤ t) (h1 : t ≤ 1000) (h2 : 0 ≤ n) (h3 : n ≤ 1000000000) :
    Calls Tryd.prog 117 #[.int .i64 n, .pointer (some ⟨b, 0, none⟩)] w fun e w' => e = .returned (.int .i64 (part t n)) ∧ w' = w := by
  obtain ⟨m0, m1⟩ := mul_bd h2 h3 h0 h1
  have m2 : n * t ≤ 1000000000000 := m1
  clear m1
  go_enter Tryd.func117, Tryd.ntmps117
  go_wp2
  go_ret
  exact ⟨rfl, rfl⟩
set_option maxHeartbeats 2000000 in
set_option maxRecDepth 100000 in
theorem parted_any (x y z t : Int) (w : World) (h : bathB ⟨x, y, z⟩ = true) (h0 : 0 ≤ t) (h1 : t ≤ 1000) :
    Calls Tryd.prog 108 #[.agg #[.int .i64 x, .int .i64 y, .int .i64 z], .int .i64 t] w fun e w' => e = .returned (.tuple #[.agg #[.int .i64 (part t x), .int .i64 (part t y), .int .i64 (part t z)], .agg #[.int .i64 (x - part t x), .int .i64 (y - part t y), .int .i64 (z - part t z)]]) ∧ Below w.heap.size w w' := by
  obtain ⟨⟨x0, x1⟩, ⟨y0, y1⟩, z0, z1⟩ := bath_iff.1 h
  simp only at x0 x1 y0 y1 z0 z1
  obtain ⟨p0, p1⟩ := part_bd h0 h1 x0
  obtain ⟨p2, p3⟩ := part_bd h0 h1 y0
  obtain ⟨p4, p5⟩ := part_bd h0 h1 z0
  clear h
  go_enter Tryd.func108, Tryd.ntmps108
  go_wp2
  refine region_tail 13 (by kernel_rfl) (by kernel_rfl) ?_
  intro w1 hw1
  have HW : Kp (w1 = ((((w.alloc (.cells #[.int .i64 x, .int .i64 y, .int .i64 z] 23)).alloc (.cells #[.int .i64 t] 3)).alloc (.cells #[.int .i64 0, .int .i64 0, .int .i64 0] 23)).alloc (.cells #[.int .i64 0, .int .i64 0, .int .i64 0] 23)).drew) := ⟨hw1⟩
  have c0 : w1.cell? ⟨w.heap.size, 0, none⟩ = some (.int .i64 x) := by rw [hw1]; go_simp
  have c1 : w1.cell? ⟨w.heap.size, 1, none⟩ = some (.int .i64 y) := by rw [hw1]; go_simp
  have c2 : w1.cell? ⟨w.heap.size, 2, none⟩ = some (.int .i64 z) := by rw [hw1]; go_simp
  have c3 : w1.cell? ⟨w.heap.size + 1, 0, none⟩ = some (.int .i64 t) := by rw [hw1]; go_simp
  clear hw1
  simp only [List.take_succ_cons, List.take_zero, List.drop_succ_cons, List.drop_zero]
  repeat still_step
  still_call (part1_any x t _ _ (by assumption) h0 h1 x0 x1)
  repeat still_step
  still_call (part1_any y t _ _ (by assumption) h0 h1 y0 y1)
  repeat still_step
  still_call (part1_any z t _ _ (by assumption) h0 h1 z0 z1)
  repeat still_step
  refine wpStill_nil ?_
  change wpList _ _ _ _ _ _
  clear c0 c1 c2 c3
  obtain rfl := HW.out
  clear HW
  go_wp2
  go_region
  all_goals
    go_wp2
    refine bodyPost_ret (v := .tuple #[.agg #[.int .i64 (part t x), .int .i64 (part t y), .int .i64 (part t z)], .agg #[.int .i64 (x - part t x), .int .i64 (y - part t y), .int .i64 (z - part t z)]]) ?_ rfl ⟨rfl, ?_⟩
    · simp [results, Tryd.results108, go_sem]
    · exact by repeat (first | exact Below.refl _ _ | refine Below.alloc ?_ (by simp <;> omega) _ | refine bDrewN ?_ _ | refine Below.drew ?_)
end Go.Proofs.YteidabpflfkdcaaDoor.Bt
