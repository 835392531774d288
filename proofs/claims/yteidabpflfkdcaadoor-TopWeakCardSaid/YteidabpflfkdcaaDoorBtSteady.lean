/-
  WALKS (layer 3, baths), hours: Steady.
-/
import Derived.Test.YteidabpflfkdcaaDoorBtHourB
import Derived.Lib.QuietBelow
namespace Go.Proofs.YteidabpflfkdcaaDoor.Bt
open Go Go.RowKit Go.Sort

theorem steady_iff (bw bs ba sw ss sa so gw gs ga : Int) : hour ⟨⟨bw, bs, ba⟩, ⟨sw, ss, sa, so⟩, ⟨gw, gs, ga⟩⟩ = ⟨⟨bw, bs, ba⟩, ⟨sw, ss, sa, so⟩, ⟨gw, gs, ga⟩⟩ ↔ ovr so (bal bw sw bs ss - ss) = 0 ∧ ovr so (bal bw sw ba sa - sa) = 0 := by
  constructor
  · intro h
    have h1 := congrArg (fun v => v.b.s) h
    have h2 := congrArg (fun v => v.b.a) h
    simp only [hour] at h1 h2
    omega
  · rintro ⟨h1, h2⟩
    unfold hour
    simp only [h1, h2, Int.sub_zero, Int.add_zero]
/-- Whether an hour changes nothing. -/
def steadyB (v : Va) : Bool := decide (hour v = v)
theorem Steady_yes (bw bs ba sw ss sa so gw gs ga : Int) (w : World) (h : vatB ⟨⟨bw, bs, ba⟩, ⟨sw, ss, sa, so⟩, ⟨gw, gs, ga⟩⟩ = true) :
    Calls Tryd.prog 10 #[.agg #[.int .i64 bw, .int .i64 bs, .int .i64 ba, .int .i64 sw, .int .i64 ss, .int .i64 sa, .int .i64 so, .int .i64 gw, .int .i64 gs, .int .i64 ga]] w fun e w' => e = .returned (.tuple #[.bool (steadyB ⟨⟨bw, bs, ba⟩, ⟨sw, ss, sa, so⟩, ⟨gw, gs, ga⟩⟩), .int .i64 0]) ∧ Below w.heap.size w w' := by
  have HI := Lib.hid (steady_iff bw bs ba sw ss sa so gw gs ga)
  have HQ : Kp (∀ W : World, Calls Tryd.prog 31 #[.agg #[.int .i64 bw, .int .i64 bs, .int .i64 ba, .int .i64 sw, .int .i64 ss, .int .i64 sa, .int .i64 so, .int .i64 gw, .int .i64 gs, .int .i64 ga]] W fun e w' => e = .returned (.agg #[.int .i64 bw, .int .i64 (bs - ovr so (bal bw sw bs ss - ss)), .int .i64 (ba - ovr so (bal bw sw ba sa - sa)), .int .i64 sw, .int .i64 (ss + ovr so (bal bw sw bs ss - ss)), .int .i64 (sa + ovr so (bal bw sw ba sa - sa)), .int .i64 so, .int .i64 gw, .int .i64 gs, .int .i64 ga]) ∧ Below W.heap.size W w') := ⟨fun W => afterHour_any bw bs ba sw ss sa so gw gs ga W h⟩
  obtain ⟨D, hD⟩ : ∃ D, ovr so (bal bw sw bs ss - ss) = D := ⟨_, rfl⟩
  obtain ⟨E, hE⟩ : ∃ E, ovr so (bal bw sw ba sa - sa) = E := ⟨_, rfl⟩
  rw [hD, hE] at HI HQ
  clear hD hE
  have HV : Kp (vatB ⟨⟨bw, bs, ba⟩, ⟨sw, ss, sa, so⟩, ⟨gw, gs, ga⟩⟩ = true) := ⟨h⟩
  obtain ⟨R, hR⟩ : ∃ R, steadyB ⟨⟨bw, bs, ba⟩, ⟨sw, ss, sa, so⟩, ⟨gw, gs, ga⟩⟩ = R := ⟨_, rfl⟩
  rw [hR]
  have HR : Kp (steadyB ⟨⟨bw, bs, ba⟩, ⟨sw, ss, sa, so⟩, ⟨gw, gs, ga⟩⟩ = R) := ⟨hR⟩
  clear h hR
  by_cases d0 : D = 0
  · by_cases e0 : E = 0
    · obtain rfl : R = true := by rw [← HR.out]; exact decide_eq_true (HI.out.2 ⟨d0, e0⟩)
      clear HI
      subst d0 e0
      go_enter Tryd.func10, Tryd.ntmps10
      go_wp2_with fail
      refine (ValidVat_yes bw bs ba sw ss sa so gw gs ga _ HV.out).mono ?_
      rintro e w1 ⟨rfl, hb1⟩
      have HB1 : Kp (Below w.heap.size w w1) := ⟨Below.trans (by repeat (first | exact Below.refl _ _ | refine Below.alloc ?_ (by simp <;> omega) _ | refine bDrewN ?_ _ | refine Below.drew ?_)) (hb1.mono (by simp <;> omega))⟩
      have hz1 : w.heap.size < w1.heap.size := by have := hb1.size; simp at this; omega
      obtain ⟨hc, hf⟩ := bcell hb1
      have c1_0_0 : w1.cell? ⟨w.heap.size, 0, none⟩ = some (.int .i64 bw) := (hc _ _ (by simp <;> omega)).trans (by go_simp)
      have c1_0_1 : w1.cell? ⟨w.heap.size, 1, none⟩ = some (.int .i64 bs) := (hc _ _ (by simp <;> omega)).trans (by go_simp)
      have c1_0_2 : w1.cell? ⟨w.heap.size, 2, none⟩ = some (.int .i64 ba) := (hc _ _ (by simp <;> omega)).trans (by go_simp)
      have c1_0_3 : w1.cell? ⟨w.heap.size, 3, none⟩ = some (.int .i64 sw) := (hc _ _ (by simp <;> omega)).trans (by go_simp)
      have c1_0_4 : w1.cell? ⟨w.heap.size, 4, none⟩ = some (.int .i64 ss) := (hc _ _ (by simp <;> omega)).trans (by go_simp)
      have c1_0_5 : w1.cell? ⟨w.heap.size, 5, none⟩ = some (.int .i64 sa) := (hc _ _ (by simp <;> omega)).trans (by go_simp)
      have c1_0_6 : w1.cell? ⟨w.heap.size, 6, none⟩ = some (.int .i64 so) := (hc _ _ (by simp <;> omega)).trans (by go_simp)
      have c1_0_7 : w1.cell? ⟨w.heap.size, 7, none⟩ = some (.int .i64 gw) := (hc _ _ (by simp <;> omega)).trans (by go_simp)
      have c1_0_8 : w1.cell? ⟨w.heap.size, 8, none⟩ = some (.int .i64 gs) := (hc _ _ (by simp <;> omega)).trans (by go_simp)
      have c1_0_9 : w1.cell? ⟨w.heap.size, 9, none⟩ = some (.int .i64 ga) := (hc _ _ (by simp <;> omega)).trans (by go_simp)
      have z1_0 : ∀ j, w1.frozen? ⟨w.heap.size, j, none⟩ = false := fun j => (hf _ _ (by simp <;> omega)).trans (by go_simp)
      clear hc hf hb1
      have HG : Kp (∀ d os, _) := ⟨fun d os => HQ.out (grow (redrawn w1 d) os)⟩
      have q1_0 := fun d os => cell_regrown c1_0_0 d os
      have q1_1 := fun d os => cell_regrown c1_0_1 d os
      have q1_2 := fun d os => cell_regrown c1_0_2 d os
      have q1_3 := fun d os => cell_regrown c1_0_3 d os
      have q1_4 := fun d os => cell_regrown c1_0_4 d os
      have q1_5 := fun d os => cell_regrown c1_0_5 d os
      have q1_6 := fun d os => cell_regrown c1_0_6 d os
      have q1_7 := fun d os => cell_regrown c1_0_7 d os
      have q1_8 := fun d os => cell_regrown c1_0_8 d os
      have q1_9 := fun d os => cell_regrown c1_0_9 d os
      go_wp2_with fail
      refine wp_region_quiet_below (by kernel_rfl) (by kernel_rfl) ?_
      repeat (any_goals (first | go_big_quiet_step (with_reducible exact Calls.regrown_of (HG.out _ _)) | quiet_step (with_reducible exact Calls.regrown_of (HG.out _ _))))
      refine wpQuiet_nil ?_
      intro _ hw'
      obtain ⟨⟨dq, osq⟩, hw''⟩ := hw'
      subst hw''
      go_wp2
      go_ret2
      exact ⟨rfl, HB1.out.trans ((below_regrown w1 dq osq).mono HB1.out.size)⟩
    · obtain rfl : R = false := by rw [← HR.out]; exact decide_eq_false (fun h => e0 (HI.out.1 h).2)
      clear HI
      subst d0
      have g1 : (ba - E == ba) = false := by rw [beq_eq_false_iff_ne]; omega
      clear e0
      go_enter Tryd.func10, Tryd.ntmps10
      go_wp2_with fail
      refine (ValidVat_yes bw bs ba sw ss sa so gw gs ga _ HV.out).mono ?_
      rintro e w1 ⟨rfl, hb1⟩
      have HB1 : Kp (Below w.heap.size w w1) := ⟨Below.trans (by repeat (first | exact Below.refl _ _ | refine Below.alloc ?_ (by simp <;> omega) _ | refine bDrewN ?_ _ | refine Below.drew ?_)) (hb1.mono (by simp <;> omega))⟩
      have hz1 : w.heap.size < w1.heap.size := by have := hb1.size; simp at this; omega
      obtain ⟨hc, hf⟩ := bcell hb1
      have c1_0_0 : w1.cell? ⟨w.heap.size, 0, none⟩ = some (.int .i64 bw) := (hc _ _ (by simp <;> omega)).trans (by go_simp)
      have c1_0_1 : w1.cell? ⟨w.heap.size, 1, none⟩ = some (.int .i64 bs) := (hc _ _ (by simp <;> omega)).trans (by go_simp)
      have c1_0_2 : w1.cell? ⟨w.heap.size, 2, none⟩ = some (.int .i64 ba) := (hc _ _ (by simp <;> omega)).trans (by go_simp)
      have c1_0_3 : w1.cell? ⟨w.heap.size, 3, none⟩ = some (.int .i64 sw) := (hc _ _ (by simp <;> omega)).trans (by go_simp)
      have c1_0_4 : w1.cell? ⟨w.heap.size, 4, none⟩ = some (.int .i64 ss) := (hc _ _ (by simp <;> omega)).trans (by go_simp)
      have c1_0_5 : w1.cell? ⟨w.heap.size, 5, none⟩ = some (.int .i64 sa) := (hc _ _ (by simp <;> omega)).trans (by go_simp)
      have c1_0_6 : w1.cell? ⟨w.heap.size, 6, none⟩ = some (.int .i64 so) := (hc _ _ (by simp <;> omega)).trans (by go_simp)
      have c1_0_7 : w1.cell? ⟨w.heap.size, 7, none⟩ = some (.int .i64 gw) := (hc _ _ (by simp <;> omega)).trans (by go_simp)
      have c1_0_8 : w1.cell? ⟨w.heap.size, 8, none⟩ = some (.int .i64 gs) := (hc _ _ (by simp <;> omega)).trans (by go_simp)
      have c1_0_9 : w1.cell? ⟨w.heap.size, 9, none⟩ = some (.int .i64 ga) := (hc _ _ (by simp <;> omega)).trans (by go_simp)
      have z1_0 : ∀ j, w1.frozen? ⟨w.heap.size, j, none⟩ = false := fun j => (hf _ _ (by simp <;> omega)).trans (by go_simp)
      clear hc hf hb1
      have HG : Kp (∀ d os, _) := ⟨fun d os => HQ.out (grow (redrawn w1 d) os)⟩
      have q1_0 := fun d os => cell_regrown c1_0_0 d os
      have q1_1 := fun d os => cell_regrown c1_0_1 d os
      have q1_2 := fun d os => cell_regrown c1_0_2 d os
      have q1_3 := fun d os => cell_regrown c1_0_3 d os
      have q1_4 := fun d os => cell_regrown c1_0_4 d os
      have q1_5 := fun d os => cell_regrown c1_0_5 d os
      have q1_6 := fun d os => cell_regrown c1_0_6 d os
      have q1_7 := fun d os => cell_regrown c1_0_7 d os
      have q1_8 := fun d os => cell_regrown c1_0_8 d os
      have q1_9 := fun d os => cell_regrown c1_0_9 d os
      go_wp2_with fail
      refine wp_region_quiet_below (by kernel_rfl) (by kernel_rfl) ?_
      repeat (any_goals (first | go_big_quiet_step (with_reducible exact Calls.regrown_of (HG.out _ _)) | quiet_step (with_reducible exact Calls.regrown_of (HG.out _ _))))
      refine wpQuiet_nil ?_
      intro _ hw'
      obtain ⟨⟨dq, osq⟩, hw''⟩ := hw'
      subst hw''
      go_wp2
      go_ret2
      exact ⟨rfl, HB1.out.trans ((below_regrown w1 dq osq).mono HB1.out.size)⟩
  · obtain rfl : R = false := by rw [← HR.out]; exact decide_eq_false (fun h => d0 (HI.out.1 h).1)
    clear HI
    have g1 : (bs - D == bs) = false := by rw [beq_eq_false_iff_ne]; omega
    clear d0
    go_enter Tryd.func10, Tryd.ntmps10
    go_wp2_with fail
    refine (ValidVat_yes bw bs ba sw ss sa so gw gs ga _ HV.out).mono ?_
    rintro e w1 ⟨rfl, hb1⟩
    have HB1 : Kp (Below w.heap.size w w1) := ⟨Below.trans (by repeat (first | exact Below.refl _ _ | refine Below.alloc ?_ (by simp <;> omega) _ | refine bDrewN ?_ _ | refine Below.drew ?_)) (hb1.mono (by simp <;> omega))⟩
    have hz1 : w.heap.size < w1.heap.size := by have := hb1.size; simp at this; omega
    obtain ⟨hc, hf⟩ := bcell hb1
    have c1_0_0 : w1.cell? ⟨w.heap.size, 0, none⟩ = some (.int .i64 bw) := (hc _ _ (by simp <;> omega)).trans (by go_simp)
    have c1_0_1 : w1.cell? ⟨w.heap.size, 1, none⟩ = some (.int .i64 bs) := (hc _ _ (by simp <;> omega)).trans (by go_simp)
    have c1_0_2 : w1.cell? ⟨w.heap.size, 2, none⟩ = some (.int .i64 ba) := (hc _ _ (by simp <;> omega)).trans (by go_simp)
    have c1_0_3 : w1.cell? ⟨w.heap.size, 3, none⟩ = some (.int .i64 sw) := (hc _ _ (by simp <;> omega)).trans (by go_simp)
    have c1_0_4 : w1.cell? ⟨w.heap.size, 4, none⟩ = some (.int .i64 ss) := (hc _ _ (by simp <;> omega)).trans (by go_simp)
    have c1_0_5 : w1.cell? ⟨w.heap.size, 5, none⟩ = some (.int .i64 sa) := (hc _ _ (by simp <;> omega)).trans (by go_simp)
    have c1_0_6 : w1.cell? ⟨w.heap.size, 6, none⟩ = some (.int .i64 so) := (hc _ _ (by simp <;> omega)).trans (by go_simp)
    have c1_0_7 : w1.cell? ⟨w.heap.size, 7, none⟩ = some (.int .i64 gw) := (hc _ _ (by simp <;> omega)).trans (by go_simp)
    have c1_0_8 : w1.cell? ⟨w.heap.size, 8, none⟩ = some (.int .i64 gs) := (hc _ _ (by simp <;> omega)).trans (by go_simp)
    have c1_0_9 : w1.cell? ⟨w.heap.size, 9, none⟩ = some (.int .i64 ga) := (hc _ _ (by simp <;> omega)).trans (by go_simp)
    have z1_0 : ∀ j, w1.frozen? ⟨w.heap.size, j, none⟩ = false := fun j => (hf _ _ (by simp <;> omega)).trans (by go_simp)
    clear hc hf hb1
    have HG : Kp (∀ d os, _) := ⟨fun d os => HQ.out (grow (redrawn w1 d) os)⟩
    have q1_0 := fun d os => cell_regrown c1_0_0 d os
    have q1_1 := fun d os => cell_regrown c1_0_1 d os
    have q1_2 := fun d os => cell_regrown c1_0_2 d os
    have q1_3 := fun d os => cell_regrown c1_0_3 d os
    have q1_4 := fun d os => cell_regrown c1_0_4 d os
    have q1_5 := fun d os => cell_regrown c1_0_5 d os
    have q1_6 := fun d os => cell_regrown c1_0_6 d os
    have q1_7 := fun d os => cell_regrown c1_0_7 d os
    have q1_8 := fun d os => cell_regrown c1_0_8 d os
    have q1_9 := fun d os => cell_regrown c1_0_9 d os
    go_wp2_with fail
    refine wp_region_quiet_below (by kernel_rfl) (by kernel_rfl) ?_
    repeat (any_goals (first | go_big_quiet_step (with_reducible exact Calls.regrown_of (HG.out _ _)) | quiet_step (with_reducible exact Calls.regrown_of (HG.out _ _))))
    refine wpQuiet_nil ?_
    intro _ hw'
    obtain ⟨⟨dq, osq⟩, hw''⟩ := hw'
    subst hw''
    go_wp2
    go_ret2
    exact ⟨rfl, HB1.out.trans ((below_regrown w1 dq osq).mono HB1.out.size)⟩
theorem Steady_no (bw bs ba sw ss sa so gw gs ga : Int) (w : World) (h : vatB ⟨⟨bw, bs, ba⟩, ⟨sw, ss, sa, so⟩, ⟨gw, gs, ga⟩⟩ = false) :
    Calls Tryd.prog 10 #[.agg #[.int .i64 bw, .int .i64 bs, .int .i64 ba, .int .i64 sw, .int .i64 ss, .int .i64 sa, .int .i64 so, .int .i64 gw, .int .i64 gs, .int .i64 ga]] w fun e w' => e = .returned (.tuple #[.bool false, .int .i64 1]) ∧ Below w.heap.size w w' := by
  have HV : Kp (vatB ⟨⟨bw, bs, ba⟩, ⟨sw, ss, sa, so⟩, ⟨gw, gs, ga⟩⟩ = false) := ⟨h⟩
  clear h
  go_enter Tryd.func10, Tryd.ntmps10
  go_wp2_with fail
  refine (ValidVat_no bw bs ba sw ss sa so gw gs ga _ HV.out).mono ?_
  rintro e w1 ⟨rfl, hb1⟩
  have HB1 : Kp (Below w.heap.size w w1) := ⟨Below.trans (by repeat (first | exact Below.refl _ _ | refine Below.alloc ?_ (by simp <;> omega) _ | refine bDrewN ?_ _ | refine Below.drew ?_)) (hb1.mono (by simp <;> omega))⟩
  have hz1 : w.heap.size < w1.heap.size := by have := hb1.size; simp at this; omega
  obtain ⟨hc, hf⟩ := bcell hb1
  have c1_0_0 : w1.cell? ⟨w.heap.size, 0, none⟩ = some (.int .i64 bw) := (hc _ _ (by simp <;> omega)).trans (by go_simp)
  have c1_0_1 : w1.cell? ⟨w.heap.size, 1, none⟩ = some (.int .i64 bs) := (hc _ _ (by simp <;> omega)).trans (by go_simp)
  have c1_0_2 : w1.cell? ⟨w.heap.size, 2, none⟩ = some (.int .i64 ba) := (hc _ _ (by simp <;> omega)).trans (by go_simp)
  have c1_0_3 : w1.cell? ⟨w.heap.size, 3, none⟩ = some (.int .i64 sw) := (hc _ _ (by simp <;> omega)).trans (by go_simp)
  have c1_0_4 : w1.cell? ⟨w.heap.size, 4, none⟩ = some (.int .i64 ss) := (hc _ _ (by simp <;> omega)).trans (by go_simp)
  have c1_0_5 : w1.cell? ⟨w.heap.size, 5, none⟩ = some (.int .i64 sa) := (hc _ _ (by simp <;> omega)).trans (by go_simp)
  have c1_0_6 : w1.cell? ⟨w.heap.size, 6, none⟩ = some (.int .i64 so) := (hc _ _ (by simp <;> omega)).trans (by go_simp)
  have c1_0_7 : w1.cell? ⟨w.heap.size, 7, none⟩ = some (.int .i64 gw) := (hc _ _ (by simp <;> omega)).trans (by go_simp)
  have c1_0_8 : w1.cell? ⟨w.heap.size, 8, none⟩ = some (.int .i64 gs) := (hc _ _ (by simp <;> omega)).trans (by go_simp)
  have c1_0_9 : w1.cell? ⟨w.heap.size, 9, none⟩ = some (.int .i64 ga) := (hc _ _ (by simp <;> omega)).trans (by go_simp)
  have z1_0 : ∀ j, w1.frozen? ⟨w.heap.size, j, none⟩ = false := fun j => (hf _ _ (by simp <;> omega)).trans (by go_simp)
  clear hc hf hb1
  go_wp2
  go_ret2
  exact ⟨rfl, HB1.out⟩
end Go.Proofs.YteidabpflfkdcaaDoor.Bt
