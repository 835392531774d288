/-
  THE WALK of the law BathValid.
-/
import Derived.Test.YtakldbpfdoeimaaBtStepsC
import Derived.Test.YtakldbpfdoeimaaBtAwake
import Derived.Test.YtakldbpfdoeimaaBtRefB
import Derived.Lib.QuietBelow
namespace Go.Proofs.Ytakldbpfdoeimaa.Bt
open Go Go.RowKit Go.Sort

theorem long_yes (g : Option Addr) (c : Nat) (l : List St) (w : World) (h : 300 < l.length) :
    Calls Try.prog 14 #[.slice g l.length c] w fun e w' => e = .returned (.bool true) ∧ w = w' := by
  have h1 : (300 : Int) < (l.length : Int) := by omega
  have h2 : decide (300 < l.length) = true := decide_eq_true h
  go_enter Try.func14, Try.ntmps14
  go_wp2
  go_ret
  exact ⟨rfl, rfl⟩
theorem long_no (g : Option Addr) (c : Nat) (l : List St) (w : World) (h : l.length ≤ 300) :
    Calls Try.prog 14 #[.slice g l.length c] w fun e w' => e = .returned (.bool false) ∧ w = w' := by
  have h1 : ¬ (300 : Int) < (l.length : Int) := by omega
  have h2 : decide (300 < l.length) = false := decide_eq_false (by omega)
  go_enter Try.func14, Try.ntmps14
  go_wp2
  go_ret
  exact ⟨rfl, rfl⟩
theorem lawValid_any (bw bs ba sw ss sa so gw gs ga : Int) (v : Value) (l : List St) (w : World) (hs : RS w v l) (_hm : l.length ≤ maxLen) : Calls Try.prog 3 #[.agg #[.int .i64 bw, .int .i64 bs, .int .i64 ba, .int .i64 sw, .int .i64 ss, .int .i64 sa, .int .i64 so, .int .i64 gw, .int .i64 gs, .int .i64 ga], v] w (Ends w) := by
  obtain ⟨g, c, rfl⟩ := hs.shape
  by_cases hl : 300 < l.length
  · have HL := Lib.hid hl
    clear hl hs
    go_enter Try.func3, Try.ntmps3
    go_wp2_with fail
    refine (long_yes _ _ _ _ HL.out).mono ?_
    rintro e w1 ⟨rfl, rfl⟩
    go_wp2_with fail
    refine (awake_any _).mono ?_
    rintro e w7 ⟨rfl, hb7⟩
    have HB7 : Kp (Below w.heap.size w w7) := ⟨Below.trans (by repeat (first | exact Below.refl _ _ | refine Below.alloc ?_ (by simp <;> omega) _ | refine bDrewN ?_ _ | refine Below.drew ?_)) (hb7.mono (by simp))⟩
    clear hb7
    go_wp2
    go_ret
    exact ⟨rfl, HB7.out⟩
  · have HL : Kp (l.length ≤ 300) := ⟨by omega⟩
    obtain ⟨W1, hW1⟩ : ∃ W1, W1 = w.alloc (.cells #[.int .i64 bw, .int .i64 bs, .int .i64 ba, .int .i64 sw, .int .i64 ss, .int .i64 sa, .int .i64 so, .int .i64 gw, .int .i64 gs, .int .i64 ga] 27) := ⟨_, rfl⟩
    have HBW : Kp (Below w.heap.size w W1) := ⟨by rw [hW1]; exact by repeat (first | exact Below.refl _ _ | refine Below.alloc ?_ (by simp <;> omega) _ | refine bDrewN ?_ _ | refine Below.drew ?_)⟩
    have HZ : Kp (w.heap.size ≤ W1.heap.size) := ⟨HBW.out.size⟩
    have hS := fun W' (h : Below W1.heap.size W1 W') => hs.below (HBW.out.trans (h.mono HZ.out))
    have HS := Lib.hid hS
    have c0_0_0 : (w.alloc (.cells #[.int .i64 bw, .int .i64 bs, .int .i64 ba, .int .i64 sw, .int .i64 ss, .int .i64 sa, .int .i64 so, .int .i64 gw, .int .i64 gs, .int .i64 ga] 27)).cell? ⟨w.heap.size, 0, none⟩ = some (.int .i64 bw) := by go_simp
    have c0_0_1 : (w.alloc (.cells #[.int .i64 bw, .int .i64 bs, .int .i64 ba, .int .i64 sw, .int .i64 ss, .int .i64 sa, .int .i64 so, .int .i64 gw, .int .i64 gs, .int .i64 ga] 27)).cell? ⟨w.heap.size, 1, none⟩ = some (.int .i64 bs) := by go_simp
    have c0_0_2 : (w.alloc (.cells #[.int .i64 bw, .int .i64 bs, .int .i64 ba, .int .i64 sw, .int .i64 ss, .int .i64 sa, .int .i64 so, .int .i64 gw, .int .i64 gs, .int .i64 ga] 27)).cell? ⟨w.heap.size, 2, none⟩ = some (.int .i64 ba) := by go_simp
    have c0_0_3 : (w.alloc (.cells #[.int .i64 bw, .int .i64 bs, .int .i64 ba, .int .i64 sw, .int .i64 ss, .int .i64 sa, .int .i64 so, .int .i64 gw, .int .i64 gs, .int .i64 ga] 27)).cell? ⟨w.heap.size, 3, none⟩ = some (.int .i64 sw) := by go_simp
    have c0_0_4 : (w.alloc (.cells #[.int .i64 bw, .int .i64 bs, .int .i64 ba, .int .i64 sw, .int .i64 ss, .int .i64 sa, .int .i64 so, .int .i64 gw, .int .i64 gs, .int .i64 ga] 27)).cell? ⟨w.heap.size, 4, none⟩ = some (.int .i64 ss) := by go_simp
    have c0_0_5 : (w.alloc (.cells #[.int .i64 bw, .int .i64 bs, .int .i64 ba, .int .i64 sw, .int .i64 ss, .int .i64 sa, .int .i64 so, .int .i64 gw, .int .i64 gs, .int .i64 ga] 27)).cell? ⟨w.heap.size, 5, none⟩ = some (.int .i64 sa) := by go_simp
    have c0_0_6 : (w.alloc (.cells #[.int .i64 bw, .int .i64 bs, .int .i64 ba, .int .i64 sw, .int .i64 ss, .int .i64 sa, .int .i64 so, .int .i64 gw, .int .i64 gs, .int .i64 ga] 27)).cell? ⟨w.heap.size, 6, none⟩ = some (.int .i64 so) := by go_simp
    have c0_0_7 : (w.alloc (.cells #[.int .i64 bw, .int .i64 bs, .int .i64 ba, .int .i64 sw, .int .i64 ss, .int .i64 sa, .int .i64 so, .int .i64 gw, .int .i64 gs, .int .i64 ga] 27)).cell? ⟨w.heap.size, 7, none⟩ = some (.int .i64 gw) := by go_simp
    have c0_0_8 : (w.alloc (.cells #[.int .i64 bw, .int .i64 bs, .int .i64 ba, .int .i64 sw, .int .i64 ss, .int .i64 sa, .int .i64 so, .int .i64 gw, .int .i64 gs, .int .i64 ga] 27)).cell? ⟨w.heap.size, 8, none⟩ = some (.int .i64 gs) := by go_simp
    have c0_0_9 : (w.alloc (.cells #[.int .i64 bw, .int .i64 bs, .int .i64 ba, .int .i64 sw, .int .i64 ss, .int .i64 sa, .int .i64 so, .int .i64 gw, .int .i64 gs, .int .i64 ga] 27)).cell? ⟨w.heap.size, 9, none⟩ = some (.int .i64 ga) := by go_simp
    rw [← hW1] at c0_0_0 c0_0_1 c0_0_2 c0_0_3 c0_0_4 c0_0_5 c0_0_6 c0_0_7 c0_0_8 c0_0_9
    have q0 := fun d os => cell_regrown c0_0_0 d os
    have q1 := fun d os => cell_regrown c0_0_1 d os
    have q2 := fun d os => cell_regrown c0_0_2 d os
    have q3 := fun d os => cell_regrown c0_0_3 d os
    have q4 := fun d os => cell_regrown c0_0_4 d os
    have q5 := fun d os => cell_regrown c0_0_5 d os
    have q6 := fun d os => cell_regrown c0_0_6 d os
    have q7 := fun d os => cell_regrown c0_0_7 d os
    have q8 := fun d os => cell_regrown c0_0_8 d os
    have q9 := fun d os => cell_regrown c0_0_9 d os
    have K1 : Kp (∀ d os, _) := ⟨fun d os => ValidBath_any bw bs ba (grow (redrawn W1 d) os)⟩
    have K2 : Kp (∀ d os, _) := ⟨fun d os => rValidBath_any bw bs ba (grow (redrawn W1 d) os)⟩
    have K3 : Kp (∀ d os, _) := ⟨fun d os => ValidSkin_any sw ss sa so (grow (redrawn W1 d) os)⟩
    have K4 : Kp (∀ d os, _) := ⟨fun d os => rValidSkin_any sw ss sa so (grow (redrawn W1 d) os)⟩
    have K5 : Kp (∀ d os, _) := ⟨fun d os => ValidVat_any bw bs ba sw ss sa so gw gs ga (grow (redrawn W1 d) os)⟩
    have K6 : Kp (∀ d os, _) := ⟨fun d os => rValidVat_any bw bs ba sw ss sa so gw gs ga (grow (redrawn W1 d) os)⟩
    have K7 : Kp (∀ d os, _) := ⟨fun d os => ValidSteps_any (.slice g l.length c) l (grow (redrawn W1 d) os) (HS.out _ (below_regrown W1 d os)) HL.out⟩
    have K8 : Kp (∀ d os, _) := ⟨fun d os => rValidSteps_any (.slice g l.length c) l (grow (redrawn W1 d) os) (HS.out _ (below_regrown W1 d os)) HL.out⟩
    have K9 : Kp (∀ d os, _) := ⟨fun d os => awake_any (grow (redrawn W1 d) os)⟩
    have HW := Lib.hid hW1
    clear hs hS hl hW1 c0_0_0 c0_0_1 c0_0_2 c0_0_3 c0_0_4 c0_0_5 c0_0_6 c0_0_7 c0_0_8 c0_0_9
    go_enter Try.func3, Try.ntmps3
    go_wp2_with fail
    rw [← HW.out]
    refine (long_no _ _ _ _ HL.out).mono ?_
    rintro e w1 ⟨rfl, rfl⟩
    go_wp2_with fail
    refine wp_region_quiet_below (by kernel_rfl) (by kernel_rfl) ?_
    repeat (any_goals (first | go_big_quiet_step (first | (with_reducible exact Calls.regrown_of (K1.out _ _)) | (with_reducible exact Calls.regrown_of (K2.out _ _)) | (with_reducible exact Calls.regrown_of (K3.out _ _)) | (with_reducible exact Calls.regrown_of (K4.out _ _)) | (with_reducible exact Calls.regrown_of (K5.out _ _)) | (with_reducible exact Calls.regrown_of (K6.out _ _)) | (with_reducible exact Calls.regrown_of (K7.out _ _)) | (with_reducible exact Calls.regrown_of (K8.out _ _)) | (with_reducible exact Calls.regrown_of (K9.out _ _))) | quiet_step (first | (with_reducible exact Calls.regrown_of (K1.out _ _)) | (with_reducible exact Calls.regrown_of (K2.out _ _)) | (with_reducible exact Calls.regrown_of (K3.out _ _)) | (with_reducible exact Calls.regrown_of (K4.out _ _)) | (with_reducible exact Calls.regrown_of (K5.out _ _)) | (with_reducible exact Calls.regrown_of (K6.out _ _)) | (with_reducible exact Calls.regrown_of (K7.out _ _)) | (with_reducible exact Calls.regrown_of (K8.out _ _)) | (with_reducible exact Calls.regrown_of (K9.out _ _)))))
    refine wpQuiet_nil ?_
    intro _ hw'
    obtain ⟨⟨dq, osq⟩, hw''⟩ := hw'
    subst hw''
    go_wp2
    go_ret
    exact ⟨rfl, HBW.out.trans ((below_regrown W1 dq osq).mono HZ.out)⟩
end Go.Proofs.Ytakldbpfdoeimaa.Bt
