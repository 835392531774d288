/-
  WALKS (layer 8, pest): houses that are not valid.
-/
import Derived.Test.YthkamfjjfkpekaaPeValid
namespace Go.Proofs.Ythkamfjjfkpekaa.Pe
open Go Go.RowKit Go.Proofs Go.Sort

set_option maxRecDepth 100000 in
set_option maxHeartbeats 2000000 in
theorem Valid_no1 (R x y : Int) (g : Option Addr) (M c : Nat) (w : World) (h : setB R x = false) : Calls Try.prog 19 #[.agg #[.int .i64 R, .slice g M c, .int .i64 x, .int .i64 y]] w fun e w' => e = .returned (.bool false) ∧ Below w.heap.size w w' := by
  have HI : Kp (∀ W, Calls Try.prog 62 #[.agg #[.int .i64 R, .slice g M c, .int .i64 x, .int .i64 y], .int .i64 x] W fun e w' => e = .returned (.bool false) ∧ Below W.heap.size W w') := ⟨fun W => h ▸ isSet_any R x y x g M c W⟩
  clear h
  go_enter Try.func19, Try.ntmps19
  go_wp2_with fail
  obtain ⟨w1, hw1⟩ : ∃ W, w.alloc (.cells #[.int .i64 R, .slice g M c, .int .i64 x, .int .i64 y] 24) = W := ⟨_, rfl⟩
  have HB1 : Kp (Below w.heap.size w w1) := ⟨by rw [← hw1]; exact by repeat (first | exact Below.refl _ _ | refine Below.alloc ?_ (by simp <;> omega) _ | refine bDrewN ?_ _ | refine Below.drew ?_)⟩
  have c0 : w1.cell? ⟨w.heap.size, 0, none⟩ = some (.int .i64 R) := by rw [← hw1]; first | (simp; done) | (simp; go_simp; done) | (go_simp; done)
  have c1 : w1.cell? ⟨w.heap.size, 1, none⟩ = some (.slice g M c) := by rw [← hw1]; first | (simp; done) | (simp; go_simp; done) | (go_simp; done)
  have c2 : w1.cell? ⟨w.heap.size, 2, none⟩ = some (.int .i64 x) := by rw [← hw1]; first | (simp; done) | (simp; go_simp; done) | (go_simp; done)
  have c3 : w1.cell? ⟨w.heap.size, 3, none⟩ = some (.int .i64 y) := by rw [← hw1]; first | (simp; done) | (simp; go_simp; done) | (go_simp; done)
  rw [hw1]
  clear hw1
  have rg_c0 := fun d os => cell_regrown c0 d os
  have rg_c1 := fun d os => cell_regrown c1 d os
  have rg_c2 := fun d os => cell_regrown c2 d os
  have rg_c3 := fun d os => cell_regrown c3 d os
  have K1 : Kp (∀ d os, _) := ⟨fun d os => HI.out (grow (redrawn w1 d) os)⟩
  clear c0 c1 c2 c3 HI
  refine wp_region_quiet_below (by kernel_rfl) (by kernel_rfl) ?_
  repeat (any_goals (first | go_big_quiet_step (first | (with_reducible exact Calls.regrown_of (K1.out _ _))) | quiet_step (first | (with_reducible exact Calls.regrown_of (K1.out _ _)))))
  refine wpQuiet_nil ?_
  intro _ hqw
  obtain ⟨⟨dq, osq⟩, hqv⟩ := hqw
  subst hqv
  obtain ⟨wq, hqwq⟩ : ∃ wq, grow (redrawn (w1) dq) osq = wq := ⟨_, rfl⟩
  have hbwq : Below (w1).heap.size (w1) wq := by rw [← hqwq]; exact below_regrown _ dq osq
  rw [hqwq]
  clear hqwq
  have HBQ := Kp.mk (HB1.out.trans (hbwq.mono HB1.out.size))
  clear hbwq
  go_wp2
  go_ret
  exact ⟨rfl, HBQ.out⟩
set_option maxRecDepth 100000 in
set_option maxHeartbeats 2000000 in
theorem Valid_no2 (R x y : Int) (g : Option Addr) (M c : Nat) (w : World) (h : setB R x = true) (h2 : setB R y = false) : Calls Try.prog 19 #[.agg #[.int .i64 R, .slice g M c, .int .i64 x, .int .i64 y]] w fun e w' => e = .returned (.bool false) ∧ Below w.heap.size w w' := by
  have HI : Kp (∀ W, Calls Try.prog 62 #[.agg #[.int .i64 R, .slice g M c, .int .i64 x, .int .i64 y], .int .i64 x] W fun e w' => e = .returned (.bool true) ∧ Below W.heap.size W w') := ⟨fun W => h ▸ isSet_any R x y x g M c W⟩
  have HJ : Kp (∀ W, Calls Try.prog 62 #[.agg #[.int .i64 R, .slice g M c, .int .i64 x, .int .i64 y], .int .i64 y] W fun e w' => e = .returned (.bool false) ∧ Below W.heap.size W w') := ⟨fun W => h2 ▸ isSet_any R x y y g M c W⟩
  clear h2
  clear h
  go_enter Try.func19, Try.ntmps19
  go_wp2_with fail
  obtain ⟨w1, hw1⟩ : ∃ W, w.alloc (.cells #[.int .i64 R, .slice g M c, .int .i64 x, .int .i64 y] 24) = W := ⟨_, rfl⟩
  have HB1 : Kp (Below w.heap.size w w1) := ⟨by rw [← hw1]; exact by repeat (first | exact Below.refl _ _ | refine Below.alloc ?_ (by simp <;> omega) _ | refine bDrewN ?_ _ | refine Below.drew ?_)⟩
  have c0 : w1.cell? ⟨w.heap.size, 0, none⟩ = some (.int .i64 R) := by rw [← hw1]; first | (simp; done) | (simp; go_simp; done) | (go_simp; done)
  have c1 : w1.cell? ⟨w.heap.size, 1, none⟩ = some (.slice g M c) := by rw [← hw1]; first | (simp; done) | (simp; go_simp; done) | (go_simp; done)
  have c2 : w1.cell? ⟨w.heap.size, 2, none⟩ = some (.int .i64 x) := by rw [← hw1]; first | (simp; done) | (simp; go_simp; done) | (go_simp; done)
  have c3 : w1.cell? ⟨w.heap.size, 3, none⟩ = some (.int .i64 y) := by rw [← hw1]; first | (simp; done) | (simp; go_simp; done) | (go_simp; done)
  rw [hw1]
  clear hw1
  have rg_c0 := fun d os => cell_regrown c0 d os
  have rg_c1 := fun d os => cell_regrown c1 d os
  have rg_c2 := fun d os => cell_regrown c2 d os
  have rg_c3 := fun d os => cell_regrown c3 d os
  have K1 : Kp (∀ d os, _) := ⟨fun d os => HI.out (grow (redrawn w1 d) os)⟩
  have K2 : Kp (∀ d os, _) := ⟨fun d os => HJ.out (grow (redrawn w1 d) os)⟩
  clear HJ
  clear c0 c1 c2 c3 HI
  refine wp_region_quiet_below (by kernel_rfl) (by kernel_rfl) ?_
  repeat (any_goals (first | go_big_quiet_step (first | (with_reducible exact Calls.regrown_of (K1.out _ _)) | (with_reducible exact Calls.regrown_of (K2.out _ _))) | quiet_step (first | (with_reducible exact Calls.regrown_of (K1.out _ _)) | (with_reducible exact Calls.regrown_of (K2.out _ _)))))
  refine wpQuiet_nil ?_
  intro _ hqw
  obtain ⟨⟨dq, osq⟩, hqv⟩ := hqw
  subst hqv
  obtain ⟨wq, hqwq⟩ : ∃ wq, grow (redrawn (w1) dq) osq = wq := ⟨_, rfl⟩
  have hbwq : Below (w1).heap.size (w1) wq := by rw [← hqwq]; exact below_regrown _ dq osq
  rw [hqwq]
  clear hqwq
  have HBQ := Kp.mk (HB1.out.trans (hbwq.mono HB1.out.size))
  clear hbwq
  go_wp2
  go_ret
  exact ⟨rfl, HBQ.out⟩
set_option maxRecDepth 100000 in
set_option maxHeartbeats 2000000 in
theorem Valid_no3 (R x y : Int) (g : Option Addr) (M c : Nat) (w : World) (h : setB R x = true) (h2 : setB R y = true) (h3 : (bits .and .i64 x y == 0) = false) : Calls Try.prog 19 #[.agg #[.int .i64 R, .slice g M c, .int .i64 x, .int .i64 y]] w fun e w' => e = .returned (.bool false) ∧ Below w.heap.size w w' := by
  have HI : Kp (∀ W, Calls Try.prog 62 #[.agg #[.int .i64 R, .slice g M c, .int .i64 x, .int .i64 y], .int .i64 x] W fun e w' => e = .returned (.bool true) ∧ Below W.heap.size W w') := ⟨fun W => h ▸ isSet_any R x y x g M c W⟩
  have HJ : Kp (∀ W, Calls Try.prog 62 #[.agg #[.int .i64 R, .slice g M c, .int .i64 x, .int .i64 y], .int .i64 y] W fun e w' => e = .returned (.bool true) ∧ Below W.heap.size W w') := ⟨fun W => h2 ▸ isSet_any R x y y g M c W⟩
  clear h2
  clear h
  go_enter Try.func19, Try.ntmps19
  go_wp2_with fail
  obtain ⟨w1, hw1⟩ : ∃ W, w.alloc (.cells #[.int .i64 R, .slice g M c, .int .i64 x, .int .i64 y] 24) = W := ⟨_, rfl⟩
  have HB1 : Kp (Below w.heap.size w w1) := ⟨by rw [← hw1]; exact by repeat (first | exact Below.refl _ _ | refine Below.alloc ?_ (by simp <;> omega) _ | refine bDrewN ?_ _ | refine Below.drew ?_)⟩
  have c0 : w1.cell? ⟨w.heap.size, 0, none⟩ = some (.int .i64 R) := by rw [← hw1]; first | (simp; done) | (simp; go_simp; done) | (go_simp; done)
  have c1 : w1.cell? ⟨w.heap.size, 1, none⟩ = some (.slice g M c) := by rw [← hw1]; first | (simp; done) | (simp; go_simp; done) | (go_simp; done)
  have c2 : w1.cell? ⟨w.heap.size, 2, none⟩ = some (.int .i64 x) := by rw [← hw1]; first | (simp; done) | (simp; go_simp; done) | (go_simp; done)
  have c3 : w1.cell? ⟨w.heap.size, 3, none⟩ = some (.int .i64 y) := by rw [← hw1]; first | (simp; done) | (simp; go_simp; done) | (go_simp; done)
  rw [hw1]
  clear hw1
  have rg_c0 := fun d os => cell_regrown c0 d os
  have rg_c1 := fun d os => cell_regrown c1 d os
  have rg_c2 := fun d os => cell_regrown c2 d os
  have rg_c3 := fun d os => cell_regrown c3 d os
  have K1 : Kp (∀ d os, _) := ⟨fun d os => HI.out (grow (redrawn w1 d) os)⟩
  have K2 : Kp (∀ d os, _) := ⟨fun d os => HJ.out (grow (redrawn w1 d) os)⟩
  clear HJ
  clear c0 c1 c2 c3 HI
  refine wp_region_quiet_below (by kernel_rfl) (by kernel_rfl) ?_
  repeat (any_goals (first | go_big_quiet_step (first | (with_reducible exact Calls.regrown_of (K1.out _ _)) | (with_reducible exact Calls.regrown_of (K2.out _ _))) | quiet_step (first | (with_reducible exact Calls.regrown_of (K1.out _ _)) | (with_reducible exact Calls.regrown_of (K2.out _ _)))))
  refine wpQuiet_nil ?_
  intro _ hqw
  obtain ⟨⟨dq, osq⟩, hqv⟩ := hqw
  subst hqv
  obtain ⟨wq, hqwq⟩ : ∃ wq, grow (redrawn (w1) dq) osq = wq := ⟨_, rfl⟩
  have hbwq : Below (w1).heap.size (w1) wq := by rw [← hqwq]; exact below_regrown _ dq osq
  rw [hqwq]
  clear hqwq
  have HBQ := Kp.mk (HB1.out.trans (hbwq.mono HB1.out.size))
  clear hbwq
  go_wp2
  go_ret
  exact ⟨rfl, HBQ.out⟩
set_option maxRecDepth 100000 in
set_option maxHeartbeats 2000000 in
theorem Valid_no4 (R x y : Int) (g : Option Addr) (M c : Nat) (w : World) (h : setB R x = true) (h2 : setB R y = true) (h3 : bits .and .i64 x y = 0) (h4 : 40 < M) : Calls Try.prog 19 #[.agg #[.int .i64 R, .slice g M c, .int .i64 x, .int .i64 y]] w fun e w' => e = .returned (.bool false) ∧ Below w.heap.size w w' := by
  have HI : Kp (∀ W, Calls Try.prog 62 #[.agg #[.int .i64 R, .slice g M c, .int .i64 x, .int .i64 y], .int .i64 x] W fun e w' => e = .returned (.bool true) ∧ Below W.heap.size W w') := ⟨fun W => h ▸ isSet_any R x y x g M c W⟩
  have HJ : Kp (∀ W, Calls Try.prog 62 #[.agg #[.int .i64 R, .slice g M c, .int .i64 x, .int .i64 y], .int .i64 y] W fun e w' => e = .returned (.bool true) ∧ Below W.heap.size W w') := ⟨fun W => h2 ▸ isSet_any R x y y g M c W⟩
  clear h2
  have h5 : decide ((M : Int) ≤ 40) = false := decide_eq_false (by omega)
  clear h
  go_enter Try.func19, Try.ntmps19
  go_wp2_with fail
  obtain ⟨w1, hw1⟩ : ∃ W, w.alloc (.cells #[.int .i64 R, .slice g M c, .int .i64 x, .int .i64 y] 24) = W := ⟨_, rfl⟩
  have HB1 : Kp (Below w.heap.size w w1) := ⟨by rw [← hw1]; exact by repeat (first | exact Below.refl _ _ | refine Below.alloc ?_ (by simp <;> omega) _ | refine bDrewN ?_ _ | refine Below.drew ?_)⟩
  have c0 : w1.cell? ⟨w.heap.size, 0, none⟩ = some (.int .i64 R) := by rw [← hw1]; first | (simp; done) | (simp; go_simp; done) | (go_simp; done)
  have c1 : w1.cell? ⟨w.heap.size, 1, none⟩ = some (.slice g M c) := by rw [← hw1]; first | (simp; done) | (simp; go_simp; done) | (go_simp; done)
  have c2 : w1.cell? ⟨w.heap.size, 2, none⟩ = some (.int .i64 x) := by rw [← hw1]; first | (simp; done) | (simp; go_simp; done) | (go_simp; done)
  have c3 : w1.cell? ⟨w.heap.size, 3, none⟩ = some (.int .i64 y) := by rw [← hw1]; first | (simp; done) | (simp; go_simp; done) | (go_simp; done)
  rw [hw1]
  clear hw1
  have rg_c0 := fun d os => cell_regrown c0 d os
  have rg_c1 := fun d os => cell_regrown c1 d os
  have rg_c2 := fun d os => cell_regrown c2 d os
  have rg_c3 := fun d os => cell_regrown c3 d os
  have K1 : Kp (∀ d os, _) := ⟨fun d os => HI.out (grow (redrawn w1 d) os)⟩
  have K2 : Kp (∀ d os, _) := ⟨fun d os => HJ.out (grow (redrawn w1 d) os)⟩
  clear HJ
  clear c0 c1 c2 c3 HI
  refine wp_region_quiet_below (by kernel_rfl) (by kernel_rfl) ?_
  repeat (any_goals (first | go_big_quiet_step (first | (with_reducible exact Calls.regrown_of (K1.out _ _)) | (with_reducible exact Calls.regrown_of (K2.out _ _))) | quiet_step (first | (with_reducible exact Calls.regrown_of (K1.out _ _)) | (with_reducible exact Calls.regrown_of (K2.out _ _)))))
  refine wpQuiet_nil ?_
  intro _ hqw
  obtain ⟨⟨dq, osq⟩, hqv⟩ := hqw
  subst hqv
  obtain ⟨wq, hqwq⟩ : ∃ wq, grow (redrawn (w1) dq) osq = wq := ⟨_, rfl⟩
  have hbwq : Below (w1).heap.size (w1) wq := by rw [← hqwq]; exact below_regrown _ dq osq
  rw [hqwq]
  clear hqwq
  have HBQ := Kp.mk (HB1.out.trans (hbwq.mono HB1.out.size))
  clear hbwq
  go_wp2
  go_ret
  exact ⟨rfl, HBQ.out⟩
end Go.Proofs.Ythkamfjjfkpekaa.Pe
