/-
  WALKS (layer 3, baths), of the reference: hours.
-/
import Derived.Test.YtakldbpfdoeimaaBtSteady
import Derived.Test.YtakldbpfdoeimaaBtRefB
namespace Go.Proofs.Ytakldbpfdoeimaa.Bt
open Go Go.RowKit Go.Sort

theorem ret_int {a b : Int} (h : a = b) : Ending.returned (.int .i64 a) = .returned (.int .i64 b) := by rw [h]
theorem rbalance_any (bw bs ba sw ss sa so gw gs ga x y : Int) (w : World) (h0 : 0 ≤ bw) (h1 : 0 ≤ sw) (h2 : bw + sw ≤ 1000000000) (h3 : 0 ≤ x) (h4 : 0 ≤ y) (h5 : x + y ≤ 1000000000) :
    Calls Try.prog 66 #[.agg #[.int .i64 bw, .int .i64 bs, .int .i64 ba, .int .i64 sw, .int .i64 ss, .int .i64 sa, .int .i64 so, .int .i64 gw, .int .i64 gs, .int .i64 ga], .int .i64 x, .int .i64 y] w fun e w' => e = .returned (.int .i64 (bal bw sw x y)) ∧ Below w.heap.size w w' := by
  by_cases hd : bw + sw = 0
  · have HD : Kp (bw + sw = 0) := ⟨hd⟩
    have hd2 : ((bw + sw) == 0) = true := by rw [hd]; rfl
    clear hd
    go_enter Try.func66, Try.ntmps66
    go_wp2
    go_ret
    exact ⟨ret_int (bal_dry HD.out).symm, by repeat (first | exact Below.refl _ _ | refine Below.alloc ?_ (by simp <;> omega) _ | refine bDrewN ?_ _ | refine Below.drew ?_)⟩
  · have HD : Kp (bw + sw ≠ 0) := ⟨hd⟩
    have hd2 : ((bw + sw) == 0) = false := by rw [beq_eq_false_iff_ne]; exact hd
    obtain ⟨m0, m1⟩ := mul_bd (x := x + y) (y := sw) (m := 1000000000) (n := 1000000000) (by omega) (by omega) (by omega) (by omega)
    have m4 : (x + y) * sw ≤ 1000000000000000000 := m1
    have hd3 : ¬ bw + sw = 0 := hd
    clear hd m1
    go_enter Try.func66, Try.ntmps66
    go_wp2
    go_ret
    exact ⟨ret_int (bal_wet HD.out).symm, by repeat (first | exact Below.refl _ _ | refine Below.alloc ?_ (by simp <;> omega) _ | refine bDrewN ?_ _ | refine Below.drew ?_)⟩
theorem rover_any (bw bs ba sw ss sa so gw gs ga x y : Int) (w : World) (h0 : 0 ≤ bw) (h1 : 0 ≤ sw) (h2 : bw + sw ≤ 1000000000) (h3 : 0 ≤ x) (h4 : 0 ≤ y) (h5 : x + y ≤ 1000000000) (ho : 0 ≤ so ∧ so ≤ 1000) :
    Calls Try.prog 78 #[.agg #[.int .i64 bw, .int .i64 bs, .int .i64 ba, .int .i64 sw, .int .i64 ss, .int .i64 sa, .int .i64 so, .int .i64 gw, .int .i64 gs, .int .i64 ga], .int .i64 x, .int .i64 y] w fun e w' => e = .returned (.int .i64 (ovr so (bal bw sw x y - y))) ∧ Below w.heap.size w w' := by
  have HQ : Kp (∀ W : World, Calls Try.prog 66 #[.agg #[.int .i64 bw, .int .i64 bs, .int .i64 ba, .int .i64 sw, .int .i64 ss, .int .i64 sa, .int .i64 so, .int .i64 gw, .int .i64 gs, .int .i64 ga], .int .i64 x, .int .i64 y] W fun e w' => e = .returned (.int .i64 (bal bw sw x y)) ∧ Below W.heap.size W w') := ⟨fun W => rbalance_any bw bs ba sw ss sa so gw gs ga x y W h0 h1 h2 h3 h4 h5⟩
  have s1 := bal_bd (bw := bw) (sw := sw) (x := x) (y := y) h0 h1 h3 h4
  obtain ⟨S, hS⟩ : ∃ S, bal bw sw x y = S := ⟨_, rfl⟩
  rw [hS] at HQ s1 ⊢
  clear hS
  obtain ⟨f1, f2, f3, f4, f5⟩ := hour_facts (o := so) (x := x) (y := y) (T := 1000000000) (S := S) ho h3 h4 h5 (by omega) s1.1 s1.2
  have F3 : Kp (((S - y) * so).tdiv 1000 = ovr so (S - y)) := ⟨f3⟩
  have l3 : S ≤ 1000000000 := by omega
  have l5 : 0 ≤ S := s1.1
  have l6 : y ≤ 1000000000 := by omega
  have HG : Kp (∀ d os, _) := ⟨fun d os => HQ.out (grow (redrawn (w.alloc (.cells #[.int .i64 bw, .int .i64 bs, .int .i64 ba, .int .i64 sw, .int .i64 ss, .int .i64 sa, .int .i64 so, .int .i64 gw, .int .i64 gs, .int .i64 ga] 27)) d) os)⟩
  have c0_0_0 : (w.alloc (.cells #[.int .i64 bw, .int .i64 bs, .int .i64 ba, .int .i64 sw, .int .i64 ss, .int .i64 sa, .int .i64 so, .int .i64 gw, .int .i64 gs, .int .i64 ga] 27)).cell? ⟨w.heap.size, 0, none⟩ = some (.int .i64 bw) := by go_simp
  have c0_0_1 : (w.alloc (.cells #[.int .i64 bw, .int .i64 bs, .int .i64 ba, .int .i64 sw, .int .i64 ss, .int .i64 sa, .int .i64 so, .int .i64 gw, .int .i64 gs, .int .i64 ga] 27)).cell? ⟨w.heap.size, 1, none⟩ = some (.int .i64 bs) := by go_simp
  have c0_0_2 : (w.alloc (.cells #[.int .i64 bw, .int .i64 bs, .int .i64 ba, .int .i64 sw, .int .i64 ss, .int .i64 sa, .int .i64 so, .int .i64 gw, .int .i64 gs, .int .i64 ga] 27)).cell? ⟨w.heap.size, 2, none⟩ = some (.int .i64 ba) := by go_simp
  have c0_0_3 : (w.alloc (.cells #[.int .i64 bw, .int .i64 bs, .int .i64 ba, .int .i64 sw, .int .i64 ss, .int .i64 sa, .int .i64 so, .int .i64 gw, .int .i64 gs, .int .i64 ga] 27)).cell? ⟨w.heap.size, 3, none⟩ = some (.int .i64 sw) := by go_simp
  have c0_0_4 : (w.alloc (.cells #[.int .i64 bw, .int .i64 bs, .int .i64 ba, .int .i64 sw, .int .i64 ss, .int .i64 sa, .int .i64 so, .int .i64 gw, .int .i64 gs, .int .i64 ga] 27)).cell? ⟨w.heap.size, 4, none⟩ = some (.int .i64 ss) := by go_simp
  have c0_0_5 : (w.alloc (.cells #[.int .i64 bw, .int .i64 bs, .int .i64 ba, .int .i64 sw, .int .i64 ss, .int .i64 sa, .int .i64 so, .int .i64 gw, .int .i64 gs, .int .i64 ga] 27)).cell? ⟨w.heap.size, 5, none⟩ = some (.int .i64 sa) := by go_simp
  have c0_0_6 : (w.alloc (.cells #[.int .i64 bw, .int .i64 bs, .int .i64 ba, .int .i64 sw, .int .i64 ss, .int .i64 sa, .int .i64 so, .int .i64 gw, .int .i64 gs, .int .i64 ga] 27)).cell? ⟨w.heap.size, 6, none⟩ = some (.int .i64 so) := by go_simp
  have c0_0_7 : (w.alloc (.cells #[.int .i64 bw, .int .i64 bs, .int .i64 ba, .int .i64 sw, .int .i64 ss, .int .i64 sa, .int .i64 so, .int .i64 gw, .int .i64 gs, .int .i64 ga] 27)).cell? ⟨w.heap.size, 7, none⟩ = some (.int .i64 gw) := by go_simp
  have c0_0_8 : (w.alloc (.cells #[.int .i64 bw, .int .i64 bs, .int .i64 ba, .int .i64 sw, .int .i64 ss, .int .i64 sa, .int .i64 so, .int .i64 gw, .int .i64 gs, .int .i64 ga] 27)).cell? ⟨w.heap.size, 8, none⟩ = some (.int .i64 gs) := by go_simp
  have c0_0_9 : (w.alloc (.cells #[.int .i64 bw, .int .i64 bs, .int .i64 ba, .int .i64 sw, .int .i64 ss, .int .i64 sa, .int .i64 so, .int .i64 gw, .int .i64 gs, .int .i64 ga] 27)).cell? ⟨w.heap.size, 9, none⟩ = some (.int .i64 ga) := by go_simp
  have q0_0 := fun d os => cell_regrown c0_0_0 d os
  have q0_1 := fun d os => cell_regrown c0_0_1 d os
  have q0_2 := fun d os => cell_regrown c0_0_2 d os
  have q0_3 := fun d os => cell_regrown c0_0_3 d os
  have q0_4 := fun d os => cell_regrown c0_0_4 d os
  have q0_5 := fun d os => cell_regrown c0_0_5 d os
  have q0_6 := fun d os => cell_regrown c0_0_6 d os
  have q0_7 := fun d os => cell_regrown c0_0_7 d os
  have q0_8 := fun d os => cell_regrown c0_0_8 d os
  have q0_9 := fun d os => cell_regrown c0_0_9 d os
  have e1 : IntKind.i64.wrap (S - y) = S - y := IntWalk.i64_in _ (by omega)
  have e2 : IntKind.i64.wrap ((S - y) * so) = (S - y) * so := IntWalk.i64_in _ (by omega)
  have e3 : IntKind.i64.wrap (((S - y) * so).tdiv 1000) = ((S - y) * so).tdiv 1000 := IntWalk.i64_in _ (by rw [F3.out]; omega)
  clear f1 f2 f3 f4 f5 h0 h1 h2 h3 h4 h5 ho s1 l3 l5 l6 c0_0_0 c0_0_1 c0_0_2 c0_0_3 c0_0_4 c0_0_5 c0_0_6 c0_0_7 c0_0_8 c0_0_9
  go_enter Try.func78, Try.ntmps78
  go_wp2_with fail
  refine wp_region_quiet_below (by kernel_rfl) (by kernel_rfl) ?_
  repeat (any_goals (first | go_big_quiet_step (with_reducible exact Calls.regrown_of (HG.out _ _)) | quiet_step (with_reducible exact Calls.regrown_of (HG.out _ _))))
  refine wpQuiet_nil ?_
  intro _ hw'
  obtain ⟨⟨dq, osq⟩, hw''⟩ := hw'
  subst hw''
  go_wp2
  go_ret
  exact ⟨ret_int F3.out, Below.trans (by repeat (first | exact Below.refl _ _ | refine Below.alloc ?_ (by simp <;> omega) _ | refine bDrewN ?_ _ | refine Below.drew ?_)) ((below_regrown _ dq osq).mono (by simp))⟩
theorem rhour_any (bw bs ba sw ss sa so gw gs ga : Int) (w : World) (h : vatB ⟨⟨bw, bs, ba⟩, ⟨sw, ss, sa, so⟩, ⟨gw, gs, ga⟩⟩ = true) :
    Calls Try.prog 64 #[.agg #[.int .i64 bw, .int .i64 bs, .int .i64 ba, .int .i64 sw, .int .i64 ss, .int .i64 sa, .int .i64 so, .int .i64 gw, .int .i64 gs, .int .i64 ga]] w fun e w' => e = .returned (.agg #[.int .i64 bw, .int .i64 (bs - ovr so (bal bw sw bs ss - ss)), .int .i64 (ba - ovr so (bal bw sw ba sa - sa)), .int .i64 sw, .int .i64 (ss + ovr so (bal bw sw bs ss - ss)), .int .i64 (sa + ovr so (bal bw sw ba sa - sa)), .int .i64 so, .int .i64 gw, .int .i64 gs, .int .i64 ga]) ∧ Below w.heap.size w w' := by
  obtain ⟨⟨h0, h1, h2⟩, ⟨h3, h4, h5⟩, hso, ⟨h9, h10, h11⟩, ⟨h6, h7, h8⟩⟩ := vat_bd h
  simp only at h0 h1 h2 h3 h4 h5 h6 h7 h8 h9 h10 h11 hso
  have HQ1 : Kp (∀ W : World, Calls Try.prog 78 #[.agg #[.int .i64 bw, .int .i64 bs, .int .i64 ba, .int .i64 sw, .int .i64 ss, .int .i64 sa, .int .i64 so, .int .i64 gw, .int .i64 gs, .int .i64 ga], .int .i64 bs, .int .i64 ss] W fun e w' => e = .returned (.int .i64 (ovr so (bal bw sw bs ss - ss))) ∧ Below W.heap.size W w') := ⟨fun W => rover_any bw bs ba sw ss sa so gw gs ga bs ss W h0 h3 (by omega) h1 h4 (by omega) hso⟩
  have HQ2 : Kp (∀ W : World, Calls Try.prog 78 #[.agg #[.int .i64 bw, .int .i64 bs, .int .i64 ba, .int .i64 sw, .int .i64 ss, .int .i64 sa, .int .i64 so, .int .i64 gw, .int .i64 gs, .int .i64 ga], .int .i64 ba, .int .i64 sa] W fun e w' => e = .returned (.int .i64 (ovr so (bal bw sw ba sa - sa))) ∧ Below W.heap.size W w') := ⟨fun W => rover_any bw bs ba sw ss sa so gw gs ga ba sa W h0 h3 (by omega) h2 h5 (by omega) hso⟩
  have s1 := bal_bd (bw := bw) (sw := sw) (x := bs) (y := ss) h0 h3 h1 h4
  have a1 := bal_bd (bw := bw) (sw := sw) (x := ba) (y := sa) h0 h3 h2 h5
  obtain ⟨f1, f2, f3, f4, f5⟩ := hour_facts (o := so) (x := bs) (y := ss) (T := 1000000000) (S := bal bw sw bs ss) hso h1 h4 (by omega) (by omega) s1.1 s1.2
  obtain ⟨k1, k2, k3, k4, k5⟩ := hour_facts (o := so) (x := ba) (y := sa) (T := 1000000000) (S := bal bw sw ba sa) hso h2 h5 (by omega) (by omega) a1.1 a1.2
  obtain ⟨D, hD⟩ : ∃ D, ovr so (bal bw sw bs ss - ss) = D := ⟨_, rfl⟩
  obtain ⟨E, hE⟩ : ∃ E, ovr so (bal bw sw ba sa - sa) = E := ⟨_, rfl⟩
  rw [hD] at f4 f5 HQ1 ⊢
  rw [hE] at k4 k5 HQ2 ⊢
  have l1 : bs + ss ≤ 1000000000 := by omega
  have l2 : ba + sa ≤ 1000000000 := by omega
  clear hD hE h h9 h10 h11 h6 h7 h8 hso s1 a1 h0 h3 f1 f2 f3 k1 k2 k3
  have HG1 : Kp (∀ d os, _) := ⟨fun d os => HQ1.out (grow (redrawn ((w.alloc (.cells #[.int .i64 bw, .int .i64 bs, .int .i64 ba, .int .i64 sw, .int .i64 ss, .int .i64 sa, .int .i64 so, .int .i64 gw, .int .i64 gs, .int .i64 ga] 27)).alloc (.cells #[.int .i64 0, .int .i64 0, .int .i64 0, .int .i64 0, .int .i64 0, .int .i64 0, .int .i64 0, .int .i64 0, .int .i64 0, .int .i64 0] 27)) d) os)⟩
  have HG2 : Kp (∀ d os, _) := ⟨fun d os => HQ2.out (grow (redrawn ((w.alloc (.cells #[.int .i64 bw, .int .i64 bs, .int .i64 ba, .int .i64 sw, .int .i64 ss, .int .i64 sa, .int .i64 so, .int .i64 gw, .int .i64 gs, .int .i64 ga] 27)).alloc (.cells #[.int .i64 0, .int .i64 0, .int .i64 0, .int .i64 0, .int .i64 0, .int .i64 0, .int .i64 0, .int .i64 0, .int .i64 0, .int .i64 0] 27)) d) os)⟩
  have c0_0_0 : ((w.alloc (.cells #[.int .i64 bw, .int .i64 bs, .int .i64 ba, .int .i64 sw, .int .i64 ss, .int .i64 sa, .int .i64 so, .int .i64 gw, .int .i64 gs, .int .i64 ga] 27)).alloc (.cells #[.int .i64 0, .int .i64 0, .int .i64 0, .int .i64 0, .int .i64 0, .int .i64 0, .int .i64 0, .int .i64 0, .int .i64 0, .int .i64 0] 27)).cell? ⟨w.heap.size, 0, none⟩ = some (.int .i64 bw) := by go_simp
  have c0_0_1 : ((w.alloc (.cells #[.int .i64 bw, .int .i64 bs, .int .i64 ba, .int .i64 sw, .int .i64 ss, .int .i64 sa, .int .i64 so, .int .i64 gw, .int .i64 gs, .int .i64 ga] 27)).alloc (.cells #[.int .i64 0, .int .i64 0, .int .i64 0, .int .i64 0, .int .i64 0, .int .i64 0, .int .i64 0, .int .i64 0, .int .i64 0, .int .i64 0] 27)).cell? ⟨w.heap.size, 1, none⟩ = some (.int .i64 bs) := by go_simp
  have c0_0_2 : ((w.alloc (.cells #[.int .i64 bw, .int .i64 bs, .int .i64 ba, .int .i64 sw, .int .i64 ss, .int .i64 sa, .int .i64 so, .int .i64 gw, .int .i64 gs, .int .i64 ga] 27)).alloc (.cells #[.int .i64 0, .int .i64 0, .int .i64 0, .int .i64 0, .int .i64 0, .int .i64 0, .int .i64 0, .int .i64 0, .int .i64 0, .int .i64 0] 27)).cell? ⟨w.heap.size, 2, none⟩ = some (.int .i64 ba) := by go_simp
  have c0_0_3 : ((w.alloc (.cells #[.int .i64 bw, .int .i64 bs, .int .i64 ba, .int .i64 sw, .int .i64 ss, .int .i64 sa, .int .i64 so, .int .i64 gw, .int .i64 gs, .int .i64 ga] 27)).alloc (.cells #[.int .i64 0, .int .i64 0, .int .i64 0, .int .i64 0, .int .i64 0, .int .i64 0, .int .i64 0, .int .i64 0, .int .i64 0, .int .i64 0] 27)).cell? ⟨w.heap.size, 3, none⟩ = some (.int .i64 sw) := by go_simp
  have c0_0_4 : ((w.alloc (.cells #[.int .i64 bw, .int .i64 bs, .int .i64 ba, .int .i64 sw, .int .i64 ss, .int .i64 sa, .int .i64 so, .int .i64 gw, .int .i64 gs, .int .i64 ga] 27)).alloc (.cells #[.int .i64 0, .int .i64 0, .int .i64 0, .int .i64 0, .int .i64 0, .int .i64 0, .int .i64 0, .int .i64 0, .int .i64 0, .int .i64 0] 27)).cell? ⟨w.heap.size, 4, none⟩ = some (.int .i64 ss) := by go_simp
  have c0_0_5 : ((w.alloc (.cells #[.int .i64 bw, .int .i64 bs, .int .i64 ba, .int .i64 sw, .int .i64 ss, .int .i64 sa, .int .i64 so, .int .i64 gw, .int .i64 gs, .int .i64 ga] 27)).alloc (.cells #[.int .i64 0, .int .i64 0, .int .i64 0, .int .i64 0, .int .i64 0, .int .i64 0, .int .i64 0, .int .i64 0, .int .i64 0, .int .i64 0] 27)).cell? ⟨w.heap.size, 5, none⟩ = some (.int .i64 sa) := by go_simp
  have c0_0_6 : ((w.alloc (.cells #[.int .i64 bw, .int .i64 bs, .int .i64 ba, .int .i64 sw, .int .i64 ss, .int .i64 sa, .int .i64 so, .int .i64 gw, .int .i64 gs, .int .i64 ga] 27)).alloc (.cells #[.int .i64 0, .int .i64 0, .int .i64 0, .int .i64 0, .int .i64 0, .int .i64 0, .int .i64 0, .int .i64 0, .int .i64 0, .int .i64 0] 27)).cell? ⟨w.heap.size, 6, none⟩ = some (.int .i64 so) := by go_simp
  have c0_0_7 : ((w.alloc (.cells #[.int .i64 bw, .int .i64 bs, .int .i64 ba, .int .i64 sw, .int .i64 ss, .int .i64 sa, .int .i64 so, .int .i64 gw, .int .i64 gs, .int .i64 ga] 27)).alloc (.cells #[.int .i64 0, .int .i64 0, .int .i64 0, .int .i64 0, .int .i64 0, .int .i64 0, .int .i64 0, .int .i64 0, .int .i64 0, .int .i64 0] 27)).cell? ⟨w.heap.size, 7, none⟩ = some (.int .i64 gw) := by go_simp
  have c0_0_8 : ((w.alloc (.cells #[.int .i64 bw, .int .i64 bs, .int .i64 ba, .int .i64 sw, .int .i64 ss, .int .i64 sa, .int .i64 so, .int .i64 gw, .int .i64 gs, .int .i64 ga] 27)).alloc (.cells #[.int .i64 0, .int .i64 0, .int .i64 0, .int .i64 0, .int .i64 0, .int .i64 0, .int .i64 0, .int .i64 0, .int .i64 0, .int .i64 0] 27)).cell? ⟨w.heap.size, 8, none⟩ = some (.int .i64 gs) := by go_simp
  have c0_0_9 : ((w.alloc (.cells #[.int .i64 bw, .int .i64 bs, .int .i64 ba, .int .i64 sw, .int .i64 ss, .int .i64 sa, .int .i64 so, .int .i64 gw, .int .i64 gs, .int .i64 ga] 27)).alloc (.cells #[.int .i64 0, .int .i64 0, .int .i64 0, .int .i64 0, .int .i64 0, .int .i64 0, .int .i64 0, .int .i64 0, .int .i64 0, .int .i64 0] 27)).cell? ⟨w.heap.size, 9, none⟩ = some (.int .i64 ga) := by go_simp
  have q0_0 := fun d os => cell_regrown c0_0_0 d os
  have q0_1 := fun d os => cell_regrown c0_0_1 d os
  have q0_2 := fun d os => cell_regrown c0_0_2 d os
  have q0_3 := fun d os => cell_regrown c0_0_3 d os
  have q0_4 := fun d os => cell_regrown c0_0_4 d os
  have q0_5 := fun d os => cell_regrown c0_0_5 d os
  have q0_6 := fun d os => cell_regrown c0_0_6 d os
  have q0_7 := fun d os => cell_regrown c0_0_7 d os
  have q0_8 := fun d os => cell_regrown c0_0_8 d os
  have q0_9 := fun d os => cell_regrown c0_0_9 d os
  clear c0_0_0 c0_0_1 c0_0_2 c0_0_3 c0_0_4 c0_0_5 c0_0_6 c0_0_7 c0_0_8 c0_0_9
  go_enter Try.func64, Try.ntmps64
  go_wp2_with fail
  refine wp_region_quiet_below (by kernel_rfl) (by kernel_rfl) ?_
  repeat (any_goals (first | go_big_quiet_step (first | (with_reducible exact Calls.regrown_of (HG1.out _ _)) | (with_reducible exact Calls.regrown_of (HG2.out _ _))) | quiet_step (first | (with_reducible exact Calls.regrown_of (HG1.out _ _)) | (with_reducible exact Calls.regrown_of (HG2.out _ _)))))
  refine wpQuiet_nil ?_
  intro _ hw'
  obtain ⟨⟨dq, osq⟩, hw''⟩ := hw'
  subst hw''
  clear q0_0 q0_1 q0_2 q0_3 q0_4 q0_5 q0_6 q0_7 q0_8 q0_9 HG1 HG2 HQ1 HQ2
  obtain ⟨w1, hw1⟩ : ∃ w1, grow (redrawn ((w.alloc (.cells #[.int .i64 bw, .int .i64 bs, .int .i64 ba, .int .i64 sw, .int .i64 ss, .int .i64 sa, .int .i64 so, .int .i64 gw, .int .i64 gs, .int .i64 ga] 27)).alloc (.cells #[.int .i64 0, .int .i64 0, .int .i64 0, .int .i64 0, .int .i64 0, .int .i64 0, .int .i64 0, .int .i64 0, .int .i64 0, .int .i64 0] 27)) dq) osq = w1 := ⟨_, rfl⟩
  have hb1 : Below ((w.alloc (.cells #[.int .i64 bw, .int .i64 bs, .int .i64 ba, .int .i64 sw, .int .i64 ss, .int .i64 sa, .int .i64 so, .int .i64 gw, .int .i64 gs, .int .i64 ga] 27)).alloc (.cells #[.int .i64 0, .int .i64 0, .int .i64 0, .int .i64 0, .int .i64 0, .int .i64 0, .int .i64 0, .int .i64 0, .int .i64 0, .int .i64 0] 27)).heap.size ((w.alloc (.cells #[.int .i64 bw, .int .i64 bs, .int .i64 ba, .int .i64 sw, .int .i64 ss, .int .i64 sa, .int .i64 so, .int .i64 gw, .int .i64 gs, .int .i64 ga] 27)).alloc (.cells #[.int .i64 0, .int .i64 0, .int .i64 0, .int .i64 0, .int .i64 0, .int .i64 0, .int .i64 0, .int .i64 0, .int .i64 0, .int .i64 0] 27)) w1 := by rw [← hw1]; exact below_regrown _ dq osq
  simp only [hw1]
  clear hw1
  have HB1 : Kp (Below w.heap.size w w1) := ⟨Below.trans (by repeat (first | exact Below.refl _ _ | refine Below.alloc ?_ (by simp <;> omega) _ | refine bDrewN ?_ _ | refine Below.drew ?_)) (hb1.mono (by simp <;> omega))⟩
  have hz1 : w.heap.size + 1 < w1.heap.size := by have := hb1.size; simp at this; omega
  obtain ⟨hc, hf⟩ := bcell hb1
  have c1_0_0 : w1.cell? ⟨w.heap.size, 0, none⟩ = some (.int .i64 bw) := (hc _ _ (by simp <;> omega)).trans (by go_simp)
  have c1_0_1 : w1.cell? ⟨w.heap.size, 1, none⟩ = some (.int .i64 bs) := (hc _ _ (by simp <;> omega)).trans (by go_simp)
  have c1_0_2 : w1.cell? ⟨w.heap.size, 2, none⟩ = some (.int .i64 ba) := (hc _ _ (by simp <;> omega)).trans (by go_simp)
  have c1_0_3 : w1.cell? ⟨w.heap.size, 3, none⟩ = some (.int .i64 sw) := (hc _ _ (by simp <;> omega)).trans (by go_simp)
  have c1_0_4 : w1.cell? ⟨w.heap.size, 4, none⟩ = some (.int .i64 ss) := (hc _ _ (by simp <;> omega)).trans (by go_simp)
  have c1_0_5 : w1.cell? ⟨w.heap.size, 5, none⟩ = some (.int .i64 sa) := (hc _ _ (by simp <;> omega)).trans (by go_simp)
  have c1_0_6 : w1.cell? ⟨w.heap.size, 6, none⟩ = some (.int .i64 so) := (hc _ _ (by simp <;> omega)).trans (by go_simp)
  have c1_0_7 : w1.cell? ⟨w.heap.size, 7, none⟩ = some (.int .i64 gw) := (hc _ _ (by simp <;> omega)).trans (by go_simp)
  have c1_0_8 : w1.cell? ⟨w.heap.size, 8, none⟩ = some (.int .i64 gs) := (hc _ _ (by simp <;> omega)).trans (by go_simp)
  have c1_0_9 : w1.cell? ⟨w.heap.size, 9, none⟩ = some (.int .i64 ga) := (hc _ _ (by simp <;> omega)).trans (by go_simp)
  have z1_0 : ∀ j, w1.frozen? ⟨w.heap.size, j, none⟩ = false := fun j => (hf _ _ (by simp <;> omega)).trans (by go_simp)
  have c1_1_0 : w1.cell? ⟨w.heap.size + 1, 0, none⟩ = some (.int .i64 0) := (hc _ _ (by simp <;> omega)).trans (by go_simp)
  have c1_1_1 : w1.cell? ⟨w.heap.size + 1, 1, none⟩ = some (.int .i64 0) := (hc _ _ (by simp <;> omega)).trans (by go_simp)
  have c1_1_2 : w1.cell? ⟨w.heap.size + 1, 2, none⟩ = some (.int .i64 0) := (hc _ _ (by simp <;> omega)).trans (by go_simp)
  have c1_1_3 : w1.cell? ⟨w.heap.size + 1, 3, none⟩ = some (.int .i64 0) := (hc _ _ (by simp <;> omega)).trans (by go_simp)
  have c1_1_4 : w1.cell? ⟨w.heap.size + 1, 4, none⟩ = some (.int .i64 0) := (hc _ _ (by simp <;> omega)).trans (by go_simp)
  have c1_1_5 : w1.cell? ⟨w.heap.size + 1, 5, none⟩ = some (.int .i64 0) := (hc _ _ (by simp <;> omega)).trans (by go_simp)
  have c1_1_6 : w1.cell? ⟨w.heap.size + 1, 6, none⟩ = some (.int .i64 0) := (hc _ _ (by simp <;> omega)).trans (by go_simp)
  have c1_1_7 : w1.cell? ⟨w.heap.size + 1, 7, none⟩ = some (.int .i64 0) := (hc _ _ (by simp <;> omega)).trans (by go_simp)
  have c1_1_8 : w1.cell? ⟨w.heap.size + 1, 8, none⟩ = some (.int .i64 0) := (hc _ _ (by simp <;> omega)).trans (by go_simp)
  have c1_1_9 : w1.cell? ⟨w.heap.size + 1, 9, none⟩ = some (.int .i64 0) := (hc _ _ (by simp <;> omega)).trans (by go_simp)
  have z1_1 : ∀ j, w1.frozen? ⟨w.heap.size + 1, j, none⟩ = false := fun j => (hf _ _ (by simp <;> omega)).trans (by go_simp)
  clear hc hf hb1
  go_wp2
  refine bodyPost_ret (v := .agg #[.int .i64 bw, .int .i64 (bs - D), .int .i64 (ba - E), .int .i64 sw, .int .i64 (ss + D), .int .i64 (sa + E), .int .i64 so, .int .i64 gw, .int .i64 gs, .int .i64 ga]) ?_ rfl ⟨rfl, ?_⟩
  · simp [results, Try.results64, go_sem, c1_1_0, c1_1_1, c1_1_2, c1_1_3, c1_1_4, c1_1_5, c1_1_6, c1_1_7, c1_1_8, c1_1_9]
  · (have hzS := HB1.out.size; (repeat (with_reducible first | exact HB1.out | refine Below.setCell ?_ ?_ _ | refine Below.alloc ?_ ?_ _ | refine Below.drew ?_ | refine bDrewN ?_ _)); all_goals ((try simp) <;> omega))
end Go.Proofs.Ytakldbpfdoeimaa.Bt
