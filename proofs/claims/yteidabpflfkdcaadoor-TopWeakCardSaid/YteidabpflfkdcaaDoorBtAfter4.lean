/-
  WALKS (layer 3, baths): the vat after a step, by the program: kind 4.
-/
import Derived.Test.YteidabpflfkdcaaDoorBtPour
namespace Go.Proofs.YteidabpflfkdcaaDoor.Bt
open Go Go.RowKit

set_option maxHeartbeats 2000000 in
theorem afterStep_4 (bw bs ba sw ss sa so gw gs ga n x0 x1 x2 x3 x4 x5 x6 x7 x8 x9 : Int) (w : World) (HF : Kp (∀ W P, VatAt W P ⟨⟨bw, bs, ba⟩, ⟨sw, ss, sa, so⟩, ⟨gw, gs, ga⟩⟩ → Calls Tryd.prog 90 #[.pointer (some ⟨P, 0, none⟩), .int .i64 n] W (WaitPost W P ⟨⟨x0, x1, x2⟩, ⟨x3, x4, x5, x6⟩, ⟨x7, x8, x9⟩⟩))) (hv : vatB ⟨⟨x0, x1, x2⟩, ⟨x3, x4, x5, x6⟩, ⟨x7, x8, x9⟩⟩ = true) :
    Calls Tryd.prog 29 #[.agg #[.int .i64 bw, .int .i64 bs, .int .i64 ba, .int .i64 sw, .int .i64 ss, .int .i64 sa, .int .i64 so, .int .i64 gw, .int .i64 gs, .int .i64 ga], .agg #[.int .i64 4, .int .i64 n]] w fun e w' => e = .returned (.tuple #[.agg #[.int .i64 x0, .int .i64 x1, .int .i64 x2, .int .i64 x3, .int .i64 x4, .int .i64 x5, .int .i64 x6, .int .i64 x7, .int .i64 x8, .int .i64 x9], .int .i64 0]) ∧ Below w.heap.size w w' := by
  have HV : Kp (vatB ⟨⟨x0, x1, x2⟩, ⟨x3, x4, x5, x6⟩, ⟨x7, x8, x9⟩⟩ = true) := ⟨hv⟩
  have B0 : Kp (Below w.heap.size w (((w.alloc (.cells #[.int .i64 bw, .int .i64 bs, .int .i64 ba, .int .i64 sw, .int .i64 ss, .int .i64 sa, .int .i64 so, .int .i64 gw, .int .i64 gs, .int .i64 ga] 27)).alloc (.cells #[.int .i64 4, .int .i64 n] 33)).alloc (.cells #[.int .i64 0, .int .i64 0, .int .i64 0, .int .i64 0, .int .i64 0, .int .i64 0, .int .i64 0, .int .i64 0, .int .i64 0, .int .i64 0] 27))) := ⟨by repeat (first | exact Below.refl _ _ | refine Below.alloc ?_ (by simp <;> omega) _ | refine bDrewN ?_ _ | refine Below.drew ?_)⟩
  have Z0 : Kp (VatAt (((w.alloc (.cells #[.int .i64 bw, .int .i64 bs, .int .i64 ba, .int .i64 sw, .int .i64 ss, .int .i64 sa, .int .i64 so, .int .i64 gw, .int .i64 gs, .int .i64 ga] 27)).alloc (.cells #[.int .i64 4, .int .i64 n] 33)).alloc (.cells #[.int .i64 0, .int .i64 0, .int .i64 0, .int .i64 0, .int .i64 0, .int .i64 0, .int .i64 0, .int .i64 0, .int .i64 0, .int .i64 0] 27)) (w.heap.size + 1 + 1) ⟨⟨0, 0, 0⟩, ⟨0, 0, 0, 0⟩, ⟨0, 0, 0⟩⟩) := ⟨by constructor <;> (try intro j) <;> go_simp⟩
  have V0 : Kp (VatAt (((w.alloc (.cells #[.int .i64 bw, .int .i64 bs, .int .i64 ba, .int .i64 sw, .int .i64 ss, .int .i64 sa, .int .i64 so, .int .i64 gw, .int .i64 gs, .int .i64 ga] 27)).alloc (.cells #[.int .i64 4, .int .i64 n] 33)).alloc (.cells #[.int .i64 0, .int .i64 0, .int .i64 0, .int .i64 0, .int .i64 0, .int .i64 0, .int .i64 0, .int .i64 0, .int .i64 0, .int .i64 0] 27)) w.heap.size ⟨⟨bw, bs, ba⟩, ⟨sw, ss, sa, so⟩, ⟨gw, gs, ga⟩⟩) := ⟨by constructor <;> (try intro j) <;> go_simp⟩
  have hsz : w.heap.size < ((((w.alloc (.cells #[.int .i64 bw, .int .i64 bs, .int .i64 ba, .int .i64 sw, .int .i64 ss, .int .i64 sa, .int .i64 so, .int .i64 gw, .int .i64 gs, .int .i64 ga] 27)).alloc (.cells #[.int .i64 4, .int .i64 n] 33)).alloc (.cells #[.int .i64 0, .int .i64 0, .int .i64 0, .int .i64 0, .int .i64 0, .int .i64 0, .int .i64 0, .int .i64 0, .int .i64 0, .int .i64 0] 27))).heap.size := by simp; omega
  clear hv
  go_enter Tryd.func29, Tryd.ntmps29
  go_wp2
  rename_i Q' K hK
  have HK : Kp (∀ (x : Value) (w' : World), Done w (((w.alloc (.cells #[.int .i64 bw, .int .i64 bs, .int .i64 ba, .int .i64 sw, .int .i64 ss, .int .i64 sa, .int .i64 so, .int .i64 gw, .int .i64 gs, .int .i64 ga] 27)).alloc (.cells #[.int .i64 4, .int .i64 n] 33)).alloc (.cells #[.int .i64 0, .int .i64 0, .int .i64 0, .int .i64 0, .int .i64 0, .int .i64 0, .int .i64 0, .int .i64 0, .int .i64 0, .int .i64 0] 27)) ⟨⟨x0, x1, x2⟩, ⟨x3, x4, x5, x6⟩, ⟨x7, x8, x9⟩⟩ w' → K { tmps := #[.agg #[.int .i64 bw, .int .i64 bs, .int .i64 ba, .int .i64 sw, .int .i64 ss, .int .i64 sa, .int .i64 so, .int .i64 gw, .int .i64 gs, .int .i64 ga], .agg #[.int .i64 4, .int .i64 n], .pointer (some ⟨w.heap.size, 0, none⟩), .pointer (some ⟨w.heap.size + 1, 0, none⟩), .pointer (some ⟨w.heap.size + 1 + 1, 0, none⟩), .int .i64 0, .agg #[.nilFunc, .func (.func 87) #[] #[], .func (.func 88) #[] #[], .func (.func 89) #[] #[], .func (.func 90) #[] #[], .func (.func 91) #[] #[], .func (.func 92) #[] #[]], .pointer (some ⟨w.heap.size + 1, 0, none⟩), .int .i64 4, .func (.func 90) #[] #[], .pointer (some ⟨w.heap.size + 1, 1, none⟩), .int .i64 n, x, undef, undef, undef, undef, undef], defers := [] } w') := ⟨by
    intro x w' hd
    refine hK _ _ ?_
    clear hK
    obtain ⟨p0, p1, p2, p3, p4, p5, p6, p7, p8, p9, pz⟩ := hd.vat
    simp only at p0 p1 p2 p3 p4 p5 p6 p7 p8 p9
    have HD := Lib.hid hd
    have hsz' := hd.vat.lt
    clear hd
    go_wp2_with fail
    refine (ValidVat_yes x0 x1 x2 x3 x4 x5 x6 x7 x8 x9 _ HV.out).mono ?_
    rintro e w5 ⟨rfl, hb5⟩
    have HB5 : Kp (Below w.heap.size w w5) := ⟨HD.out.below.trans (hb5.mono HD.out.below.size)⟩
    have HV5 : Kp (VatAt w5 w.heap.size ⟨⟨x0, x1, x2⟩, ⟨x3, x4, x5, x6⟩, ⟨x7, x8, x9⟩⟩) := ⟨HD.out.vat.same (hb5.block _ hsz')⟩
    have HZ5 : Kp (VatAt w5 (w.heap.size + 1 + 1) ⟨⟨0, 0, 0⟩, ⟨0, 0, 0, 0⟩, ⟨0, 0, 0⟩⟩) := ⟨HD.out.zero.same (hb5.block _ HD.out.zero.lt)⟩
    clear p0 p1 p2 p3 p4 p5 p6 p7 p8 p9 pz hb5 hsz'
    obtain ⟨p0, p1, p2, p3, p4, p5, p6, p7, p8, p9, pz⟩ := HV5.out
    obtain ⟨q0, q1, q2, q3, q4, q5, q6, q7, q8, q9, qz⟩ := HZ5.out
    simp only at p0 p1 p2 p3 p4 p5 p6 p7 p8 p9 q0 q1 q2 q3 q4 q5 q6 q7 q8 q9
    go_wp2
    refine bodyPost_ret (v := .tuple #[.agg #[.int .i64 x0, .int .i64 x1, .int .i64 x2, .int .i64 x3, .int .i64 x4, .int .i64 x5, .int .i64 x6, .int .i64 x7, .int .i64 x8, .int .i64 x9], .int .i64 0]) ?_ rfl ⟨rfl, ?_⟩
    · simp [results, Tryd.results29, go_sem, q0, q1, q2, q3, q4, q5, q6, q7, q8, q9]
    · (have hzS := HB5.out.size; (repeat (with_reducible first | exact HB5.out | refine Below.setCell ?_ ?_ _ | refine Below.alloc ?_ ?_ _ | refine Below.drew ?_ | refine bDrewN ?_ _)); all_goals ((try simp) <;> omega))⟩
  clear hK
  have hix : ∀ W : World, (Instr.index 125 (.agg #[.nilFunc, .func (.func 87) #[] #[], .func (.func 88) #[] #[], .func (.func 89) #[] #[], .func (.func 90) #[] #[], .func (.func 91) #[] #[], .func (.func 92) #[] #[]]) (.int .i64 4)).run Tryd.prog W = .ok (.func (.func 90) #[] #[]) W := fun _ => by kernel_rfl
  go_region_with (first | (go_at_call 64; refine (doings_any _).mono ?_; rintro e w4 ⟨rfl, rfl⟩) | (go_at_call 90; refine (HF.out _ _ (vat_in V0.out (by (repeat (with_reducible first | exact Below.refl _ _ | refine Below.alloc ?_ ?_ _ | refine Below.drew ?_ | refine bDrewN ?_ _)); all_goals ((try simp) <;> omega)))).mono ?_; rintro e w5 ⟨⟨x, rfl⟩, hg, hvat⟩))
  all_goals exact HK.out _ _ (done_of B0.out Z0.out (by (repeat (with_reducible first | exact Below.refl _ _ | refine Below.alloc ?_ ?_ _ | refine Below.drew ?_ | refine bDrewN ?_ _)); all_goals ((try simp) <;> omega)) hg hvat)
set_option maxHeartbeats 2000000 in
theorem afterStep_4n (bw bs ba sw ss sa so gw gs ga n x0 x1 x2 x3 x4 x5 x6 x7 x8 x9 : Int) (w : World) (HF : Kp (∀ W P, VatAt W P ⟨⟨bw, bs, ba⟩, ⟨sw, ss, sa, so⟩, ⟨gw, gs, ga⟩⟩ → Calls Tryd.prog 90 #[.pointer (some ⟨P, 0, none⟩), .int .i64 n] W (WaitPost W P ⟨⟨x0, x1, x2⟩, ⟨x3, x4, x5, x6⟩, ⟨x7, x8, x9⟩⟩))) (hv : vatB ⟨⟨x0, x1, x2⟩, ⟨x3, x4, x5, x6⟩, ⟨x7, x8, x9⟩⟩ = false) :
    Calls Tryd.prog 29 #[.agg #[.int .i64 bw, .int .i64 bs, .int .i64 ba, .int .i64 sw, .int .i64 ss, .int .i64 sa, .int .i64 so, .int .i64 gw, .int .i64 gs, .int .i64 ga], .agg #[.int .i64 4, .int .i64 n]] w fun e w' => e = .returned (.tuple #[.agg #[.int .i64 0, .int .i64 0, .int .i64 0, .int .i64 0, .int .i64 0, .int .i64 0, .int .i64 0, .int .i64 0, .int .i64 0, .int .i64 0], .int .i64 4]) ∧ Below w.heap.size w w' := by
  have HV : Kp (vatB ⟨⟨x0, x1, x2⟩, ⟨x3, x4, x5, x6⟩, ⟨x7, x8, x9⟩⟩ = false) := ⟨hv⟩
  have B0 : Kp (Below w.heap.size w (((w.alloc (.cells #[.int .i64 bw, .int .i64 bs, .int .i64 ba, .int .i64 sw, .int .i64 ss, .int .i64 sa, .int .i64 so, .int .i64 gw, .int .i64 gs, .int .i64 ga] 27)).alloc (.cells #[.int .i64 4, .int .i64 n] 33)).alloc (.cells #[.int .i64 0, .int .i64 0, .int .i64 0, .int .i64 0, .int .i64 0, .int .i64 0, .int .i64 0, .int .i64 0, .int .i64 0, .int .i64 0] 27))) := ⟨by repeat (first | exact Below.refl _ _ | refine Below.alloc ?_ (by simp <;> omega) _ | refine bDrewN ?_ _ | refine Below.drew ?_)⟩
  have Z0 : Kp (VatAt (((w.alloc (.cells #[.int .i64 bw, .int .i64 bs, .int .i64 ba, .int .i64 sw, .int .i64 ss, .int .i64 sa, .int .i64 so, .int .i64 gw, .int .i64 gs, .int .i64 ga] 27)).alloc (.cells #[.int .i64 4, .int .i64 n] 33)).alloc (.cells #[.int .i64 0, .int .i64 0, .int .i64 0, .int .i64 0, .int .i64 0, .int .i64 0, .int .i64 0, .int .i64 0, .int .i64 0, .int .i64 0] 27)) (w.heap.size + 1 + 1) ⟨⟨0, 0, 0⟩, ⟨0, 0, 0, 0⟩, ⟨0, 0, 0⟩⟩) := ⟨by constructor <;> (try intro j) <;> go_simp⟩
  have V0 : Kp (VatAt (((w.alloc (.cells #[.int .i64 bw, .int .i64 bs, .int .i64 ba, .int .i64 sw, .int .i64 ss, .int .i64 sa, .int .i64 so, .int .i64 gw, .int .i64 gs, .int .i64 ga] 27)).alloc (.cells #[.int .i64 4, .int .i64 n] 33)).alloc (.cells #[.int .i64 0, .int .i64 0, .int .i64 0, .int .i64 0, .int .i64 0, .int .i64 0, .int .i64 0, .int .i64 0, .int .i64 0, .int .i64 0] 27)) w.heap.size ⟨⟨bw, bs, ba⟩, ⟨sw, ss, sa, so⟩, ⟨gw, gs, ga⟩⟩) := ⟨by constructor <;> (try intro j) <;> go_simp⟩
  have hsz : w.heap.size < ((((w.alloc (.cells #[.int .i64 bw, .int .i64 bs, .int .i64 ba, .int .i64 sw, .int .i64 ss, .int .i64 sa, .int .i64 so, .int .i64 gw, .int .i64 gs, .int .i64 ga] 27)).alloc (.cells #[.int .i64 4, .int .i64 n] 33)).alloc (.cells #[.int .i64 0, .int .i64 0, .int .i64 0, .int .i64 0, .int .i64 0, .int .i64 0, .int .i64 0, .int .i64 0, .int .i64 0, .int .i64 0] 27))).heap.size := by simp; omega
  clear hv
  go_enter Tryd.func29, Tryd.ntmps29
  go_wp2
  rename_i Q' K hK
  have HK : Kp (∀ (x : Value) (w' : World), Done w (((w.alloc (.cells #[.int .i64 bw, .int .i64 bs, .int .i64 ba, .int .i64 sw, .int .i64 ss, .int .i64 sa, .int .i64 so, .int .i64 gw, .int .i64 gs, .int .i64 ga] 27)).alloc (.cells #[.int .i64 4, .int .i64 n] 33)).alloc (.cells #[.int .i64 0, .int .i64 0, .int .i64 0, .int .i64 0, .int .i64 0, .int .i64 0, .int .i64 0, .int .i64 0, .int .i64 0, .int .i64 0] 27)) ⟨⟨x0, x1, x2⟩, ⟨x3, x4, x5, x6⟩, ⟨x7, x8, x9⟩⟩ w' → K { tmps := #[.agg #[.int .i64 bw, .int .i64 bs, .int .i64 ba, .int .i64 sw, .int .i64 ss, .int .i64 sa, .int .i64 so, .int .i64 gw, .int .i64 gs, .int .i64 ga], .agg #[.int .i64 4, .int .i64 n], .pointer (some ⟨w.heap.size, 0, none⟩), .pointer (some ⟨w.heap.size + 1, 0, none⟩), .pointer (some ⟨w.heap.size + 1 + 1, 0, none⟩), .int .i64 0, .agg #[.nilFunc, .func (.func 87) #[] #[], .func (.func 88) #[] #[], .func (.func 89) #[] #[], .func (.func 90) #[] #[], .func (.func 91) #[] #[], .func (.func 92) #[] #[]], .pointer (some ⟨w.heap.size + 1, 0, none⟩), .int .i64 4, .func (.func 90) #[] #[], .pointer (some ⟨w.heap.size + 1, 1, none⟩), .int .i64 n, x, undef, undef, undef, undef, undef], defers := [] } w') := ⟨by
    intro x w' hd
    refine hK _ _ ?_
    clear hK
    obtain ⟨p0, p1, p2, p3, p4, p5, p6, p7, p8, p9, pz⟩ := hd.vat
    simp only at p0 p1 p2 p3 p4 p5 p6 p7 p8 p9
    have HD := Lib.hid hd
    have hsz' := hd.vat.lt
    clear hd
    go_wp2_with fail
    refine (ValidVat_no x0 x1 x2 x3 x4 x5 x6 x7 x8 x9 _ HV.out).mono ?_
    rintro e w5 ⟨rfl, hb5⟩
    have HB5 : Kp (Below w.heap.size w w5) := ⟨HD.out.below.trans (hb5.mono HD.out.below.size)⟩
    have HV5 : Kp (VatAt w5 w.heap.size ⟨⟨x0, x1, x2⟩, ⟨x3, x4, x5, x6⟩, ⟨x7, x8, x9⟩⟩) := ⟨HD.out.vat.same (hb5.block _ hsz')⟩
    have HZ5 : Kp (VatAt w5 (w.heap.size + 1 + 1) ⟨⟨0, 0, 0⟩, ⟨0, 0, 0, 0⟩, ⟨0, 0, 0⟩⟩) := ⟨HD.out.zero.same (hb5.block _ HD.out.zero.lt)⟩
    clear p0 p1 p2 p3 p4 p5 p6 p7 p8 p9 pz hb5 hsz'
    obtain ⟨p0, p1, p2, p3, p4, p5, p6, p7, p8, p9, pz⟩ := HV5.out
    obtain ⟨q0, q1, q2, q3, q4, q5, q6, q7, q8, q9, qz⟩ := HZ5.out
    simp only at p0 p1 p2 p3 p4 p5 p6 p7 p8 p9 q0 q1 q2 q3 q4 q5 q6 q7 q8 q9
    go_wp2
    refine bodyPost_ret (v := .tuple #[.agg #[.int .i64 0, .int .i64 0, .int .i64 0, .int .i64 0, .int .i64 0, .int .i64 0, .int .i64 0, .int .i64 0, .int .i64 0, .int .i64 0], .int .i64 4]) ?_ rfl ⟨rfl, ?_⟩
    · simp [results, Tryd.results29, go_sem, q0, q1, q2, q3, q4, q5, q6, q7, q8, q9]
    · (have hzS := HB5.out.size; (repeat (with_reducible first | exact HB5.out | refine Below.setCell ?_ ?_ _ | refine Below.alloc ?_ ?_ _ | refine Below.drew ?_ | refine bDrewN ?_ _)); all_goals ((try simp) <;> omega))⟩
  clear hK
  have hix : ∀ W : World, (Instr.index 125 (.agg #[.nilFunc, .func (.func 87) #[] #[], .func (.func 88) #[] #[], .func (.func 89) #[] #[], .func (.func 90) #[] #[], .func (.func 91) #[] #[], .func (.func 92) #[] #[]]) (.int .i64 4)).run Tryd.prog W = .ok (.func (.func 90) #[] #[]) W := fun _ => by kernel_rfl
  go_region_with (first | (go_at_call 64; refine (doings_any _).mono ?_; rintro e w4 ⟨rfl, rfl⟩) | (go_at_call 90; refine (HF.out _ _ (vat_in V0.out (by (repeat (with_reducible first | exact Below.refl _ _ | refine Below.alloc ?_ ?_ _ | refine Below.drew ?_ | refine bDrewN ?_ _)); all_goals ((try simp) <;> omega)))).mono ?_; rintro e w5 ⟨⟨x, rfl⟩, hg, hvat⟩))
  all_goals exact HK.out _ _ (done_of B0.out Z0.out (by (repeat (with_reducible first | exact Below.refl _ _ | refine Below.alloc ?_ ?_ _ | refine Below.drew ?_ | refine bDrewN ?_ _)); all_goals ((try simp) <;> omega)) hg hvat)
end Go.Proofs.YteidabpflfkdcaaDoor.Bt
