/-
  WALKS (layer 3, baths): the program's ValidVat.
-/
import Derived.Test.YteidabpflfkdcaaDoorBtWalkB
namespace Go.Proofs.YteidabpflfkdcaaDoor.Bt
open Go Go.RowKit

theorem vat_of {bw bs ba sw ss sa so gw gs ga : Int} : vatB ⟨⟨bw, bs, ba⟩, ⟨sw, ss, sa, so⟩, ⟨gw, gs, ga⟩⟩ = (bathB ⟨bw, bs, ba⟩ && skinB ⟨sw, ss, sa, so⟩ && bathB ⟨gw, gs, ga⟩ && bathB ⟨bw + sw + gw, bs + ss + gs, ba + sa + ga⟩) := rfl
theorem ValidVat_0 (bw bs ba sw ss sa so gw gs ga : Int) (w : World) (g0 : bathB ⟨bw, bs, ba⟩ = false) :
    Calls Tryd.prog 27 #[.agg #[.int .i64 bw, .int .i64 bs, .int .i64 ba, .int .i64 sw, .int .i64 ss, .int .i64 sa, .int .i64 so, .int .i64 gw, .int .i64 gs, .int .i64 ga]] w fun e w' => e = .returned (.bool (vatB ⟨⟨bw, bs, ba⟩, ⟨sw, ss, sa, so⟩, ⟨gw, gs, ga⟩⟩)) ∧ Below w.heap.size w w' := by
  have G0 : Kp (bathB ⟨bw, bs, ba⟩ = false) := ⟨g0⟩
  have HS : Kp (vatB ⟨⟨bw, bs, ba⟩, ⟨sw, ss, sa, so⟩, ⟨gw, gs, ga⟩⟩ = false) := ⟨by rw [vat_of, g0]; simp⟩
  clear g0
  go_enter Tryd.func27, Tryd.ntmps27
  go_wp2_with fail
  refine (ValidBath_no bw bs ba _ G0.out).mono ?_
  rintro e w1 ⟨rfl, hb1⟩
  have HB1 : Kp (Below w.heap.size w w1) := ⟨Below.trans (by repeat (first | exact Below.refl _ _ | refine Below.alloc ?_ (by simp <;> omega) _ | refine bDrewN ?_ _ | refine Below.drew ?_)) (hb1.mono (by simp <;> omega))⟩
  have hz1 : w.heap.size < w1.heap.size := by have := hb1.size; simp at this; omega
  have c1_0 : w1.cell? ⟨w.heap.size, 0, none⟩ = some (.int .i64 bw) := ((bcell hb1).1 _ _ (by simp)).trans (by go_simp)
  have c1_1 : w1.cell? ⟨w.heap.size, 1, none⟩ = some (.int .i64 bs) := ((bcell hb1).1 _ _ (by simp)).trans (by go_simp)
  have c1_2 : w1.cell? ⟨w.heap.size, 2, none⟩ = some (.int .i64 ba) := ((bcell hb1).1 _ _ (by simp)).trans (by go_simp)
  have c1_3 : w1.cell? ⟨w.heap.size, 3, none⟩ = some (.int .i64 sw) := ((bcell hb1).1 _ _ (by simp)).trans (by go_simp)
  have c1_4 : w1.cell? ⟨w.heap.size, 4, none⟩ = some (.int .i64 ss) := ((bcell hb1).1 _ _ (by simp)).trans (by go_simp)
  have c1_5 : w1.cell? ⟨w.heap.size, 5, none⟩ = some (.int .i64 sa) := ((bcell hb1).1 _ _ (by simp)).trans (by go_simp)
  have c1_6 : w1.cell? ⟨w.heap.size, 6, none⟩ = some (.int .i64 so) := ((bcell hb1).1 _ _ (by simp)).trans (by go_simp)
  have c1_7 : w1.cell? ⟨w.heap.size, 7, none⟩ = some (.int .i64 gw) := ((bcell hb1).1 _ _ (by simp)).trans (by go_simp)
  have c1_8 : w1.cell? ⟨w.heap.size, 8, none⟩ = some (.int .i64 gs) := ((bcell hb1).1 _ _ (by simp)).trans (by go_simp)
  have c1_9 : w1.cell? ⟨w.heap.size, 9, none⟩ = some (.int .i64 ga) := ((bcell hb1).1 _ _ (by simp)).trans (by go_simp)
  clear hb1
  go_wp2
  go_ret
  exact ⟨ret_bool HS.out.symm, HB1.out⟩
theorem ValidVat_1 (bw bs ba sw ss sa so gw gs ga : Int) (w : World) (g0 : bathB ⟨bw, bs, ba⟩ = true) (g1 : skinB ⟨sw, ss, sa, so⟩ = false) :
    Calls Tryd.prog 27 #[.agg #[.int .i64 bw, .int .i64 bs, .int .i64 ba, .int .i64 sw, .int .i64 ss, .int .i64 sa, .int .i64 so, .int .i64 gw, .int .i64 gs, .int .i64 ga]] w fun e w' => e = .returned (.bool (vatB ⟨⟨bw, bs, ba⟩, ⟨sw, ss, sa, so⟩, ⟨gw, gs, ga⟩⟩)) ∧ Below w.heap.size w w' := by
  have G0 : Kp (bathB ⟨bw, bs, ba⟩ = true) := ⟨g0⟩
  have G1 : Kp (skinB ⟨sw, ss, sa, so⟩ = false) := ⟨g1⟩
  have HS : Kp (vatB ⟨⟨bw, bs, ba⟩, ⟨sw, ss, sa, so⟩, ⟨gw, gs, ga⟩⟩ = false) := ⟨by rw [vat_of, g0, g1]; simp⟩
  clear g0 g1
  go_enter Tryd.func27, Tryd.ntmps27
  go_wp2_with fail
  refine (ValidBath_yes bw bs ba _ G0.out).mono ?_
  rintro e w1 ⟨rfl, hb1⟩
  have HB1 : Kp (Below w.heap.size w w1) := ⟨Below.trans (by repeat (first | exact Below.refl _ _ | refine Below.alloc ?_ (by simp <;> omega) _ | refine bDrewN ?_ _ | refine Below.drew ?_)) (hb1.mono (by simp <;> omega))⟩
  have hz1 : w.heap.size < w1.heap.size := by have := hb1.size; simp at this; omega
  have c1_0 : w1.cell? ⟨w.heap.size, 0, none⟩ = some (.int .i64 bw) := ((bcell hb1).1 _ _ (by simp)).trans (by go_simp)
  have c1_1 : w1.cell? ⟨w.heap.size, 1, none⟩ = some (.int .i64 bs) := ((bcell hb1).1 _ _ (by simp)).trans (by go_simp)
  have c1_2 : w1.cell? ⟨w.heap.size, 2, none⟩ = some (.int .i64 ba) := ((bcell hb1).1 _ _ (by simp)).trans (by go_simp)
  have c1_3 : w1.cell? ⟨w.heap.size, 3, none⟩ = some (.int .i64 sw) := ((bcell hb1).1 _ _ (by simp)).trans (by go_simp)
  have c1_4 : w1.cell? ⟨w.heap.size, 4, none⟩ = some (.int .i64 ss) := ((bcell hb1).1 _ _ (by simp)).trans (by go_simp)
  have c1_5 : w1.cell? ⟨w.heap.size, 5, none⟩ = some (.int .i64 sa) := ((bcell hb1).1 _ _ (by simp)).trans (by go_simp)
  have c1_6 : w1.cell? ⟨w.heap.size, 6, none⟩ = some (.int .i64 so) := ((bcell hb1).1 _ _ (by simp)).trans (by go_simp)
  have c1_7 : w1.cell? ⟨w.heap.size, 7, none⟩ = some (.int .i64 gw) := ((bcell hb1).1 _ _ (by simp)).trans (by go_simp)
  have c1_8 : w1.cell? ⟨w.heap.size, 8, none⟩ = some (.int .i64 gs) := ((bcell hb1).1 _ _ (by simp)).trans (by go_simp)
  have c1_9 : w1.cell? ⟨w.heap.size, 9, none⟩ = some (.int .i64 ga) := ((bcell hb1).1 _ _ (by simp)).trans (by go_simp)
  clear hb1
  go_wp2_with fail
  refine (ValidSkin_no sw ss sa so _ G1.out).mono ?_
  rintro e w2 ⟨rfl, hb2⟩
  have HB2 : Kp (Below w.heap.size w w2) := ⟨HB1.out.trans (hb2.mono (by omega))⟩
  have hz2 : w.heap.size < w2.heap.size := by have := hb2.size; omega
  have c2_0 : w2.cell? ⟨w.heap.size, 0, none⟩ = some (.int .i64 bw) := ((bcell hb2).1 _ _ (by omega)).trans c1_0
  have c2_1 : w2.cell? ⟨w.heap.size, 1, none⟩ = some (.int .i64 bs) := ((bcell hb2).1 _ _ (by omega)).trans c1_1
  have c2_2 : w2.cell? ⟨w.heap.size, 2, none⟩ = some (.int .i64 ba) := ((bcell hb2).1 _ _ (by omega)).trans c1_2
  have c2_3 : w2.cell? ⟨w.heap.size, 3, none⟩ = some (.int .i64 sw) := ((bcell hb2).1 _ _ (by omega)).trans c1_3
  have c2_4 : w2.cell? ⟨w.heap.size, 4, none⟩ = some (.int .i64 ss) := ((bcell hb2).1 _ _ (by omega)).trans c1_4
  have c2_5 : w2.cell? ⟨w.heap.size, 5, none⟩ = some (.int .i64 sa) := ((bcell hb2).1 _ _ (by omega)).trans c1_5
  have c2_6 : w2.cell? ⟨w.heap.size, 6, none⟩ = some (.int .i64 so) := ((bcell hb2).1 _ _ (by omega)).trans c1_6
  have c2_7 : w2.cell? ⟨w.heap.size, 7, none⟩ = some (.int .i64 gw) := ((bcell hb2).1 _ _ (by omega)).trans c1_7
  have c2_8 : w2.cell? ⟨w.heap.size, 8, none⟩ = some (.int .i64 gs) := ((bcell hb2).1 _ _ (by omega)).trans c1_8
  have c2_9 : w2.cell? ⟨w.heap.size, 9, none⟩ = some (.int .i64 ga) := ((bcell hb2).1 _ _ (by omega)).trans c1_9
  clear hb2 hz1 c1_0 c1_1 c1_2 c1_3 c1_4 c1_5 c1_6 c1_7 c1_8 c1_9
  go_wp2
  go_ret
  exact ⟨ret_bool HS.out.symm, HB2.out⟩
theorem ValidVat_2 (bw bs ba sw ss sa so gw gs ga : Int) (w : World) (g0 : bathB ⟨bw, bs, ba⟩ = true) (g1 : skinB ⟨sw, ss, sa, so⟩ = true) (g2 : bathB ⟨gw, gs, ga⟩ = false) :
    Calls Tryd.prog 27 #[.agg #[.int .i64 bw, .int .i64 bs, .int .i64 ba, .int .i64 sw, .int .i64 ss, .int .i64 sa, .int .i64 so, .int .i64 gw, .int .i64 gs, .int .i64 ga]] w fun e w' => e = .returned (.bool (vatB ⟨⟨bw, bs, ba⟩, ⟨sw, ss, sa, so⟩, ⟨gw, gs, ga⟩⟩)) ∧ Below w.heap.size w w' := by
  have G0 : Kp (bathB ⟨bw, bs, ba⟩ = true) := ⟨g0⟩
  have G1 : Kp (skinB ⟨sw, ss, sa, so⟩ = true) := ⟨g1⟩
  have G2 : Kp (bathB ⟨gw, gs, ga⟩ = false) := ⟨g2⟩
  have HS : Kp (vatB ⟨⟨bw, bs, ba⟩, ⟨sw, ss, sa, so⟩, ⟨gw, gs, ga⟩⟩ = false) := ⟨by rw [vat_of, g0, g1, g2]; simp⟩
  clear g0 g1 g2
  go_enter Tryd.func27, Tryd.ntmps27
  go_wp2_with fail
  refine (ValidBath_yes bw bs ba _ G0.out).mono ?_
  rintro e w1 ⟨rfl, hb1⟩
  have HB1 : Kp (Below w.heap.size w w1) := ⟨Below.trans (by repeat (first | exact Below.refl _ _ | refine Below.alloc ?_ (by simp <;> omega) _ | refine bDrewN ?_ _ | refine Below.drew ?_)) (hb1.mono (by simp <;> omega))⟩
  have hz1 : w.heap.size < w1.heap.size := by have := hb1.size; simp at this; omega
  have c1_0 : w1.cell? ⟨w.heap.size, 0, none⟩ = some (.int .i64 bw) := ((bcell hb1).1 _ _ (by simp)).trans (by go_simp)
  have c1_1 : w1.cell? ⟨w.heap.size, 1, none⟩ = some (.int .i64 bs) := ((bcell hb1).1 _ _ (by simp)).trans (by go_simp)
  have c1_2 : w1.cell? ⟨w.heap.size, 2, none⟩ = some (.int .i64 ba) := ((bcell hb1).1 _ _ (by simp)).trans (by go_simp)
  have c1_3 : w1.cell? ⟨w.heap.size, 3, none⟩ = some (.int .i64 sw) := ((bcell hb1).1 _ _ (by simp)).trans (by go_simp)
  have c1_4 : w1.cell? ⟨w.heap.size, 4, none⟩ = some (.int .i64 ss) := ((bcell hb1).1 _ _ (by simp)).trans (by go_simp)
  have c1_5 : w1.cell? ⟨w.heap.size, 5, none⟩ = some (.int .i64 sa) := ((bcell hb1).1 _ _ (by simp)).trans (by go_simp)
  have c1_6 : w1.cell? ⟨w.heap.size, 6, none⟩ = some (.int .i64 so) := ((bcell hb1).1 _ _ (by simp)).trans (by go_simp)
  have c1_7 : w1.cell? ⟨w.heap.size, 7, none⟩ = some (.int .i64 gw) := ((bcell hb1).1 _ _ (by simp)).trans (by go_simp)
  have c1_8 : w1.cell? ⟨w.heap.size, 8, none⟩ = some (.int .i64 gs) := ((bcell hb1).1 _ _ (by simp)).trans (by go_simp)
  have c1_9 : w1.cell? ⟨w.heap.size, 9, none⟩ = some (.int .i64 ga) := ((bcell hb1).1 _ _ (by simp)).trans (by go_simp)
  clear hb1
  go_wp2_with fail
  refine (ValidSkin_yes sw ss sa so _ G1.out).mono ?_
  rintro e w2 ⟨rfl, hb2⟩
  have HB2 : Kp (Below w.heap.size w w2) := ⟨HB1.out.trans (hb2.mono (by omega))⟩
  have hz2 : w.heap.size < w2.heap.size := by have := hb2.size; omega
  have c2_0 : w2.cell? ⟨w.heap.size, 0, none⟩ = some (.int .i64 bw) := ((bcell hb2).1 _ _ (by omega)).trans c1_0
  have c2_1 : w2.cell? ⟨w.heap.size, 1, none⟩ = some (.int .i64 bs) := ((bcell hb2).1 _ _ (by omega)).trans c1_1
  have c2_2 : w2.cell? ⟨w.heap.size, 2, none⟩ = some (.int .i64 ba) := ((bcell hb2).1 _ _ (by omega)).trans c1_2
  have c2_3 : w2.cell? ⟨w.heap.size, 3, none⟩ = some (.int .i64 sw) := ((bcell hb2).1 _ _ (by omega)).trans c1_3
  have c2_4 : w2.cell? ⟨w.heap.size, 4, none⟩ = some (.int .i64 ss) := ((bcell hb2).1 _ _ (by omega)).trans c1_4
  have c2_5 : w2.cell? ⟨w.heap.size, 5, none⟩ = some (.int .i64 sa) := ((bcell hb2).1 _ _ (by omega)).trans c1_5
  have c2_6 : w2.cell? ⟨w.heap.size, 6, none⟩ = some (.int .i64 so) := ((bcell hb2).1 _ _ (by omega)).trans c1_6
  have c2_7 : w2.cell? ⟨w.heap.size, 7, none⟩ = some (.int .i64 gw) := ((bcell hb2).1 _ _ (by omega)).trans c1_7
  have c2_8 : w2.cell? ⟨w.heap.size, 8, none⟩ = some (.int .i64 gs) := ((bcell hb2).1 _ _ (by omega)).trans c1_8
  have c2_9 : w2.cell? ⟨w.heap.size, 9, none⟩ = some (.int .i64 ga) := ((bcell hb2).1 _ _ (by omega)).trans c1_9
  clear hb2 hz1 c1_0 c1_1 c1_2 c1_3 c1_4 c1_5 c1_6 c1_7 c1_8 c1_9
  go_wp2_with fail
  refine (ValidBath_no gw gs ga _ G2.out).mono ?_
  rintro e w3 ⟨rfl, hb3⟩
  have HB3 : Kp (Below w.heap.size w w3) := ⟨HB2.out.trans (hb3.mono (by omega))⟩
  have hz3 : w.heap.size < w3.heap.size := by have := hb3.size; omega
  have c3_0 : w3.cell? ⟨w.heap.size, 0, none⟩ = some (.int .i64 bw) := ((bcell hb3).1 _ _ (by omega)).trans c2_0
  have c3_1 : w3.cell? ⟨w.heap.size, 1, none⟩ = some (.int .i64 bs) := ((bcell hb3).1 _ _ (by omega)).trans c2_1
  have c3_2 : w3.cell? ⟨w.heap.size, 2, none⟩ = some (.int .i64 ba) := ((bcell hb3).1 _ _ (by omega)).trans c2_2
  have c3_3 : w3.cell? ⟨w.heap.size, 3, none⟩ = some (.int .i64 sw) := ((bcell hb3).1 _ _ (by omega)).trans c2_3
  have c3_4 : w3.cell? ⟨w.heap.size, 4, none⟩ = some (.int .i64 ss) := ((bcell hb3).1 _ _ (by omega)).trans c2_4
  have c3_5 : w3.cell? ⟨w.heap.size, 5, none⟩ = some (.int .i64 sa) := ((bcell hb3).1 _ _ (by omega)).trans c2_5
  have c3_6 : w3.cell? ⟨w.heap.size, 6, none⟩ = some (.int .i64 so) := ((bcell hb3).1 _ _ (by omega)).trans c2_6
  have c3_7 : w3.cell? ⟨w.heap.size, 7, none⟩ = some (.int .i64 gw) := ((bcell hb3).1 _ _ (by omega)).trans c2_7
  have c3_8 : w3.cell? ⟨w.heap.size, 8, none⟩ = some (.int .i64 gs) := ((bcell hb3).1 _ _ (by omega)).trans c2_8
  have c3_9 : w3.cell? ⟨w.heap.size, 9, none⟩ = some (.int .i64 ga) := ((bcell hb3).1 _ _ (by omega)).trans c2_9
  clear hb3 hz2 c2_0 c2_1 c2_2 c2_3 c2_4 c2_5 c2_6 c2_7 c2_8 c2_9
  go_wp2
  go_ret
  exact ⟨ret_bool HS.out.symm, HB3.out⟩
theorem ValidVat_3 (bw bs ba sw ss sa so gw gs ga : Int) (w : World) (g0 : bathB ⟨bw, bs, ba⟩ = true) (g1 : skinB ⟨sw, ss, sa, so⟩ = true) (g2 : bathB ⟨gw, gs, ga⟩ = true) :
    Calls Tryd.prog 27 #[.agg #[.int .i64 bw, .int .i64 bs, .int .i64 ba, .int .i64 sw, .int .i64 ss, .int .i64 sa, .int .i64 so, .int .i64 gw, .int .i64 gs, .int .i64 ga]] w fun e w' => e = .returned (.bool (vatB ⟨⟨bw, bs, ba⟩, ⟨sw, ss, sa, so⟩, ⟨gw, gs, ga⟩⟩)) ∧ Below w.heap.size w w' := by
  have G0 : Kp (bathB ⟨bw, bs, ba⟩ = true) := ⟨g0⟩
  have G1 : Kp (skinB ⟨sw, ss, sa, so⟩ = true) := ⟨g1⟩
  have G2 : Kp (bathB ⟨gw, gs, ga⟩ = true) := ⟨g2⟩
  have HBD : Kp (Bds ⟨⟨bw, bs, ba⟩, ⟨sw, ss, sa, so⟩, ⟨gw, gs, ga⟩⟩) := ⟨bds_of g0 g1 g2⟩
  have HS : Kp (vatB ⟨⟨bw, bs, ba⟩, ⟨sw, ss, sa, so⟩, ⟨gw, gs, ga⟩⟩ = bathB ⟨bw + sw + gw, bs + ss + gs, ba + sa + ga⟩) := ⟨by rw [vat_of, g0, g1, g2]; rfl⟩
  clear g0 g1 g2
  go_enter Tryd.func27, Tryd.ntmps27
  go_wp2_with fail
  refine (ValidBath_yes bw bs ba _ G0.out).mono ?_
  rintro e w1 ⟨rfl, hb1⟩
  have HB1 : Kp (Below w.heap.size w w1) := ⟨Below.trans (by repeat (first | exact Below.refl _ _ | refine Below.alloc ?_ (by simp <;> omega) _ | refine bDrewN ?_ _ | refine Below.drew ?_)) (hb1.mono (by simp <;> omega))⟩
  have hz1 : w.heap.size < w1.heap.size := by have := hb1.size; simp at this; omega
  have c1_0 : w1.cell? ⟨w.heap.size, 0, none⟩ = some (.int .i64 bw) := ((bcell hb1).1 _ _ (by simp)).trans (by go_simp)
  have c1_1 : w1.cell? ⟨w.heap.size, 1, none⟩ = some (.int .i64 bs) := ((bcell hb1).1 _ _ (by simp)).trans (by go_simp)
  have c1_2 : w1.cell? ⟨w.heap.size, 2, none⟩ = some (.int .i64 ba) := ((bcell hb1).1 _ _ (by simp)).trans (by go_simp)
  have c1_3 : w1.cell? ⟨w.heap.size, 3, none⟩ = some (.int .i64 sw) := ((bcell hb1).1 _ _ (by simp)).trans (by go_simp)
  have c1_4 : w1.cell? ⟨w.heap.size, 4, none⟩ = some (.int .i64 ss) := ((bcell hb1).1 _ _ (by simp)).trans (by go_simp)
  have c1_5 : w1.cell? ⟨w.heap.size, 5, none⟩ = some (.int .i64 sa) := ((bcell hb1).1 _ _ (by simp)).trans (by go_simp)
  have c1_6 : w1.cell? ⟨w.heap.size, 6, none⟩ = some (.int .i64 so) := ((bcell hb1).1 _ _ (by simp)).trans (by go_simp)
  have c1_7 : w1.cell? ⟨w.heap.size, 7, none⟩ = some (.int .i64 gw) := ((bcell hb1).1 _ _ (by simp)).trans (by go_simp)
  have c1_8 : w1.cell? ⟨w.heap.size, 8, none⟩ = some (.int .i64 gs) := ((bcell hb1).1 _ _ (by simp)).trans (by go_simp)
  have c1_9 : w1.cell? ⟨w.heap.size, 9, none⟩ = some (.int .i64 ga) := ((bcell hb1).1 _ _ (by simp)).trans (by go_simp)
  clear hb1
  go_wp2_with fail
  refine (ValidSkin_yes sw ss sa so _ G1.out).mono ?_
  rintro e w2 ⟨rfl, hb2⟩
  have HB2 : Kp (Below w.heap.size w w2) := ⟨HB1.out.trans (hb2.mono (by omega))⟩
  have hz2 : w.heap.size < w2.heap.size := by have := hb2.size; omega
  have c2_0 : w2.cell? ⟨w.heap.size, 0, none⟩ = some (.int .i64 bw) := ((bcell hb2).1 _ _ (by omega)).trans c1_0
  have c2_1 : w2.cell? ⟨w.heap.size, 1, none⟩ = some (.int .i64 bs) := ((bcell hb2).1 _ _ (by omega)).trans c1_1
  have c2_2 : w2.cell? ⟨w.heap.size, 2, none⟩ = some (.int .i64 ba) := ((bcell hb2).1 _ _ (by omega)).trans c1_2
  have c2_3 : w2.cell? ⟨w.heap.size, 3, none⟩ = some (.int .i64 sw) := ((bcell hb2).1 _ _ (by omega)).trans c1_3
  have c2_4 : w2.cell? ⟨w.heap.size, 4, none⟩ = some (.int .i64 ss) := ((bcell hb2).1 _ _ (by omega)).trans c1_4
  have c2_5 : w2.cell? ⟨w.heap.size, 5, none⟩ = some (.int .i64 sa) := ((bcell hb2).1 _ _ (by omega)).trans c1_5
  have c2_6 : w2.cell? ⟨w.heap.size, 6, none⟩ = some (.int .i64 so) := ((bcell hb2).1 _ _ (by omega)).trans c1_6
  have c2_7 : w2.cell? ⟨w.heap.size, 7, none⟩ = some (.int .i64 gw) := ((bcell hb2).1 _ _ (by omega)).trans c1_7
  have c2_8 : w2.cell? ⟨w.heap.size, 8, none⟩ = some (.int .i64 gs) := ((bcell hb2).1 _ _ (by omega)).trans c1_8
  have c2_9 : w2.cell? ⟨w.heap.size, 9, none⟩ = some (.int .i64 ga) := ((bcell hb2).1 _ _ (by omega)).trans c1_9
  clear hb2 hz1 c1_0 c1_1 c1_2 c1_3 c1_4 c1_5 c1_6 c1_7 c1_8 c1_9
  go_wp2_with fail
  refine (ValidBath_yes gw gs ga _ G2.out).mono ?_
  rintro e w3 ⟨rfl, hb3⟩
  have HB3 : Kp (Below w.heap.size w w3) := ⟨HB2.out.trans (hb3.mono (by omega))⟩
  have hz3 : w.heap.size < w3.heap.size := by have := hb3.size; omega
  have c3_0 : w3.cell? ⟨w.heap.size, 0, none⟩ = some (.int .i64 bw) := ((bcell hb3).1 _ _ (by omega)).trans c2_0
  have c3_1 : w3.cell? ⟨w.heap.size, 1, none⟩ = some (.int .i64 bs) := ((bcell hb3).1 _ _ (by omega)).trans c2_1
  have c3_2 : w3.cell? ⟨w.heap.size, 2, none⟩ = some (.int .i64 ba) := ((bcell hb3).1 _ _ (by omega)).trans c2_2
  have c3_3 : w3.cell? ⟨w.heap.size, 3, none⟩ = some (.int .i64 sw) := ((bcell hb3).1 _ _ (by omega)).trans c2_3
  have c3_4 : w3.cell? ⟨w.heap.size, 4, none⟩ = some (.int .i64 ss) := ((bcell hb3).1 _ _ (by omega)).trans c2_4
  have c3_5 : w3.cell? ⟨w.heap.size, 5, none⟩ = some (.int .i64 sa) := ((bcell hb3).1 _ _ (by omega)).trans c2_5
  have c3_6 : w3.cell? ⟨w.heap.size, 6, none⟩ = some (.int .i64 so) := ((bcell hb3).1 _ _ (by omega)).trans c2_6
  have c3_7 : w3.cell? ⟨w.heap.size, 7, none⟩ = some (.int .i64 gw) := ((bcell hb3).1 _ _ (by omega)).trans c2_7
  have c3_8 : w3.cell? ⟨w.heap.size, 8, none⟩ = some (.int .i64 gs) := ((bcell hb3).1 _ _ (by omega)).trans c2_8
  have c3_9 : w3.cell? ⟨w.heap.size, 9, none⟩ = some (.int .i64 ga) := ((bcell hb3).1 _ _ (by omega)).trans c2_9
  clear hb3 hz2 c2_0 c2_1 c2_2 c2_3 c2_4 c2_5 c2_6 c2_7 c2_8 c2_9
  go_wp2_with fail
  refine (total_any bw bs ba sw ss sa so gw gs ga _ HBD.out).mono ?_
  rintro e w4 ⟨rfl, hb4⟩
  have HB4 : Kp (Below w.heap.size w w4) := ⟨HB3.out.trans (hb4.mono (by omega))⟩
  have hz4 : w.heap.size < w4.heap.size := by have := hb4.size; omega
  have c4_0 : w4.cell? ⟨w.heap.size, 0, none⟩ = some (.int .i64 bw) := ((bcell hb4).1 _ _ (by omega)).trans c3_0
  have c4_1 : w4.cell? ⟨w.heap.size, 1, none⟩ = some (.int .i64 bs) := ((bcell hb4).1 _ _ (by omega)).trans c3_1
  have c4_2 : w4.cell? ⟨w.heap.size, 2, none⟩ = some (.int .i64 ba) := ((bcell hb4).1 _ _ (by omega)).trans c3_2
  have c4_3 : w4.cell? ⟨w.heap.size, 3, none⟩ = some (.int .i64 sw) := ((bcell hb4).1 _ _ (by omega)).trans c3_3
  have c4_4 : w4.cell? ⟨w.heap.size, 4, none⟩ = some (.int .i64 ss) := ((bcell hb4).1 _ _ (by omega)).trans c3_4
  have c4_5 : w4.cell? ⟨w.heap.size, 5, none⟩ = some (.int .i64 sa) := ((bcell hb4).1 _ _ (by omega)).trans c3_5
  have c4_6 : w4.cell? ⟨w.heap.size, 6, none⟩ = some (.int .i64 so) := ((bcell hb4).1 _ _ (by omega)).trans c3_6
  have c4_7 : w4.cell? ⟨w.heap.size, 7, none⟩ = some (.int .i64 gw) := ((bcell hb4).1 _ _ (by omega)).trans c3_7
  have c4_8 : w4.cell? ⟨w.heap.size, 8, none⟩ = some (.int .i64 gs) := ((bcell hb4).1 _ _ (by omega)).trans c3_8
  have c4_9 : w4.cell? ⟨w.heap.size, 9, none⟩ = some (.int .i64 ga) := ((bcell hb4).1 _ _ (by omega)).trans c3_9
  clear hb4 hz3 c3_0 c3_1 c3_2 c3_3 c3_4 c3_5 c3_6 c3_7 c3_8 c3_9
  go_wp2_with fail
  refine (ValidBath_any _ _ _ _).mono ?_
  rintro e w5 ⟨rfl, hb5⟩
  have HB5 : Kp (Below w.heap.size w w5) := ⟨HB4.out.trans (hb5.mono (by omega))⟩
  have hz5 : w.heap.size < w5.heap.size := by have := hb5.size; omega
  have c5_0 : w5.cell? ⟨w.heap.size, 0, none⟩ = some (.int .i64 bw) := ((bcell hb5).1 _ _ (by omega)).trans c4_0
  have c5_1 : w5.cell? ⟨w.heap.size, 1, none⟩ = some (.int .i64 bs) := ((bcell hb5).1 _ _ (by omega)).trans c4_1
  have c5_2 : w5.cell? ⟨w.heap.size, 2, none⟩ = some (.int .i64 ba) := ((bcell hb5).1 _ _ (by omega)).trans c4_2
  have c5_3 : w5.cell? ⟨w.heap.size, 3, none⟩ = some (.int .i64 sw) := ((bcell hb5).1 _ _ (by omega)).trans c4_3
  have c5_4 : w5.cell? ⟨w.heap.size, 4, none⟩ = some (.int .i64 ss) := ((bcell hb5).1 _ _ (by omega)).trans c4_4
  have c5_5 : w5.cell? ⟨w.heap.size, 5, none⟩ = some (.int .i64 sa) := ((bcell hb5).1 _ _ (by omega)).trans c4_5
  have c5_6 : w5.cell? ⟨w.heap.size, 6, none⟩ = some (.int .i64 so) := ((bcell hb5).1 _ _ (by omega)).trans c4_6
  have c5_7 : w5.cell? ⟨w.heap.size, 7, none⟩ = some (.int .i64 gw) := ((bcell hb5).1 _ _ (by omega)).trans c4_7
  have c5_8 : w5.cell? ⟨w.heap.size, 8, none⟩ = some (.int .i64 gs) := ((bcell hb5).1 _ _ (by omega)).trans c4_8
  have c5_9 : w5.cell? ⟨w.heap.size, 9, none⟩ = some (.int .i64 ga) := ((bcell hb5).1 _ _ (by omega)).trans c4_9
  clear hb5 hz4 c4_0 c4_1 c4_2 c4_3 c4_4 c4_5 c4_6 c4_7 c4_8 c4_9
  go_wp2
  go_ret
  exact ⟨ret_bool HS.out.symm, HB5.out⟩
theorem ValidVat_any (bw bs ba sw ss sa so gw gs ga : Int) (w : World) :
    Calls Tryd.prog 27 #[.agg #[.int .i64 bw, .int .i64 bs, .int .i64 ba, .int .i64 sw, .int .i64 ss, .int .i64 sa, .int .i64 so, .int .i64 gw, .int .i64 gs, .int .i64 ga]] w fun e w' => e = .returned (.bool (vatB ⟨⟨bw, bs, ba⟩, ⟨sw, ss, sa, so⟩, ⟨gw, gs, ga⟩⟩)) ∧ Below w.heap.size w w' := by
  cases g0 : bathB ⟨bw, bs, ba⟩ with
  | false => exact ValidVat_0 bw bs ba sw ss sa so gw gs ga w g0
  | true =>
    cases g1 : skinB ⟨sw, ss, sa, so⟩ with
    | false => exact ValidVat_1 bw bs ba sw ss sa so gw gs ga w g0 g1
    | true =>
      cases g2 : bathB ⟨gw, gs, ga⟩ with
      | false => exact ValidVat_2 bw bs ba sw ss sa so gw gs ga w g0 g1 g2
      | true => exact ValidVat_3 bw bs ba sw ss sa so gw gs ga w g0 g1 g2
theorem ValidVat_yes (bw bs ba sw ss sa so gw gs ga : Int) (w : World) (h : vatB ⟨⟨bw, bs, ba⟩, ⟨sw, ss, sa, so⟩, ⟨gw, gs, ga⟩⟩ = true) :
    Calls Tryd.prog 27 #[.agg #[.int .i64 bw, .int .i64 bs, .int .i64 ba, .int .i64 sw, .int .i64 ss, .int .i64 sa, .int .i64 so, .int .i64 gw, .int .i64 gs, .int .i64 ga]] w fun e w' => e = .returned (.bool true) ∧ Below w.heap.size w w' :=
  (ValidVat_any bw bs ba sw ss sa so gw gs ga w).mono fun _ _ ⟨he, hb⟩ => ⟨by rw [he, h], hb⟩
theorem ValidVat_no (bw bs ba sw ss sa so gw gs ga : Int) (w : World) (h : vatB ⟨⟨bw, bs, ba⟩, ⟨sw, ss, sa, so⟩, ⟨gw, gs, ga⟩⟩ = false) :
    Calls Tryd.prog 27 #[.agg #[.int .i64 bw, .int .i64 bs, .int .i64 ba, .int .i64 sw, .int .i64 ss, .int .i64 sa, .int .i64 so, .int .i64 gw, .int .i64 gs, .int .i64 ga]] w fun e w' => e = .returned (.bool false) ∧ Below w.heap.size w w' :=
  (ValidVat_any bw bs ba sw ss sa so gw gs ga w).mono fun _ _ ⟨he, hb⟩ => ⟨by rw [he, h], hb⟩

end Go.Proofs.YteidabpflfkdcaaDoor.Bt
