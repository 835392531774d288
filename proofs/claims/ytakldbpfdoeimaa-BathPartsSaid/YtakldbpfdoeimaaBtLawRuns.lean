/-
  THE WALK of the law BathRuns.
-/
import Derived.Test.YtakldbpfdoeimaaBtRDoM
import Derived.Test.YtakldbpfdoeimaaBtLawValid
import Derived.Deep.CutRange
import Derived.Deep.DeepCutAuto
namespace Go.Proofs.Ytakldbpfdoeimaa.Bt
open Go Go.RowKit

/-- What both Do answer at a vat and a step. -/
def Both (bw bs ba sw ss sa so gw gs ga k n x0 x1 x2 x3 x4 x5 x6 x7 x8 x9 E : Int) : Prop := StepC 32 bw bs ba sw ss sa so gw gs ga k n x0 x1 x2 x3 x4 x5 x6 x7 x8 x9 E ∧ StepC 33 bw bs ba sw ss sa so gw gs ga k n x0 x1 x2 x3 x4 x5 x6 x7 x8 x9 E
theorem do_both (bw bs ba sw ss sa so gw gs ga k n : Int) : ∃ x0 x1 x2 x3 x4 x5 x6 x7 x8 x9 E, Both bw bs ba sw ss sa so gw gs ga k n x0 x1 x2 x3 x4 x5 x6 x7 x8 x9 E := by
  cases hv : vatB ⟨⟨bw, bs, ba⟩, ⟨sw, ss, sa, so⟩, ⟨gw, gs, ga⟩⟩ with
  | false => exact ⟨_, _, _, _, _, _, _, _, _, _, _, fun W => Do_inv bw bs ba sw ss sa so gw gs ga k n W hv, fun W => rDo_inv bw bs ba sw ss sa so gw gs ga k n W hv⟩
  | true =>
    cases hs : stepB ⟨k, n⟩ with
    | false => exact ⟨_, _, _, _, _, _, _, _, _, _, _, fun W => Do_bad bw bs ba sw ss sa so gw gs ga k n W hv hs, fun W => rDo_bad bw bs ba sw ss sa so gw gs ga k n W hv hs⟩
    | true =>
      cases h : vatB (doS ⟨⟨bw, bs, ba⟩, ⟨sw, ss, sa, so⟩, ⟨gw, gs, ga⟩⟩ k n) with
      | true => exact ⟨_, _, _, _, _, _, _, _, _, _, _, fun W => Do_ok bw bs ba sw ss sa so gw gs ga k n _ _ _ _ _ _ _ _ _ _ 0 W ⟨after_ok bw bs ba sw ss sa so gw gs ga k n hv hs h⟩ hv hs, rdo_ok bw bs ba sw ss sa so gw gs ga k n hv hs h⟩
      | false => exact ⟨_, _, _, _, _, _, _, _, _, _, _, fun W => Do_ok bw bs ba sw ss sa so gw gs ga k n _ _ _ _ _ _ _ _ _ _ 4 W ⟨after_bad bw bs ba sw ss sa so gw gs ga k n hv hs h⟩ hv hs, rdo_bad bw bs ba sw ss sa so gw gs ga k n hv hs h⟩
theorem run_both (bw bs ba sw ss sa so gw gs ga : Int) (v : Value) (l : List St) (w : World) (hs : RS w v l) (hl : l.length ≤ 300) : ∃ (u : Va) (i e : Int), ∀ W, Below w.heap.size w W → RunC 30 bw bs ba sw ss sa so gw gs ga v W u i e ∧ RunC 31 bw bs ba sw ss sa so gw gs ga v W u i e := by
  cases hv : vatB ⟨⟨bw, bs, ba⟩, ⟨sw, ss, sa, so⟩, ⟨gw, gs, ga⟩⟩ with
  | false => exact ⟨_, _, _, fun W _ => ⟨Run_inv bw bs ba sw ss sa so gw gs ga v W hv, rRun_inv bw bs ba sw ss sa so gw gs ga v W hv⟩⟩
  | true =>
    cases h : stepsB l with
    | false => exact ⟨_, _, _, fun W hW => ⟨Run_bad bw bs ba sw ss sa so gw gs ga v l W hv (hs.below hW) hl h, rRun_bad bw bs ba sw ss sa so gw gs ga v l W hv (hs.below hW) hl h⟩⟩
    | true => exact ⟨_, _, _, fun W hW => ⟨Run_yes bw bs ba sw ss sa so gw gs ga v l W hv (hs.below hW) hl h, rRun_yes ⟨rdo_ok⟩ ⟨rdo_bad⟩ bw bs ba sw ss sa so gw gs ga v l W hv (hs.below hW) hl h⟩⟩
set_option maxHeartbeats 1000000 in
theorem runs_core (bw bs ba sw ss sa so gw gs ga y0 y1 y2 y3 y4 y5 y6 y7 y8 y9 i e : Int) (g : Option Addr) (c : Nat) (l : List St) (w : World) (hl : l.length ≤ 300) (hs : RS w (.slice g l.length c) l)
    (H1 : Kp (∀ W, Below w.heap.size w W → Calls Try.prog 30 #[.agg #[.int .i64 bw, .int .i64 bs, .int .i64 ba, .int .i64 sw, .int .i64 ss, .int .i64 sa, .int .i64 so, .int .i64 gw, .int .i64 gs, .int .i64 ga], .slice g l.length c] W fun en w' => en = .returned (.tuple #[.agg #[.int .i64 y0, .int .i64 y1, .int .i64 y2, .int .i64 y3, .int .i64 y4, .int .i64 y5, .int .i64 y6, .int .i64 y7, .int .i64 y8, .int .i64 y9], .int .i64 i, .int .i64 e]) ∧ Below W.heap.size W w'))
    (H2 : Kp (∀ W, Below w.heap.size w W → Calls Try.prog 31 #[.agg #[.int .i64 bw, .int .i64 bs, .int .i64 ba, .int .i64 sw, .int .i64 ss, .int .i64 sa, .int .i64 so, .int .i64 gw, .int .i64 gs, .int .i64 ga], .slice g l.length c] W fun en w' => en = .returned (.tuple #[.agg #[.int .i64 y0, .int .i64 y1, .int .i64 y2, .int .i64 y3, .int .i64 y4, .int .i64 y5, .int .i64 y6, .int .i64 y7, .int .i64 y8, .int .i64 y9], .int .i64 i, .int .i64 e]) ∧ Below W.heap.size W w')) :
    Calls Try.prog 5 #[.agg #[.int .i64 bw, .int .i64 bs, .int .i64 ba, .int .i64 sw, .int .i64 ss, .int .i64 sa, .int .i64 so, .int .i64 gw, .int .i64 gs, .int .i64 ga], .slice g l.length c] w (Ends w) := by
  have HL := Lib.hid hl
  have HS := Lib.hid hs
  clear hl hs
  go_enter Try.func5, Try.ntmps5
  go_wp2_with fail
  refine (long_no _ _ _ _ HL.out).mono ?_
  rintro e0 w0 ⟨rfl, rfl⟩
  go_wp2_with fail
  refine (H1.out _ (by repeat (first | exact Below.refl _ _ | refine Below.alloc ?_ (by simp <;> omega) _ | refine bDrewN ?_ _ | refine Below.drew ?_))).mono ?_
  rintro e0 w1 ⟨rfl, hb1⟩
  have HB1 : Kp (Below w.heap.size w w1) := ⟨Below.trans (by repeat (first | refine Below.alloc ?_ (by (try simp) <;> omega) _ | refine bDrewN ?_ _ | refine Below.drew ?_ | exact Below.refl _ _)) (hb1.mono (by (try simp) <;> omega))⟩
  have hz1_0 : w.heap.size < w1.heap.size := by have := hb1.size; (try simp at this); omega
  obtain ⟨hc, hf⟩ := bcell hb1
  have c1_0_0 : w1.cell? ⟨w.heap.size, 0, none⟩ = some (.int .i64 bw) := (hc _ _ (by (try simp) <;> omega)).trans (by go_simp)
  have c1_0_1 : w1.cell? ⟨w.heap.size, 1, none⟩ = some (.int .i64 bs) := (hc _ _ (by (try simp) <;> omega)).trans (by go_simp)
  have c1_0_2 : w1.cell? ⟨w.heap.size, 2, none⟩ = some (.int .i64 ba) := (hc _ _ (by (try simp) <;> omega)).trans (by go_simp)
  have c1_0_3 : w1.cell? ⟨w.heap.size, 3, none⟩ = some (.int .i64 sw) := (hc _ _ (by (try simp) <;> omega)).trans (by go_simp)
  have c1_0_4 : w1.cell? ⟨w.heap.size, 4, none⟩ = some (.int .i64 ss) := (hc _ _ (by (try simp) <;> omega)).trans (by go_simp)
  have c1_0_5 : w1.cell? ⟨w.heap.size, 5, none⟩ = some (.int .i64 sa) := (hc _ _ (by (try simp) <;> omega)).trans (by go_simp)
  have c1_0_6 : w1.cell? ⟨w.heap.size, 6, none⟩ = some (.int .i64 so) := (hc _ _ (by (try simp) <;> omega)).trans (by go_simp)
  have c1_0_7 : w1.cell? ⟨w.heap.size, 7, none⟩ = some (.int .i64 gw) := (hc _ _ (by (try simp) <;> omega)).trans (by go_simp)
  have c1_0_8 : w1.cell? ⟨w.heap.size, 8, none⟩ = some (.int .i64 gs) := (hc _ _ (by (try simp) <;> omega)).trans (by go_simp)
  have c1_0_9 : w1.cell? ⟨w.heap.size, 9, none⟩ = some (.int .i64 ga) := (hc _ _ (by (try simp) <;> omega)).trans (by go_simp)
  have z1_0 : ∀ j, w1.frozen? ⟨w.heap.size, j, none⟩ = false := fun j => (hf _ _ (by (try simp) <;> omega)).trans (by go_simp)
  clear hc hf hb1
  go_wp2_with fail
  refine (H2.out _ (HB1.out.alloc HB1.out.size _)).mono ?_
  rintro e0 w2 ⟨rfl, hb2⟩
  have HB2 : Kp (Below w.heap.size w w2) := ⟨Below.trans (by repeat (first | refine Below.alloc ?_ (by have := HB1.out.size; (try simp) <;> omega) _ | refine bDrewN ?_ _ | refine Below.drew ?_ | exact HB1.out)) (hb2.mono (by have := HB1.out.size; (try simp) <;> omega))⟩
  have hz2_0 : w.heap.size < w2.heap.size := by have := hb2.size; (try simp at this); omega
  have hz2_1 : w1.heap.size < w2.heap.size := by have := hb2.size; (try simp at this); omega
  obtain ⟨hc, hf⟩ := bcell hb2
  have c2_0_0 : w2.cell? ⟨w.heap.size, 0, none⟩ = some (.int .i64 bw) := (hc _ _ (by (try simp) <;> omega)).trans (by go_simp)
  have c2_0_1 : w2.cell? ⟨w.heap.size, 1, none⟩ = some (.int .i64 bs) := (hc _ _ (by (try simp) <;> omega)).trans (by go_simp)
  have c2_0_2 : w2.cell? ⟨w.heap.size, 2, none⟩ = some (.int .i64 ba) := (hc _ _ (by (try simp) <;> omega)).trans (by go_simp)
  have c2_0_3 : w2.cell? ⟨w.heap.size, 3, none⟩ = some (.int .i64 sw) := (hc _ _ (by (try simp) <;> omega)).trans (by go_simp)
  have c2_0_4 : w2.cell? ⟨w.heap.size, 4, none⟩ = some (.int .i64 ss) := (hc _ _ (by (try simp) <;> omega)).trans (by go_simp)
  have c2_0_5 : w2.cell? ⟨w.heap.size, 5, none⟩ = some (.int .i64 sa) := (hc _ _ (by (try simp) <;> omega)).trans (by go_simp)
  have c2_0_6 : w2.cell? ⟨w.heap.size, 6, none⟩ = some (.int .i64 so) := (hc _ _ (by (try simp) <;> omega)).trans (by go_simp)
  have c2_0_7 : w2.cell? ⟨w.heap.size, 7, none⟩ = some (.int .i64 gw) := (hc _ _ (by (try simp) <;> omega)).trans (by go_simp)
  have c2_0_8 : w2.cell? ⟨w.heap.size, 8, none⟩ = some (.int .i64 gs) := (hc _ _ (by (try simp) <;> omega)).trans (by go_simp)
  have c2_0_9 : w2.cell? ⟨w.heap.size, 9, none⟩ = some (.int .i64 ga) := (hc _ _ (by (try simp) <;> omega)).trans (by go_simp)
  have z2_0 : ∀ j, w2.frozen? ⟨w.heap.size, j, none⟩ = false := fun j => (hf _ _ (by (try simp) <;> omega)).trans (by go_simp)
  have c2_1_0 : w2.cell? ⟨w1.heap.size, 0, none⟩ = some (.int .i64 y0) := (hc _ _ (by (try simp) <;> omega)).trans (by go_simp)
  have c2_1_1 : w2.cell? ⟨w1.heap.size, 1, none⟩ = some (.int .i64 y1) := (hc _ _ (by (try simp) <;> omega)).trans (by go_simp)
  have c2_1_2 : w2.cell? ⟨w1.heap.size, 2, none⟩ = some (.int .i64 y2) := (hc _ _ (by (try simp) <;> omega)).trans (by go_simp)
  have c2_1_3 : w2.cell? ⟨w1.heap.size, 3, none⟩ = some (.int .i64 y3) := (hc _ _ (by (try simp) <;> omega)).trans (by go_simp)
  have c2_1_4 : w2.cell? ⟨w1.heap.size, 4, none⟩ = some (.int .i64 y4) := (hc _ _ (by (try simp) <;> omega)).trans (by go_simp)
  have c2_1_5 : w2.cell? ⟨w1.heap.size, 5, none⟩ = some (.int .i64 y5) := (hc _ _ (by (try simp) <;> omega)).trans (by go_simp)
  have c2_1_6 : w2.cell? ⟨w1.heap.size, 6, none⟩ = some (.int .i64 y6) := (hc _ _ (by (try simp) <;> omega)).trans (by go_simp)
  have c2_1_7 : w2.cell? ⟨w1.heap.size, 7, none⟩ = some (.int .i64 y7) := (hc _ _ (by (try simp) <;> omega)).trans (by go_simp)
  have c2_1_8 : w2.cell? ⟨w1.heap.size, 8, none⟩ = some (.int .i64 y8) := (hc _ _ (by (try simp) <;> omega)).trans (by go_simp)
  have c2_1_9 : w2.cell? ⟨w1.heap.size, 9, none⟩ = some (.int .i64 y9) := (hc _ _ (by (try simp) <;> omega)).trans (by go_simp)
  have z2_1 : ∀ j, w2.frozen? ⟨w1.heap.size, j, none⟩ = false := fun j => (hf _ _ (by (try simp) <;> omega)).trans (by go_simp)
  clear hc hf hb2
  have HI : Kp (VatAt w2 w.heap.size ⟨⟨bw, bs, ba⟩, ⟨sw, ss, sa, so⟩, ⟨gw, gs, ga⟩⟩) := ⟨⟨c2_0_0, c2_0_1, c2_0_2, c2_0_3, c2_0_4, c2_0_5, c2_0_6, c2_0_7, c2_0_8, c2_0_9, z2_0⟩⟩
  have HO : Kp (VatAt w2 w1.heap.size ⟨⟨y0, y1, y2⟩, ⟨y3, y4, y5, y6⟩, ⟨y7, y8, y9⟩⟩) := ⟨⟨c2_1_0, c2_1_1, c2_1_2, c2_1_3, c2_1_4, c2_1_5, c2_1_6, c2_1_7, c2_1_8, c2_1_9, z2_1⟩⟩
  have HI3 : Kp (VatAt (w2.alloc (.cells #[.int .i64 y0, .int .i64 y1, .int .i64 y2, .int .i64 y3, .int .i64 y4, .int .i64 y5, .int .i64 y6, .int .i64 y7, .int .i64 y8, .int .i64 y9] 27)) w.heap.size ⟨⟨bw, bs, ba⟩, ⟨sw, ss, sa, so⟩, ⟨gw, gs, ga⟩⟩) := ⟨vatAt_alloc' HI.out _⟩
  have HO3 : Kp (VatAt (w2.alloc (.cells #[.int .i64 y0, .int .i64 y1, .int .i64 y2, .int .i64 y3, .int .i64 y4, .int .i64 y5, .int .i64 y6, .int .i64 y7, .int .i64 y8, .int .i64 y9] 27)) w1.heap.size ⟨⟨y0, y1, y2⟩, ⟨y3, y4, y5, y6⟩, ⟨y7, y8, y9⟩⟩) := ⟨vatAt_alloc' HO.out _⟩
  have HU3 : Kp (VatAt (w2.alloc (.cells #[.int .i64 y0, .int .i64 y1, .int .i64 y2, .int .i64 y3, .int .i64 y4, .int .i64 y5, .int .i64 y6, .int .i64 y7, .int .i64 y8, .int .i64 y9] 27)) w2.heap.size ⟨⟨y0, y1, y2⟩, ⟨y3, y4, y5, y6⟩, ⟨y7, y8, y9⟩⟩) := ⟨by constructor <;> (try intro j) <;> go_simp⟩
  have HB3 : Kp (Below w.heap.size w (w2.alloc (.cells #[.int .i64 y0, .int .i64 y1, .int .i64 y2, .int .i64 y3, .int .i64 y4, .int .i64 y5, .int .i64 y6, .int .i64 y7, .int .i64 y8, .int .i64 y9] 27))) := ⟨HB2.out.alloc HB2.out.size _⟩
  go_wp2
  obtain ⟨Z, hZ⟩ : ∃ Z, w.heap.size = Z := ⟨_, rfl⟩
  obtain ⟨Z1, hZ1⟩ : ∃ Z, w1.heap.size = Z := ⟨_, rfl⟩
  obtain ⟨Z2, hZ2⟩ : ∃ Z, w2.heap.size = Z := ⟨_, rfl⟩
  obtain ⟨W3, hW3⟩ : ∃ W3, w2.alloc (.cells #[.int .i64 y0, .int .i64 y1, .int .i64 y2, .int .i64 y3, .int .i64 y4, .int .i64 y5, .int .i64 y6, .int .i64 y7, .int .i64 y8, .int .i64 y9] 27) = W3 := ⟨_, rfl⟩
  have HN : Kp (Z < Z1 ∧ Z1 < Z2) := ⟨by omega⟩
  have HZ : Kp (w.heap.size = Z) := ⟨hZ⟩
  rw [hZ, hZ1, hZ2]
  rw [hW3, hZ] at HI3 HB3
  rw [hW3, hZ1] at HO3
  rw [hW3, hZ2] at HU3
  simp only [hW3]
  clear hW3 HI HO HB1 HB2 c2_0_0 c2_0_1 c2_0_2 c2_0_3 c2_0_4 c2_0_5 c2_0_6 c2_0_7 c2_0_8 c2_0_9 z2_0 c2_1_0 c2_1_1 c2_1_2 c2_1_3 c2_1_4 c2_1_5 c2_1_6 c2_1_7 c2_1_8 c2_1_9 z2_1 hz1_0 hz2_0 hz2_1 hZ hZ1 hZ2 H1 H2 HL
  go_loopw [11] (fun i0 wr => ∃ (k : Nat) (p q : Va), k ≤ l.length ∧ i0 = .int .i64 k ∧ VatAt wr Z ⟨⟨bw, bs, ba⟩, ⟨sw, ss, sa, so⟩, ⟨gw, gs, ga⟩⟩ ∧ VatAt wr Z1 p ∧ VatAt wr Z2 q ∧ Kp (Below w.heap.size w wr)) (fun i0 _ => l.length - (intOf i0).toNat)
  case atStart => exact ⟨0, _, _, by omega, rfl, HI3.out, HO3.out, HU3.out, by rw [HZ.out]; exact HB3⟩
  case round =>
    obtain ⟨k, p, q, hk, rfl, hv0, hp0, hq0, HB⟩ := hrel
    have HV0 := Lib.hid hv0
    have HP0 := Lib.hid hp0
    have HQ0 := Lib.hid hq0
    clear hv0 hp0 hq0 HI3 HO3 HU3 HB3
    by_cases hlt : k < l.length
    · by_cases h3 : k < 3
      · obtain ⟨x, hx⟩ : ∃ x, l[k]? = some x := ⟨l[k], List.getElem?_eq_getElem hlt⟩
        obtain ⟨x0, x1, x2, x3, x4, x5, x6, x7, x8, x9, E, hA, hB⟩ := do_both bw bs ba sw ss sa so gw gs ga x.k x.n
        have HA := Lib.hid hA
        have HBB := Lib.hid hB
        obtain ⟨g', c', e', hi⟩ := HS.out
        cases e'
        obtain ⟨b, o, hg, hbl, hc1, hc2⟩ := hi k x hx
        subst hg
        have HC : Kp (∀ W, Below w.heap.size w W → W.cell? ⟨b, o + k * 2, none⟩ = some (.int .i64 x.k) ∧ W.cell? ⟨b, o + k * 2 + 1, none⟩ = some (.int .i64 x.n)) := ⟨fun W h => ⟨(h.cell (p := ⟨b, _, none⟩) hbl).trans hc1, (h.cell (p := ⟨b, _, none⟩) hbl).trans hc2⟩⟩
        have o1 : (k : Int) < (l.length : Int) := by omega
        have o3 : (k : Int) < 3 := by omega
        have HBL : Kp (b < Z) := ⟨by rw [← HZ.out]; exact hbl⟩
        clear hA hB hi hc1 hc2 hx hbl
        go_upto_region 10 with fail
        go_cut [7] from 42 to 77 (fun s7 wx => s7 = .int .i64 E ∧ VatAt wx Z ⟨⟨bw, bs, ba⟩, ⟨sw, ss, sa, so⟩, ⟨gw, gs, ga⟩⟩ ∧ VatAt wx Z1 ⟨⟨x0, x1, x2⟩, ⟨x3, x4, x5, x6⟩, ⟨x7, x8, x9⟩⟩ ∧ VatAt wx Z2 q ∧ Kp (Below w.heap.size w wx))
        case first =>
          obtain ⟨c1, c2⟩ := HC.out wr HB.out
          obtain ⟨a0, a1, a2, a3, a4, a5, a6, a7, a8, a9, az⟩ := HV0.out
          simp only at a0 a1 a2 a3 a4 a5 a6 a7 a8 a9
          go_region_with (go_at_call 32; refine (HA.out _).mono ?_; rintro e4 w4 ⟨rfl, hb4⟩; have hbw : Below wr.heap.size wr w4 := (by (repeat (with_reducible first | exact Below.refl _ _ | refine Below.drew ?_ | refine bDrewN ?_ _)) : Below wr.heap.size wr _).trans hb4; have HV4 := Lib.hid (HV0.out.same (hbw.block _ HV0.out.lt)); have HQ4 := Lib.hid (HQ0.out.same (hbw.block _ HQ0.out.lt)); have HP4 := Lib.hid (HP0.out.same (hbw.block _ HP0.out.lt)); have HB4 := Lib.hid (HB.out.trans (hbw.mono HB.out.size)); clear hb4 hbw; obtain ⟨p0, p1, p2, p3, p4, p5, p6, p7, p8, p9, pz⟩ := HP4.out)
          all_goals
            go_wp2_with fail
            go_meet
            exact ⟨rfl, setVat_other (u' := ⟨⟨x0, x1, x2⟩, ⟨x3, x4, x5, x6⟩, ⟨x7, x8, x9⟩⟩) HV4.out (by have := HN.out; omega), setVat_at (u' := ⟨⟨x0, x1, x2⟩, ⟨x3, x4, x5, x6⟩, ⟨x7, x8, x9⟩⟩) HP4.out, setVat_other (u' := ⟨⟨x0, x1, x2⟩, ⟨x3, x4, x5, x6⟩, ⟨x7, x8, x9⟩⟩) HQ4.out (by have := HN.out; omega), ⟨HB4.out.grown (setVat_grown w4 Z1 ⟨⟨x0, x1, x2⟩, ⟨x3, x4, x5, x6⟩, ⟨x7, x8, x9⟩⟩) HB4.out.size (fun j e => by simp only [Option.some.injEq] at e; have := HN.out; have := HZ.out; omega)⟩⟩
        case rest =>
          obtain ⟨rfl, hv1, hp1, hq1, HB1⟩ := hcut
          have HV1 := Lib.hid hv1
          have HP1 := Lib.hid hp1
          have HQ1 := Lib.hid hq1
          clear hv1 hp1 hq1 HV0 HP0 HQ0 HB
          go_upto_region 11 with fail
          go_cut [10] from 42 to 77 (fun s10 wx => s10 = .int .i64 E ∧ VatAt wx Z ⟨⟨bw, bs, ba⟩, ⟨sw, ss, sa, so⟩, ⟨gw, gs, ga⟩⟩ ∧ VatAt wx Z1 ⟨⟨x0, x1, x2⟩, ⟨x3, x4, x5, x6⟩, ⟨x7, x8, x9⟩⟩ ∧ VatAt wx Z2 ⟨⟨x0, x1, x2⟩, ⟨x3, x4, x5, x6⟩, ⟨x7, x8, x9⟩⟩ ∧ Kp (Below w.heap.size w wx))
          case first =>
            obtain ⟨c1, c2⟩ := HC.out wc HB1.out
            obtain ⟨a0, a1, a2, a3, a4, a5, a6, a7, a8, a9, az⟩ := HV1.out
            simp only at a0 a1 a2 a3 a4 a5 a6 a7 a8 a9
            go_region_with (go_at_call 33; refine (HBB.out _).mono ?_; rintro e4 w4 ⟨rfl, hb4⟩; have hbw : Below wc.heap.size wc w4 := (by (repeat (with_reducible first | exact Below.refl _ _ | refine Below.drew ?_ | refine bDrewN ?_ _)) : Below wc.heap.size wc _).trans hb4; have HV4 := Lib.hid (HV1.out.same (hbw.block _ HV1.out.lt)); have HQ4 := Lib.hid (HQ1.out.same (hbw.block _ HQ1.out.lt)); have HP4 := Lib.hid (HP1.out.same (hbw.block _ HP1.out.lt)); have HB4 := Lib.hid (HB1.out.trans (hbw.mono HB1.out.size)); clear hb4 hbw; obtain ⟨p0, p1, p2, p3, p4, p5, p6, p7, p8, p9, pz⟩ := HQ4.out)
            all_goals
              go_wp2_with fail
              go_meet
              exact ⟨rfl, setVat_other (u' := ⟨⟨x0, x1, x2⟩, ⟨x3, x4, x5, x6⟩, ⟨x7, x8, x9⟩⟩) HV4.out (by have := HN.out; omega), setVat_other (u' := ⟨⟨x0, x1, x2⟩, ⟨x3, x4, x5, x6⟩, ⟨x7, x8, x9⟩⟩) HP4.out (by have := HN.out; omega), setVat_at (u' := ⟨⟨x0, x1, x2⟩, ⟨x3, x4, x5, x6⟩, ⟨x7, x8, x9⟩⟩) HQ4.out, ⟨HB4.out.grown (setVat_grown w4 Z2 ⟨⟨x0, x1, x2⟩, ⟨x3, x4, x5, x6⟩, ⟨x7, x8, x9⟩⟩) HB4.out.size (fun j e => by simp only [Option.some.injEq] at e; have := HN.out; have := HZ.out; omega)⟩⟩
          case rest =>
            obtain ⟨rfl, hv2, hp2, hq2, HB2⟩ := hcut
            have HV2 := Lib.hid hv2
            have HP2 := Lib.hid hp2
            have HQ2 := Lib.hid hq2
            clear hv2 hp2 hq2
            obtain ⟨p0, p1, p2, p3, p4, p5, p6, p7, p8, p9, pz⟩ := HP2.out
            obtain ⟨q0, q1, q2, q3, q4, q5, q6, q7, q8, q9, qz⟩ := HQ2.out
            simp only at p0 p1 p2 p3 p4 p5 p6 p7 p8 p9 q0 q1 q2 q3 q4 q5 q6 q7 q8 q9
            go_wp2
            go_roundw
            case rel => exact ⟨k + 1, _, _, by omega, by go_num, HV2.out, HP2.out, HQ2.out, HB2⟩
            case measure => simp [intOf]; omega
      · go_wp2_with fail
        refine (awake_any _).mono ?_
        rintro e7 w7 ⟨rfl, hb7⟩
        have HB7 : Kp (Below w.heap.size w w7) := ⟨HB.out.trans (hb7.mono HB.out.size)⟩
        clear hb7
        go_wp2
        go_ret
        exact ⟨rfl, HB7.out⟩
    · go_wp2_with fail
      refine (awake_any _).mono ?_
      rintro e7 w7 ⟨rfl, hb7⟩
      have HB7 : Kp (Below w.heap.size w w7) := ⟨HB.out.trans (hb7.mono HB.out.size)⟩
      clear hb7
      go_wp2
      go_ret
      exact ⟨rfl, HB7.out⟩
theorem lawRuns_any (bw bs ba sw ss sa so gw gs ga : Int) (v : Value) (l : List St) (w : World) (hs : RS w v l) (_hm : l.length ≤ maxLen) : Calls Try.prog 5 #[.agg #[.int .i64 bw, .int .i64 bs, .int .i64 ba, .int .i64 sw, .int .i64 ss, .int .i64 sa, .int .i64 so, .int .i64 gw, .int .i64 gs, .int .i64 ga], v] w (Ends w) := by
  obtain ⟨g, c, rfl⟩ := hs.shape
  by_cases hl : 300 < l.length
  · have HL := Lib.hid hl
    clear hl hs
    go_enter Try.func5, Try.ntmps5
    go_wp2_with fail
    refine (long_yes _ _ _ _ HL.out).mono ?_
    rintro e w1 ⟨rfl, rfl⟩
    go_wp2_with fail
    refine (awake_any _).mono ?_
    rintro e w7 ⟨rfl, hb7⟩
    have HB7 : Kp (Below w.heap.size w w7) := ⟨Below.trans (by repeat (first | exact Below.refl _ _ | refine Below.alloc ?_ (by simp <;> omega) _ | refine bDrewN ?_ _ | refine Below.drew ?_)) (hb7.mono (by simp))⟩
    clear hb7
    go_wp2
    go_ret
    exact ⟨rfl, HB7.out⟩
  · obtain ⟨u, i, e, h⟩ := run_both bw bs ba sw ss sa so gw gs ga _ l w hs (by omega)
    exact runs_core bw bs ba sw ss sa so gw gs ga _ _ _ _ _ _ _ _ _ _ i e g c l w (by omega) hs ⟨fun W hW => (h W hW).1⟩ ⟨fun W hW => (h W hW).2⟩
end Go.Proofs.Ytakldbpfdoeimaa.Bt
