/-
  WALKS (layer 3, baths): pouring.
-/
import Derived.Test.YteidabpflfkdcaaDoorBtAfter
import Derived.Test.YteidabpflfkdcaaDoorBtPart
namespace Go.Proofs.YteidabpflfkdcaaDoor.Bt
open Go Go.RowKit

/-- What lies in the vat when a part has been taken out. -/
structure PourI (w : World) (P A : Nat) (v : Va) (p : Ba) (W : World) : Prop where
  grown : w.grownBy W (some P)
  vat : VatAt W P v
  t0 : W.cell? ⟨A, 0, none⟩ = some (.int .i64 p.w)
  t1 : W.cell? ⟨A, 1, none⟩ = some (.int .i64 p.s)
  t2 : W.cell? ⟨A, 2, none⟩ = some (.int .i64 p.a)
theorem PourI.below {w W X : World} {P A : Nat} {v : Va} {p : Ba} (h : PourI w P A v p W) (hb : Below W.heap.size W X) : PourI w P A v p X := by
  have hA := World.block_lt_of_cell? _ _ h.t0
  exact ⟨⟨hb.os.trans h.grown.os, hb.tape.trans h.grown.tape, hb.output.trans h.grown.output, Nat.le_trans h.grown.size hb.size, fun k hk hr => (hb.block k (Nat.lt_of_lt_of_le hk h.grown.size)).trans (h.grown.block k hk hr)⟩, h.vat.same (hb.block P h.vat.lt),
    (hb.cell (p := ⟨A, 0, none⟩) hA).trans h.t0, (hb.cell (p := ⟨A, 1, none⟩) hA).trans h.t1, (hb.cell (p := ⟨A, 2, none⟩) hA).trans h.t2⟩
theorem pour_last {w X : World} {P : Nat} {v : Va} {x y z : Int} (hg : w.grownBy X (some P)) (hv : VatAt X P v) :
    w.grownBy (((X.setCell ⟨P, 7, none⟩ (.int .i64 x)).setCell ⟨P, 8, none⟩ (.int .i64 y)).setCell ⟨P, 9, none⟩ (.int .i64 z)) (some P) ∧ VatAt (((X.setCell ⟨P, 7, none⟩ (.int .i64 x)).setCell ⟨P, 8, none⟩ (.int .i64 y)).setCell ⟨P, 9, none⟩ (.int .i64 z)) P ⟨v.b, v.s, ⟨x, y, z⟩⟩ := by
  refine ⟨grown_trans (grown_trans (grown_trans hg (setCell_grown _ _ _ _)) (setCell_grown _ _ _ _)) (setCell_grown _ _ _ _), ?_⟩
  obtain ⟨h0, h1, h2, h3, h4, h5, h6, h7, h8, h9, hz⟩ := hv
  constructor <;> simp (maxDischargeDepth := 6) [go_sem, h0, h1, h2, h3, h4, h5, h6, h7, h8, h9, hz]
theorem pour_start {w w1 : World} {P : Nat} {v : Va} {p r : Ba} (hA : VatAt w1 P v) (hb : Below w.heap.size w w1) :
    PourI w P w1.heap.size ⟨r, v.s, v.g⟩ p ((((((w1.setCell ⟨P, 0, none⟩ (.int .i64 r.w)).setCell ⟨P, 1, none⟩ (.int .i64 r.s)).setCell ⟨P, 2, none⟩ (.int .i64 r.a)).alloc (.cells #[.int .i64 p.w, .int .i64 p.s, .int .i64 p.a] 23)).alloc (.cells #[.int .i64 r.w, .int .i64 r.s, .int .i64 r.a] 23))) := by
  have hlt := hA.lt
  have g1 : w.grownBy (((w1.setCell ⟨P, 0, none⟩ (.int .i64 r.w)).setCell ⟨P, 1, none⟩ (.int .i64 r.s)).setCell ⟨P, 2, none⟩ (.int .i64 r.a)) (some P) :=
    grown_trans (grown_trans (grown_trans (grown_below hb _) (setCell_grown _ _ _ _)) (setCell_grown _ _ _ _)) (setCell_grown _ _ _ _)
  refine ⟨grown_trans (grown_trans g1 (World.grownBy_alloc _ _ _)) (World.grownBy_alloc _ _ _), ?_, by simp [go_sem], by simp [go_sem], by simp [go_sem]⟩
  obtain ⟨h0, h1, h2, h3, h4, h5, h6, h7, h8, h9, hz⟩ := hA
  have hlt1 : P < w1.heap.size + 1 := by omega
  constructor <;> simp (maxDischargeDepth := 6) [go_sem, h0, h1, h2, h3, h4, h5, h6, h7, h8, h9, hz, hlt, hlt1]
set_option maxHeartbeats 4000000 in
theorem pour_any (P : Nat) (v : Va) (n : Int) (w : World) (hA : VatAt w P v) (hv : vatB v = true) (h0 : 0 ≤ n) (h1 : n ≤ 1000) :
    Calls Tryd.prog 92 #[.pointer (some ⟨P, 0, none⟩), .int .i64 n] w (WaitPost w P (doS v 6 n)) := by
  have hb := (vat_iff.1 hv).1
  have hp := part_valid h0 h1 hb
  have HPB := Lib.hid (bath_iff.1 hp.1)
  have HGB := Lib.hid (bath_iff.1 (vat_iff.1 hv).2.2.1)
  have HQ : Kp (∀ W : World, Calls Tryd.prog 108 #[.agg #[.int .i64 v.b.w, .int .i64 v.b.s, .int .i64 v.b.a], .int .i64 n] W fun e w' => e = .returned (.tuple #[.agg #[.int .i64 (partB n v.b).w, .int .i64 (partB n v.b).s, .int .i64 (partB n v.b).a], .agg #[.int .i64 (restB n v.b).w, .int .i64 (restB n v.b).s, .int .i64 (restB n v.b).a]]) ∧ Below W.heap.size W w') := ⟨fun W => parted_any v.b.w v.b.s v.b.a n W hb h0 h1⟩
  have HD : Kp (doS v 6 n = ⟨restB n v.b, v.s, addB v.g (partB n v.b)⟩) := ⟨rfl⟩
  obtain ⟨p, hpp⟩ : ∃ p, partB n v.b = p := ⟨_, rfl⟩
  obtain ⟨r, hr⟩ : ∃ r, restB n v.b = r := ⟨_, rfl⟩
  rw [hpp, hr] at HD HQ
  rw [hpp] at HPB
  have HA : Kp (VatAt w P v) := ⟨hA⟩
  obtain ⟨a0, a1, a2, a3, a4, a5, a6, a7, a8, a9, az⟩ := hA
  clear hb hp hpp hr hv h0 h1 a3 a4 a5 a6 a7 a8 a9 az
  go_enter Tryd.func92, Tryd.ntmps92
  go_wp2_with fail
  refine (HQ.out _).mono ?_
  rintro e w1 ⟨rfl, hb1⟩
  have HB1 := Lib.hid hb1
  have HA1 : Kp (VatAt w1 P v) := ⟨HA.out.same (hb1.block P HA.out.lt)⟩
  have hlt := HA1.out.lt
  clear hb1 a0 a1 a2
  obtain ⟨a0, a1, a2, a3, a4, a5, a6, a7, a8, a9, az⟩ := HA1.out
  have HS := Lib.hid (pour_start (p := p) (r := r) HA1.out HB1.out)
  go_wp2
  obtain ⟨A, hA⟩ : ∃ A, w1.heap.size = A := ⟨_, rfl⟩
  obtain ⟨W, hW⟩ : ∃ W, (((((w1.setCell ⟨P, 0, none⟩ (.int .i64 r.w)).setCell ⟨P, 1, none⟩ (.int .i64 r.s)).setCell ⟨P, 2, none⟩ (.int .i64 r.a)).alloc (.cells #[.int .i64 p.w, .int .i64 p.s, .int .i64 p.a] 23)).alloc (.cells #[.int .i64 r.w, .int .i64 r.s, .int .i64 r.a] 23)) = W := ⟨_, rfl⟩
  rw [hA, hW] at HS
  have hWs : W.heap.size = A + 2 := by rw [← hW]; simp; omega
  simp only [hW]
  rw [hA]
  have HN := Lib.hid hWs
  clear hW hA hWs a0 a1 a2 a3 a4 a5 a6 a7 a8 a9 az hlt HB1 HA1
  obtain ⟨b0, b1, b2, b3, b4, b5, b6, b7, b8, b9, bz⟩ := HS.out.vat
  have c0 := HS.out.t0
  have c1 := HS.out.t1
  have c2 := HS.out.t2
  have hPW := HS.out.vat.lt
  have hAW := World.block_lt_of_cell? _ _ c0
  have hPW1 : P < W.heap.size + 1 := by omega
  have HGW := Lib.hid (And.intro hPW hAW)
  simp only at b0 b1 b2 b3 b4 b5 b6 b7 b8 b9
  clear HQ HA
  go_region_with (go_at_call 66; refine (sum2_any _ _ v.g.w v.g.s v.g.a p.w p.s p.a (by go_simp) (by go_simp) (by go_simp) (by go_simp) (by go_simp) (by go_simp) HGB.out.1 HGB.out.2.1 HGB.out.2.2 HPB.out.1 HPB.out.2.1 HPB.out.2.2).mono ?_; rintro e w5 ⟨rfl, hb5⟩; have HS5 := Lib.hid (HS.out.below (Below.trans (by (repeat (with_reducible first | exact Below.refl _ _ | refine Below.alloc ?_ ?_ _ | refine Below.drew ?_ | refine bDrewN ?_ _)); all_goals ((try simp) <;> omega)) (hb5.mono (by (try simp) <;> omega)))); have d7 := HS5.out.vat.c7; have d8 := HS5.out.vat.c8; have d9 := HS5.out.vat.c9; have dz := HS5.out.vat.z; have hPW5 := HS5.out.vat.lt; clear hb5)
  trace "regions"
  all_goals
    go_wp2
    exact bodyPost_end (results_none rfl _ _ _) rfl ⟨⟨_, rfl⟩, by rw [HD.out]; exact pour_last HS5.out.grown HS5.out.vat⟩
end Go.Proofs.YteidabpflfkdcaaDoor.Bt
