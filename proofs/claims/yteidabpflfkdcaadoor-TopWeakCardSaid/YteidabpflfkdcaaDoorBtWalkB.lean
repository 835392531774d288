/-
  WALKS (layer 3, baths), second part: sums of baths, the total, the vat's validity.
-/
import Derived.Test.YteidabpflfkdcaaDoorBtWalkA
import Derived.LoopN
namespace Go.Proofs.YteidabpflfkdcaaDoor.Bt
open Go Go.RowKit

theorem bcell {W w1 : World} {n : Nat} (hb : Below n W w1) : (∀ b o, b < n → w1.cell? ⟨b, o, none⟩ = W.cell? ⟨b, o, none⟩) ∧ (∀ b o, b < n → w1.frozen? ⟨b, o, none⟩ = W.frozen? ⟨b, o, none⟩) :=
  ⟨fun b o h => hb.cell (p := ⟨b, o, none⟩) h, fun b o h => hb.frozen (p := ⟨b, o, none⟩) h⟩
theorem sum3_any (b : Nat) (w : World) (x0 x1 x2 y0 y1 y2 z0 z1 z2 : Int)
    (c0 : w.cell? ⟨b, 0, none⟩ = some (.int .i64 x0)) (c1 : w.cell? ⟨b, 1, none⟩ = some (.int .i64 x1)) (c2 : w.cell? ⟨b, 2, none⟩ = some (.int .i64 x2))
    (c3 : w.cell? ⟨b, 3, none⟩ = some (.int .i64 y0)) (c4 : w.cell? ⟨b, 4, none⟩ = some (.int .i64 y1)) (c5 : w.cell? ⟨b, 5, none⟩ = some (.int .i64 y2))
    (c6 : w.cell? ⟨b, 6, none⟩ = some (.int .i64 z0)) (c7 : w.cell? ⟨b, 7, none⟩ = some (.int .i64 z1)) (c8 : w.cell? ⟨b, 8, none⟩ = some (.int .i64 z2))
    (h0 : 0 ≤ x0 ∧ x0 ≤ 1000000000) (h1 : 0 ≤ x1 ∧ x1 ≤ 1000000000) (h2 : 0 ≤ x2 ∧ x2 ≤ 1000000000) (h3 : 0 ≤ y0 ∧ y0 ≤ 1000000000) (h4 : 0 ≤ y1 ∧ y1 ≤ 1000000000) (h5 : 0 ≤ y2 ∧ y2 ≤ 1000000000) (h6 : 0 ≤ z0 ∧ z0 ≤ 1000000000) (h7 : 0 ≤ z1 ∧ z1 ≤ 1000000000) (h8 : 0 ≤ z2 ∧ z2 ≤ 1000000000) :
    Calls Tryd.prog 66 #[.slice (some ⟨b, 0, none⟩) 3 3] w fun e w' => e = .returned (.agg #[.int .i64 (x0 + y0 + z0), .int .i64 (x1 + y1 + z1), .int .i64 (x2 + y2 + z2)]) ∧ Below w.heap.size w w' := by
  obtain ⟨h00, h01⟩ := h0
  obtain ⟨h10, h11⟩ := h1
  obtain ⟨h20, h21⟩ := h2
  obtain ⟨h30, h31⟩ := h3
  obtain ⟨h40, h41⟩ := h4
  obtain ⟨h50, h51⟩ := h5
  obtain ⟨h60, h61⟩ := h6
  obtain ⟨h70, h71⟩ := h7
  obtain ⟨h80, h81⟩ := h8
  have hb0 : b < w.heap.size := World.block_lt_of_cell? _ _ c0
  have hb1 : b < w.heap.size + 1 := by omega
  have hb2 : b < w.heap.size + 1 + 1 := by omega
  have hb3 : b < w.heap.size + 1 + 1 + 1 := by omega
  have hb4 : b < w.heap.size + 1 + 1 + 1 + 1 := by omega
  go_enter Tryd.func66, Tryd.ntmps66
  go_wp2
  refine wp_loop_rounds 4 ?_
  rw [rounds_succ]
  go_wp2
  rw [rounds_succ]
  go_wp2
  rw [rounds_succ]
  go_wp2
  rw [rounds_succ]
  go_wp2
  exact bodyPost_ret (v := .agg #[.int .i64 (x0 + y0 + z0), .int .i64 (x1 + y1 + z1), .int .i64 (x2 + y2 + z2)]) (by simp [results, Tryd.results66, go_sem]) rfl ⟨rfl, by repeat (first | exact Below.refl _ _ | refine Below.alloc ?_ (by simp <;> omega) _ | refine bDrewN ?_ _ | refine Below.drew ?_)⟩
theorem sum2_any (b : Nat) (w : World) (x0 x1 x2 y0 y1 y2 : Int)
    (c0 : w.cell? ⟨b, 0, none⟩ = some (.int .i64 x0)) (c1 : w.cell? ⟨b, 1, none⟩ = some (.int .i64 x1)) (c2 : w.cell? ⟨b, 2, none⟩ = some (.int .i64 x2))
    (c3 : w.cell? ⟨b, 3, none⟩ = some (.int .i64 y0)) (c4 : w.cell? ⟨b, 4, none⟩ = some (.int .i64 y1)) (c5 : w.cell? ⟨b, 5, none⟩ = some (.int .i64 y2))
    (h0 : 0 ≤ x0 ∧ x0 ≤ 1000000000) (h1 : 0 ≤ x1 ∧ x1 ≤ 1000000000) (h2 : 0 ≤ x2 ∧ x2 ≤ 1000000000) (h3 : 0 ≤ y0 ∧ y0 ≤ 1000000000) (h4 : 0 ≤ y1 ∧ y1 ≤ 1000000000) (h5 : 0 ≤ y2 ∧ y2 ≤ 1000000000) :
    Calls Tryd.prog 66 #[.slice (some ⟨b, 0, none⟩) 2 2] w fun e w' => e = .returned (.agg #[.int .i64 (x0 + y0), .int .i64 (x1 + y1), .int .i64 (x2 + y2)]) ∧ Below w.heap.size w w' := by
  obtain ⟨h00, h01⟩ := h0
  obtain ⟨h10, h11⟩ := h1
  obtain ⟨h20, h21⟩ := h2
  obtain ⟨h30, h31⟩ := h3
  obtain ⟨h40, h41⟩ := h4
  obtain ⟨h50, h51⟩ := h5
  have hb0 : b < w.heap.size := World.block_lt_of_cell? _ _ c0
  have hb1 : b < w.heap.size + 1 := by omega
  have hb2 : b < w.heap.size + 1 + 1 := by omega
  have hb3 : b < w.heap.size + 1 + 1 + 1 := by omega
  go_enter Tryd.func66, Tryd.ntmps66
  go_wp2
  refine wp_loop_rounds 3 ?_
  rw [rounds_succ]
  go_wp2
  rw [rounds_succ]
  go_wp2
  rw [rounds_succ]
  go_wp2
  exact bodyPost_ret (v := .agg #[.int .i64 (x0 + y0), .int .i64 (x1 + y1), .int .i64 (x2 + y2)]) (by simp [results, Tryd.results66, go_sem]) rfl ⟨rfl, by repeat (first | exact Below.refl _ _ | refine Below.alloc ?_ (by simp <;> omega) _ | refine bDrewN ?_ _ | refine Below.drew ?_)⟩
/-- Bounds of a vat's numbers, so that no sum wraps. -/
def Bds (v : Va) : Prop := (0 ≤ v.b.w ∧ v.b.w ≤ 1000000000) ∧ (0 ≤ v.b.s ∧ v.b.s ≤ 1000000000) ∧ (0 ≤ v.b.a ∧ v.b.a ≤ 1000000000) ∧ (0 ≤ v.s.w ∧ v.s.w ≤ 1000000000) ∧ (0 ≤ v.s.s ∧ v.s.s ≤ 1000000000) ∧ (0 ≤ v.s.a ∧ v.s.a ≤ 1000000000) ∧ (0 ≤ v.g.w ∧ v.g.w ≤ 1000000000) ∧ (0 ≤ v.g.s ∧ v.g.s ≤ 1000000000) ∧ (0 ≤ v.g.a ∧ v.g.a ≤ 1000000000)
theorem bds_of {v : Va} (h1 : bathB v.b = true) (h2 : skinB v.s = true) (h3 : bathB v.g = true) : Bds v := by
  have a := bath_iff.1 h1; have b := skin_iff.1 h2; have c := bath_iff.1 h3
  exact ⟨a.1, a.2.1, a.2.2, b.1, b.2.1, b.2.2.1, c.1, c.2.1, c.2.2⟩
theorem total_any (bw bs ba sw ss sa so gw gs ga : Int) (w : World) (h : Bds ⟨⟨bw, bs, ba⟩, ⟨sw, ss, sa, so⟩, ⟨gw, gs, ga⟩⟩) :
    Calls Tryd.prog 32 #[.agg #[.int .i64 bw, .int .i64 bs, .int .i64 ba, .int .i64 sw, .int .i64 ss, .int .i64 sa, .int .i64 so, .int .i64 gw, .int .i64 gs, .int .i64 ga]] w fun e w' => e = .returned (.agg #[.int .i64 (bw + sw + gw), .int .i64 (bs + ss + gs), .int .i64 (ba + sa + ga)]) ∧ Below w.heap.size w w' := by
  obtain ⟨h0, h1, h2, h3, h4, h5, h6, h7, h8⟩ := h
  simp only at h0 h1 h2 h3 h4 h5 h6 h7 h8
  have H0 := Lib.hid h0
  have H1 := Lib.hid h1
  have H2 := Lib.hid h2
  have H3 := Lib.hid h3
  have H4 := Lib.hid h4
  have H5 := Lib.hid h5
  have H6 := Lib.hid h6
  have H7 := Lib.hid h7
  have H8 := Lib.hid h8
  clear h0 h1 h2 h3 h4 h5 h6 h7 h8
  go_enter Tryd.func32, Tryd.ntmps32
  go_wp2_with fail
  refine (sum3_any _ _ bw bs ba sw ss sa gw gs ga (by go_simp) (by go_simp) (by go_simp) (by go_simp) (by go_simp) (by go_simp) (by go_simp) (by go_simp) (by go_simp) H0.out H1.out H2.out H3.out H4.out H5.out H6.out H7.out H8.out).mono ?_
  rintro e w1 ⟨rfl, hb⟩
  obtain ⟨hc, hf⟩ := bcell hb
  have hz : w.heap.size + 1 < w1.heap.size := by have := hb.size; simp at this; omega
  have HB : Kp (Below w.heap.size w w1) := ⟨Below.trans (by repeat (first | exact Below.refl _ _ | refine Below.alloc ?_ (by simp <;> omega) _ | refine bDrewN ?_ _ | refine Below.drew ?_)) (hb.mono (by simp <;> omega))⟩
  go_wp2
  refine bodyPost_ret (v := .agg #[.int .i64 (bw + sw + gw), .int .i64 (bs + ss + gs), .int .i64 (ba + sa + ga)]) ?_ rfl ⟨rfl, ?_⟩
  · simp [results, Tryd.results32, go_sem, hc]
  · repeat (first | exact HB.out | refine Below.setCell ?_ (by simp) _)
end Go.Proofs.YteidabpflfkdcaaDoor.Bt
