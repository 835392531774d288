/-
  WALKS (layer 3, baths), hours: the balances, the vat after an hour.
-/
import Derived.Test.YteidabpflfkdcaaDoorBtWalkC
namespace Go.Proofs.YteidabpflfkdcaaDoor.Bt
open Go Go.RowKit

theorem bDrewN {B : Nat} {a w : World} (h : Below B a w) (n : Nat) : Below B a (w.drewN n) := h.trans ⟨rfl, rfl, rfl, Nat.le_refl _, fun _ _ => rfl⟩
theorem bal_dry {bw sw x y : Int} (h : bw + sw = 0) : bal bw sw x y = y := if_pos h
theorem bal_wet {bw sw x y : Int} (h : bw + sw ≠ 0) : bal bw sw x y = (x + y) * sw / (bw + sw) := if_neg h
theorem ret_int2 {a b a' b' : Int} (h : a = a') (h' : b = b') : Ending.returned (.tuple #[.int .i64 a, .int .i64 b]) = .returned (.tuple #[.int .i64 a', .int .i64 b']) := by rw [h, h']
theorem balances_any (bw bs ba sw ss sa so gw gs ga : Int) (w : World) (h : vatB ⟨⟨bw, bs, ba⟩, ⟨sw, ss, sa, so⟩, ⟨gw, gs, ga⟩⟩ = true) :
    Calls Tryd.prog 65 #[.agg #[.int .i64 bw, .int .i64 bs, .int .i64 ba, .int .i64 sw, .int .i64 ss, .int .i64 sa, .int .i64 so, .int .i64 gw, .int .i64 gs, .int .i64 ga]] w fun e w' => e = .returned (.tuple #[.int .i64 (bal bw sw bs ss), .int .i64 (bal bw sw ba sa)]) ∧ Below w.heap.size w w' := by
  obtain ⟨⟨h0, h1, h2⟩, ⟨h3, h4, h5⟩, -, -, ⟨h6, h7, h8⟩⟩ := vat_bd h
  obtain ⟨-, -, hg, -⟩ := vat_iff.1 h
  have hg' := bath_iff.1 hg
  simp only at h0 h1 h2 h3 h4 h5 h6 h7 h8 hg'
  have b0 : bw + sw ≤ 1000000000 := by omega
  have b1 : bs + ss ≤ 1000000000 := by omega
  have b2 : ba + sa ≤ 1000000000 := by omega
  have b3 : sw ≤ 1000000000 := by omega
  clear h hg hg' h6 h7 h8
  by_cases hd : bw + sw = 0
  · have HD : Kp (bw + sw = 0) := ⟨hd⟩
    have hd2 : ((bw + sw) == 0) = true := by rw [hd]; rfl
    clear hd
    go_enter Tryd.func65, Tryd.ntmps65
    go_wp2
    go_quiet (fail)
    go_wp2
    go_ret2
    exact ⟨ret_int2 (bal_dry HD.out).symm (bal_dry HD.out).symm, by repeat (first | exact Below.refl _ _ | refine Below.alloc ?_ (by simp <;> omega) _ | refine bDrewN ?_ _ | refine Below.drew ?_)⟩
  · have HD : Kp (bw + sw ≠ 0) := ⟨hd⟩
    have hd2 : ((bw + sw) == 0) = false := by rw [beq_eq_false_iff_ne]; exact hd
    obtain ⟨m0, m1⟩ := mul_bd (x := bs + ss) (y := sw) (m := 1000000000) (n := 1000000000) (by omega) (by omega) (by omega) (by omega)
    obtain ⟨m2, m3⟩ := mul_bd (x := ba + sa) (y := sw) (m := 1000000000) (n := 1000000000) (by omega) (by omega) (by omega) (by omega)
    have m4 : (bs + ss) * sw ≤ 1000000000000000000 := m1
    have m5 : (ba + sa) * sw ≤ 1000000000000000000 := m3
    have hd3 : ¬ bw + sw = 0 := hd
    clear hd m1 m3
    go_enter Tryd.func65, Tryd.ntmps65
    go_wp2
    go_ret2
    exact ⟨ret_int2 (bal_wet HD.out).symm (bal_wet HD.out).symm, by repeat (first | exact Below.refl _ _ | refine Below.alloc ?_ (by simp <;> omega) _ | refine bDrewN ?_ _ | refine Below.drew ?_)⟩
/-- What the walk of an hour needs of a valid vat. -/
theorem hour_facts {o x y T S : Int} (ho : 0 ≤ o ∧ o ≤ 1000) (hx : 0 ≤ x) (hy : 0 ≤ y) (hT : x + y ≤ T) (h5 : T ≤ 1000000000) (hS0 : 0 ≤ S) (hS1 : S ≤ x + y) :
    -1000000000000 ≤ (S - y) * o ∧ (S - y) * o ≤ 1000000000000 ∧ ((S - y) * o).tdiv 1000 = ovr o (S - y) ∧ -y ≤ ovr o (S - y) ∧ ovr o (S - y) ≤ x := by
  have hb := ovr_bd (o := o) (d := S - y) ho.1 ho.2
  have h1 : ∀ d : Int, 0 ≤ d → d ≤ 1000000000 → 0 ≤ d * o ∧ d * o ≤ 1000000000 * 1000 := fun d a b => mul_bd a b ho.1 ho.2
  have h2 : -1000000000000 ≤ (S - y) * o ∧ (S - y) * o ≤ 1000000000000 := by
    by_cases h : 0 ≤ S - y
    · have := h1 (S - y) h (by omega); omega
    · have := h1 (y - S) (by omega) (by omega)
      rw [show S - y = -(y - S) by omega, Int.neg_mul]; omega
  exact ⟨h2.1, h2.2, rfl, by omega, by omega⟩
theorem afterHour_any (bw bs ba sw ss sa so gw gs ga : Int) (w : World) (h : vatB ⟨⟨bw, bs, ba⟩, ⟨sw, ss, sa, so⟩, ⟨gw, gs, ga⟩⟩ = true) :
    Calls Tryd.prog 31 #[.agg #[.int .i64 bw, .int .i64 bs, .int .i64 ba, .int .i64 sw, .int .i64 ss, .int .i64 sa, .int .i64 so, .int .i64 gw, .int .i64 gs, .int .i64 ga]] w fun e w' => e = .returned (.agg #[.int .i64 bw, .int .i64 (bs - ovr so (bal bw sw bs ss - ss)), .int .i64 (ba - ovr so (bal bw sw ba sa - sa)), .int .i64 sw, .int .i64 (ss + ovr so (bal bw sw bs ss - ss)), .int .i64 (sa + ovr so (bal bw sw ba sa - sa)), .int .i64 so, .int .i64 gw, .int .i64 gs, .int .i64 ga]) ∧ Below w.heap.size w w' := by
  obtain ⟨⟨h0, h1, h2⟩, ⟨h3, h4, h5⟩, hso, ⟨h9, h10, h11⟩, ⟨h6, h7, h8⟩⟩ := vat_bd h
  simp only at h0 h1 h2 h3 h4 h5 h6 h7 h8 h9 h10 h11 hso
  have HQ : Kp (∀ W : World, Calls Tryd.prog 65 #[.agg #[.int .i64 bw, .int .i64 bs, .int .i64 ba, .int .i64 sw, .int .i64 ss, .int .i64 sa, .int .i64 so, .int .i64 gw, .int .i64 gs, .int .i64 ga]] W fun e w' => e = .returned (.tuple #[.int .i64 (bal bw sw bs ss), .int .i64 (bal bw sw ba sa)]) ∧ Below W.heap.size W w') := ⟨fun W => balances_any bw bs ba sw ss sa so gw gs ga W h⟩
  have s1 := bal_bd (bw := bw) (sw := sw) (x := bs) (y := ss) h0 h3 h1 h4
  have a1 := bal_bd (bw := bw) (sw := sw) (x := ba) (y := sa) h0 h3 h2 h5
  obtain ⟨S, hS⟩ : ∃ S, bal bw sw bs ss = S := ⟨_, rfl⟩
  obtain ⟨A, hA⟩ : ∃ A, bal bw sw ba sa = A := ⟨_, rfl⟩
  rw [hS] at HQ s1 ⊢
  rw [hA] at HQ a1 ⊢
  clear hS hA
  obtain ⟨f1, f2, f3, f4, f5⟩ := hour_facts (o := so) (x := bs) (y := ss) (T := 1000000000) (S := S) hso h1 h4 (by omega) (by omega) s1.1 s1.2
  obtain ⟨k1, k2, k3, k4, k5⟩ := hour_facts (o := so) (x := ba) (y := sa) (T := 1000000000) (S := A) hso h2 h5 (by omega) (by omega) a1.1 a1.2
  obtain ⟨D, hD⟩ : ∃ D, ovr so (S - ss) = D := ⟨_, rfl⟩
  obtain ⟨E, hE⟩ : ∃ E, ovr so (A - sa) = E := ⟨_, rfl⟩
  rw [hD] at f3 f4 f5 ⊢
  rw [hE] at k3 k4 k5 ⊢
  have l1 : bs + ss ≤ 1000000000 := by omega
  have l2 : ba + sa ≤ 1000000000 := by omega
  have l3 : S ≤ 1000000000 := by omega
  have l4 : A ≤ 1000000000 := by omega
  have l5 : 0 ≤ S := s1.1
  have l6 : 0 ≤ A := a1.1
  clear hD hE h h9 h10 h11 h6 h7 h8 hso s1 a1 h0 h3
  go_enter Tryd.func31, Tryd.ntmps31
  go_wp2_with fail
  refine (HQ.out _).mono ?_
  rintro e w1 ⟨rfl, hb1⟩
  obtain ⟨hc, hf⟩ := bcell hb1
  have HB1 : Kp (Below w.heap.size w w1) := ⟨Below.trans (by repeat (first | exact Below.refl _ _ | refine Below.alloc ?_ (by simp <;> omega) _ | refine bDrewN ?_ _ | refine Below.drew ?_)) (hb1.mono (by simp <;> omega))⟩
  have hz1 : w.heap.size + 1 < w1.heap.size := by have := hb1.size; simp at this; omega
  have c0 : w1.cell? ⟨w.heap.size, 0, none⟩ = some (.int .i64 bw) := (hc _ _ (by simp <;> omega)).trans (by go_simp)
  have c1 : w1.cell? ⟨w.heap.size, 1, none⟩ = some (.int .i64 bs) := (hc _ _ (by simp <;> omega)).trans (by go_simp)
  have c2 : w1.cell? ⟨w.heap.size, 2, none⟩ = some (.int .i64 ba) := (hc _ _ (by simp <;> omega)).trans (by go_simp)
  have c3 : w1.cell? ⟨w.heap.size, 3, none⟩ = some (.int .i64 sw) := (hc _ _ (by simp <;> omega)).trans (by go_simp)
  have c4 : w1.cell? ⟨w.heap.size, 4, none⟩ = some (.int .i64 ss) := (hc _ _ (by simp <;> omega)).trans (by go_simp)
  have c5 : w1.cell? ⟨w.heap.size, 5, none⟩ = some (.int .i64 sa) := (hc _ _ (by simp <;> omega)).trans (by go_simp)
  have c6 : w1.cell? ⟨w.heap.size, 6, none⟩ = some (.int .i64 so) := (hc _ _ (by simp <;> omega)).trans (by go_simp)
  have c7 : w1.cell? ⟨w.heap.size, 7, none⟩ = some (.int .i64 gw) := (hc _ _ (by simp <;> omega)).trans (by go_simp)
  have c8 : w1.cell? ⟨w.heap.size, 8, none⟩ = some (.int .i64 gs) := (hc _ _ (by simp <;> omega)).trans (by go_simp)
  have c9 : w1.cell? ⟨w.heap.size, 9, none⟩ = some (.int .i64 ga) := (hc _ _ (by simp <;> omega)).trans (by go_simp)
  have d0 : w1.cell? ⟨w.heap.size + 1, 0, none⟩ = some (.int .i64 0) := (hc _ _ (by simp <;> omega)).trans (by go_simp)
  have d1 : w1.cell? ⟨w.heap.size + 1, 1, none⟩ = some (.int .i64 0) := (hc _ _ (by simp <;> omega)).trans (by go_simp)
  have d2 : w1.cell? ⟨w.heap.size + 1, 2, none⟩ = some (.int .i64 0) := (hc _ _ (by simp <;> omega)).trans (by go_simp)
  have d3 : w1.cell? ⟨w.heap.size + 1, 3, none⟩ = some (.int .i64 0) := (hc _ _ (by simp <;> omega)).trans (by go_simp)
  have d4 : w1.cell? ⟨w.heap.size + 1, 4, none⟩ = some (.int .i64 0) := (hc _ _ (by simp <;> omega)).trans (by go_simp)
  have d5 : w1.cell? ⟨w.heap.size + 1, 5, none⟩ = some (.int .i64 0) := (hc _ _ (by simp <;> omega)).trans (by go_simp)
  have d6 : w1.cell? ⟨w.heap.size + 1, 6, none⟩ = some (.int .i64 0) := (hc _ _ (by simp <;> omega)).trans (by go_simp)
  have d7 : w1.cell? ⟨w.heap.size + 1, 7, none⟩ = some (.int .i64 0) := (hc _ _ (by simp <;> omega)).trans (by go_simp)
  have d8 : w1.cell? ⟨w.heap.size + 1, 8, none⟩ = some (.int .i64 0) := (hc _ _ (by simp <;> omega)).trans (by go_simp)
  have d9 : w1.cell? ⟨w.heap.size + 1, 9, none⟩ = some (.int .i64 0) := (hc _ _ (by simp <;> omega)).trans (by go_simp)
  have fz1 : ∀ j, w1.frozen? ⟨w.heap.size, j, none⟩ = false := fun j => (hf _ _ (by simp <;> omega)).trans (by go_simp)
  have fz2 : ∀ j, w1.frozen? ⟨w.heap.size + 1, j, none⟩ = false := fun j => (hf _ _ (by simp <;> omega)).trans (by go_simp)
  clear hc hf
  clear hb1
  go_wp2
  refine bodyPost_ret (v := .agg #[.int .i64 bw, .int .i64 (bs - D), .int .i64 (ba - E), .int .i64 sw, .int .i64 (ss + D), .int .i64 (sa + E), .int .i64 so, .int .i64 gw, .int .i64 gs, .int .i64 ga]) ?_ rfl ⟨rfl, ?_⟩
  · simp [results, Tryd.results31, go_sem, d0, d1, d2, d3, d4, d5, d6, d7, d8, d9]
  · repeat (first | refine Below.setCell ?_ (by simp) _ | exact HB1.out)
end Go.Proofs.YteidabpflfkdcaaDoor.Bt
