/-
  WALKS (layer 3, baths), of the reference: waits, Until, Below.
-/
import Derived.Test.YtakldbpfdoeimaaBtFirst
import Derived.Test.YtakldbpfdoeimaaBtRefI
namespace Go.Proofs.Ytakldbpfdoeimaa.Bt
open Go Go.RowKit Go.Sort

theorem vatAt_alloc {W : World} {U : Nat} {u : Va} (h : VatAt W U u) (o : Obj) : VatAt (W.alloc o) U u := h.same (Below.heap_alloc W o U h.lt)
theorem rfirst_none {t : Int → Bool} {v : Va} {m : Nat} (h : ∀ j, j < m + 1 → t (hoursN j v).s.a = false) : firstL t v m = none :=
  first_none fun y hy => by
    obtain ⟨j, hj, rfl⟩ := List.mem_map.1 hy
    exact h j (List.mem_range.1 hj)
theorem rfirst_some {t : Int → Bool} {v : Va} {m k : Nat} (hk : k < m + 1) (h : ∀ j, j < k → t (hoursN j v).s.a = false) (hx : t (hoursN k v).s.a = true) : firstL t v m = some k :=
  first_some (pre := hrs v k) (x := (k, hoursN k v)) (by rw [← hrs_succ]; exact hrs_prefix v (by omega)) (fun y hy => by
    obtain ⟨j, hj, rfl⟩ := List.mem_map.1 hy
    exact h j (List.mem_range.1 hj)) hx
theorem rwaits_true_inv (bw bs ba sw ss sa so gw gs ga acid m : Int) (w : World) (hv : vatB ⟨⟨bw, bs, ba⟩, ⟨sw, ss, sa, so⟩, ⟨gw, gs, ga⟩⟩ = false) :
    Calls Try.prog 71 #[.agg #[.int .i64 bw, .int .i64 bs, .int .i64 ba, .int .i64 sw, .int .i64 ss, .int .i64 sa, .int .i64 so, .int .i64 gw, .int .i64 gs, .int .i64 ga], .int .i64 acid, .int .i64 m, .bool true] w (FirPost (fun x => decide (acid ≤ x)) ⟨⟨bw, bs, ba⟩, ⟨sw, ss, sa, so⟩, ⟨gw, gs, ga⟩⟩ acid m w) := by
  have HV : Kp (vatB ⟨⟨bw, bs, ba⟩, ⟨sw, ss, sa, so⟩, ⟨gw, gs, ga⟩⟩ = false) := ⟨hv⟩
  have HE := Lib.hid (fir_inv (t := fun x => decide (acid ≤ x)) (acid := acid) (most := m) hv)
  clear hv
  go_enter Try.func71, Try.ntmps71
  go_wp2_with fail
  refine (rValidVat_no bw bs ba sw ss sa so gw gs ga _ HV.out).mono ?_
  rintro e w1 ⟨rfl, hb1⟩
  have HB1 : Kp (Below w.heap.size w w1) := ⟨Below.trans (by repeat (first | refine Below.alloc ?_ (by (try simp) <;> omega) _ | refine bDrewN ?_ _ | refine Below.drew ?_ | exact Below.refl _ _)) (hb1.mono (by (try simp) <;> omega))⟩
  have hz1_0 : w.heap.size < w1.heap.size := by have := hb1.size; (try simp at this); omega
  obtain ⟨hc, hf⟩ := bcell hb1
  have c1_0_0 : w1.cell? ⟨w.heap.size, 0, none⟩ = some (.int .i64 bw) := (hc _ _ (by (try simp) <;> omega)).trans (by go_simp)
  have c1_0_1 : w1.cell? ⟨w.heap.size, 1, none⟩ = some (.int .i64 bs) := (hc _ _ (by (try simp) <;> omega)).trans (by go_simp)
  have c1_0_2 : w1.cell? ⟨w.heap.size, 2, none⟩ = some (.int .i64 ba) := (hc _ _ (by (try simp) <;> omega)).trans (by go_simp)
  have c1_0_3 : w1.cell? ⟨w.heap.size, 3, none⟩ = some (.int .i64 sw) := (hc _ _ (by (try simp) <;> omega)).trans (by go_simp)
  have c1_0_4 : w1.cell? ⟨w.heap.size, 4, none⟩ = some (.int .i64 ss) := (hc _ _ (by (try simp) <;> omega)).trans (by go_simp)
  have c1_0_5 : w1.cell? ⟨w.heap.size, 5, none⟩ = some (.int .i64 sa) := (hc _ _ (by (try simp) <;> omega)).trans (by go_simp)
  have c1_0_6 : w1.cell? ⟨w.heap.size, 6, none⟩ = some (.int .i64 so) := (hc _ _ (by (try simp) <;> omega)).trans (by go_simp)
  have c1_0_7 : w1.cell? ⟨w.heap.size, 7, none⟩ = some (.int .i64 gw) := (hc _ _ (by (try simp) <;> omega)).trans (by go_simp)
  have c1_0_8 : w1.cell? ⟨w.heap.size, 8, none⟩ = some (.int .i64 gs) := (hc _ _ (by (try simp) <;> omega)).trans (by go_simp)
  have c1_0_9 : w1.cell? ⟨w.heap.size, 9, none⟩ = some (.int .i64 ga) := (hc _ _ (by (try simp) <;> omega)).trans (by go_simp)
  have z1_0 : ∀ j, w1.frozen? ⟨w.heap.size, j, none⟩ = false := fun j => (hf _ _ (by (try simp) <;> omega)).trans (by go_simp)
  clear hc hf hb1
  go_wp2
  go_ret2
  exact firPost_of HE.out rfl HB1.out
theorem rwaits_true_rng1 (bw bs ba sw ss sa so gw gs ga acid m : Int) (w : World) (hv : vatB ⟨⟨bw, bs, ba⟩, ⟨sw, ss, sa, so⟩, ⟨gw, gs, ga⟩⟩ = true) (ha : rngB 1000000000 acid = false) :
    Calls Try.prog 71 #[.agg #[.int .i64 bw, .int .i64 bs, .int .i64 ba, .int .i64 sw, .int .i64 ss, .int .i64 sa, .int .i64 so, .int .i64 gw, .int .i64 gs, .int .i64 ga], .int .i64 acid, .int .i64 m, .bool true] w (FirPost (fun x => decide (acid ≤ x)) ⟨⟨bw, bs, ba⟩, ⟨sw, ss, sa, so⟩, ⟨gw, gs, ga⟩⟩ acid m w) := by
  have HV : Kp (vatB ⟨⟨bw, bs, ba⟩, ⟨sw, ss, sa, so⟩, ⟨gw, gs, ga⟩⟩ = true) := ⟨hv⟩
  have HA : Kp (rngB 1000000000 acid = false) := ⟨ha⟩
  have HE := Lib.hid (fir_rng (t := fun x => decide (acid ≤ x)) (acid := acid) (most := m) hv (by rw [ha]; rfl))
  clear hv ha
  go_enter Try.func71, Try.ntmps71
  go_wp2_with fail
  refine (rValidVat_yes bw bs ba sw ss sa so gw gs ga _ HV.out).mono ?_
  rintro e w1 ⟨rfl, hb1⟩
  have HB1 : Kp (Below w.heap.size w w1) := ⟨Below.trans (by repeat (first | refine Below.alloc ?_ (by (try simp) <;> omega) _ | refine bDrewN ?_ _ | refine Below.drew ?_ | exact Below.refl _ _)) (hb1.mono (by (try simp) <;> omega))⟩
  have hz1_0 : w.heap.size < w1.heap.size := by have := hb1.size; (try simp at this); omega
  obtain ⟨hc, hf⟩ := bcell hb1
  have c1_0_0 : w1.cell? ⟨w.heap.size, 0, none⟩ = some (.int .i64 bw) := (hc _ _ (by (try simp) <;> omega)).trans (by go_simp)
  have c1_0_1 : w1.cell? ⟨w.heap.size, 1, none⟩ = some (.int .i64 bs) := (hc _ _ (by (try simp) <;> omega)).trans (by go_simp)
  have c1_0_2 : w1.cell? ⟨w.heap.size, 2, none⟩ = some (.int .i64 ba) := (hc _ _ (by (try simp) <;> omega)).trans (by go_simp)
  have c1_0_3 : w1.cell? ⟨w.heap.size, 3, none⟩ = some (.int .i64 sw) := (hc _ _ (by (try simp) <;> omega)).trans (by go_simp)
  have c1_0_4 : w1.cell? ⟨w.heap.size, 4, none⟩ = some (.int .i64 ss) := (hc _ _ (by (try simp) <;> omega)).trans (by go_simp)
  have c1_0_5 : w1.cell? ⟨w.heap.size, 5, none⟩ = some (.int .i64 sa) := (hc _ _ (by (try simp) <;> omega)).trans (by go_simp)
  have c1_0_6 : w1.cell? ⟨w.heap.size, 6, none⟩ = some (.int .i64 so) := (hc _ _ (by (try simp) <;> omega)).trans (by go_simp)
  have c1_0_7 : w1.cell? ⟨w.heap.size, 7, none⟩ = some (.int .i64 gw) := (hc _ _ (by (try simp) <;> omega)).trans (by go_simp)
  have c1_0_8 : w1.cell? ⟨w.heap.size, 8, none⟩ = some (.int .i64 gs) := (hc _ _ (by (try simp) <;> omega)).trans (by go_simp)
  have c1_0_9 : w1.cell? ⟨w.heap.size, 9, none⟩ = some (.int .i64 ga) := (hc _ _ (by (try simp) <;> omega)).trans (by go_simp)
  have z1_0 : ∀ j, w1.frozen? ⟨w.heap.size, j, none⟩ = false := fun j => (hf _ _ (by (try simp) <;> omega)).trans (by go_simp)
  clear hc hf hb1
  go_wp2_with fail
  refine (rgrain_no _ _ HA.out).mono ?_
  rintro e w2 ⟨rfl, rfl⟩
  go_wp2
  go_ret2
  exact firPost_of HE.out rfl HB1.out
theorem rwaits_true_rng2 (bw bs ba sw ss sa so gw gs ga acid m : Int) (w : World) (hv : vatB ⟨⟨bw, bs, ba⟩, ⟨sw, ss, sa, so⟩, ⟨gw, gs, ga⟩⟩ = true) (ha : rngB 1000000000 acid = true) (hm : rngB 10000 m = false) :
    Calls Try.prog 71 #[.agg #[.int .i64 bw, .int .i64 bs, .int .i64 ba, .int .i64 sw, .int .i64 ss, .int .i64 sa, .int .i64 so, .int .i64 gw, .int .i64 gs, .int .i64 ga], .int .i64 acid, .int .i64 m, .bool true] w (FirPost (fun x => decide (acid ≤ x)) ⟨⟨bw, bs, ba⟩, ⟨sw, ss, sa, so⟩, ⟨gw, gs, ga⟩⟩ acid m w) := by
  have HV : Kp (vatB ⟨⟨bw, bs, ba⟩, ⟨sw, ss, sa, so⟩, ⟨gw, gs, ga⟩⟩ = true) := ⟨hv⟩
  have HA : Kp (rngB 1000000000 acid = true) := ⟨ha⟩
  have HM : Kp (m < 0 ∨ 10000 < m) := ⟨rng_not hm⟩
  have HE := Lib.hid (fir_rng (t := fun x => decide (acid ≤ x)) (acid := acid) (most := m) hv (by rw [hm, Bool.and_false]))
  clear hv ha hm
  go_enter Try.func71, Try.ntmps71
  go_wp2_with fail
  refine (rValidVat_yes bw bs ba sw ss sa so gw gs ga _ HV.out).mono ?_
  rintro e w1 ⟨rfl, hb1⟩
  have HB1 : Kp (Below w.heap.size w w1) := ⟨Below.trans (by repeat (first | refine Below.alloc ?_ (by (try simp) <;> omega) _ | refine bDrewN ?_ _ | refine Below.drew ?_ | exact Below.refl _ _)) (hb1.mono (by (try simp) <;> omega))⟩
  have hz1_0 : w.heap.size < w1.heap.size := by have := hb1.size; (try simp at this); omega
  obtain ⟨hc, hf⟩ := bcell hb1
  have c1_0_0 : w1.cell? ⟨w.heap.size, 0, none⟩ = some (.int .i64 bw) := (hc _ _ (by (try simp) <;> omega)).trans (by go_simp)
  have c1_0_1 : w1.cell? ⟨w.heap.size, 1, none⟩ = some (.int .i64 bs) := (hc _ _ (by (try simp) <;> omega)).trans (by go_simp)
  have c1_0_2 : w1.cell? ⟨w.heap.size, 2, none⟩ = some (.int .i64 ba) := (hc _ _ (by (try simp) <;> omega)).trans (by go_simp)
  have c1_0_3 : w1.cell? ⟨w.heap.size, 3, none⟩ = some (.int .i64 sw) := (hc _ _ (by (try simp) <;> omega)).trans (by go_simp)
  have c1_0_4 : w1.cell? ⟨w.heap.size, 4, none⟩ = some (.int .i64 ss) := (hc _ _ (by (try simp) <;> omega)).trans (by go_simp)
  have c1_0_5 : w1.cell? ⟨w.heap.size, 5, none⟩ = some (.int .i64 sa) := (hc _ _ (by (try simp) <;> omega)).trans (by go_simp)
  have c1_0_6 : w1.cell? ⟨w.heap.size, 6, none⟩ = some (.int .i64 so) := (hc _ _ (by (try simp) <;> omega)).trans (by go_simp)
  have c1_0_7 : w1.cell? ⟨w.heap.size, 7, none⟩ = some (.int .i64 gw) := (hc _ _ (by (try simp) <;> omega)).trans (by go_simp)
  have c1_0_8 : w1.cell? ⟨w.heap.size, 8, none⟩ = some (.int .i64 gs) := (hc _ _ (by (try simp) <;> omega)).trans (by go_simp)
  have c1_0_9 : w1.cell? ⟨w.heap.size, 9, none⟩ = some (.int .i64 ga) := (hc _ _ (by (try simp) <;> omega)).trans (by go_simp)
  have z1_0 : ∀ j, w1.frozen? ⟨w.heap.size, j, none⟩ = false := fun j => (hf _ _ (by (try simp) <;> omega)).trans (by go_simp)
  clear hc hf hb1
  go_wp2_with fail
  refine (rgrain_yes _ _ HA.out).mono ?_
  rintro e w2 ⟨rfl, rfl⟩
  go_wp2_with fail
  refine (rwithin_no _ _ _ _ HM.out).mono ?_
  rintro e w2 ⟨rfl, rfl⟩
  go_wp2
  go_ret2
  exact firPost_of HE.out rfl HB1.out
set_option maxHeartbeats 1000000 in
theorem rwaits_true_in (bw bs ba sw ss sa so gw gs ga acid : Int) (m : Nat) (w : World) (hv : vatB ⟨⟨bw, bs, ba⟩, ⟨sw, ss, sa, so⟩, ⟨gw, gs, ga⟩⟩ = true) (ha : rngB 1000000000 acid = true) (hm : m ≤ 10000) :
    Calls Try.prog 71 #[.agg #[.int .i64 bw, .int .i64 bs, .int .i64 ba, .int .i64 sw, .int .i64 ss, .int .i64 sa, .int .i64 so, .int .i64 gw, .int .i64 gs, .int .i64 ga], .int .i64 acid, .int .i64 m, .bool true] w (FirPost (fun x => decide (acid ≤ x)) ⟨⟨bw, bs, ba⟩, ⟨sw, ss, sa, so⟩, ⟨gw, gs, ga⟩⟩ acid m w) := by
  have HV : Kp (vatB ⟨⟨bw, bs, ba⟩, ⟨sw, ss, sa, so⟩, ⟨gw, gs, ga⟩⟩ = true) := ⟨hv⟩
  have HA : Kp (rngB 1000000000 acid = true) := ⟨ha⟩
  have hm' : rngB 10000 (m : Int) = true := rng_yes (by omega) (by omega)
  have HM : Kp ((0 : Int) ≤ m ∧ (m : Int) ≤ 10000) := ⟨by omega⟩
  have HR : Kp ((rngB 1000000000 acid && rngB 10000 (m : Int)) = true) := ⟨by rw [ha, hm']; rfl⟩
  clear hv ha hm'
  go_enter Try.func71, Try.ntmps71
  go_wp2_with fail
  refine (rValidVat_yes bw bs ba sw ss sa so gw gs ga _ HV.out).mono ?_
  rintro e w1 ⟨rfl, hb1⟩
  have HB1 : Kp (Below w.heap.size w w1) := ⟨Below.trans (by repeat (first | refine Below.alloc ?_ (by (try simp) <;> omega) _ | refine bDrewN ?_ _ | refine Below.drew ?_ | exact Below.refl _ _)) (hb1.mono (by (try simp) <;> omega))⟩
  have hz1_0 : w.heap.size < w1.heap.size := by have := hb1.size; (try simp at this); omega
  obtain ⟨hc, hf⟩ := bcell hb1
  have c1_0_0 : w1.cell? ⟨w.heap.size, 0, none⟩ = some (.int .i64 bw) := (hc _ _ (by (try simp) <;> omega)).trans (by go_simp)
  have c1_0_1 : w1.cell? ⟨w.heap.size, 1, none⟩ = some (.int .i64 bs) := (hc _ _ (by (try simp) <;> omega)).trans (by go_simp)
  have c1_0_2 : w1.cell? ⟨w.heap.size, 2, none⟩ = some (.int .i64 ba) := (hc _ _ (by (try simp) <;> omega)).trans (by go_simp)
  have c1_0_3 : w1.cell? ⟨w.heap.size, 3, none⟩ = some (.int .i64 sw) := (hc _ _ (by (try simp) <;> omega)).trans (by go_simp)
  have c1_0_4 : w1.cell? ⟨w.heap.size, 4, none⟩ = some (.int .i64 ss) := (hc _ _ (by (try simp) <;> omega)).trans (by go_simp)
  have c1_0_5 : w1.cell? ⟨w.heap.size, 5, none⟩ = some (.int .i64 sa) := (hc _ _ (by (try simp) <;> omega)).trans (by go_simp)
  have c1_0_6 : w1.cell? ⟨w.heap.size, 6, none⟩ = some (.int .i64 so) := (hc _ _ (by (try simp) <;> omega)).trans (by go_simp)
  have c1_0_7 : w1.cell? ⟨w.heap.size, 7, none⟩ = some (.int .i64 gw) := (hc _ _ (by (try simp) <;> omega)).trans (by go_simp)
  have c1_0_8 : w1.cell? ⟨w.heap.size, 8, none⟩ = some (.int .i64 gs) := (hc _ _ (by (try simp) <;> omega)).trans (by go_simp)
  have c1_0_9 : w1.cell? ⟨w.heap.size, 9, none⟩ = some (.int .i64 ga) := (hc _ _ (by (try simp) <;> omega)).trans (by go_simp)
  have z1_0 : ∀ j, w1.frozen? ⟨w.heap.size, j, none⟩ = false := fun j => (hf _ _ (by (try simp) <;> omega)).trans (by go_simp)
  clear hc hf hb1
  have HI : Kp (VatAt w1 w.heap.size ⟨⟨bw, bs, ba⟩, ⟨sw, ss, sa, so⟩, ⟨gw, gs, ga⟩⟩) := ⟨⟨c1_0_0, c1_0_1, c1_0_2, c1_0_3, c1_0_4, c1_0_5, c1_0_6, c1_0_7, c1_0_8, c1_0_9, z1_0⟩⟩
  clear c1_0_0 c1_0_1 c1_0_2 c1_0_3 c1_0_4 c1_0_5 c1_0_6 c1_0_7 c1_0_8 c1_0_9 z1_0 hz1_0
  go_wp2_with fail
  refine (rgrain_yes _ _ HA.out).mono ?_
  rintro e w2 ⟨rfl, rfl⟩
  go_wp2_with fail
  refine (rwithin_yes _ _ _ _ HM.out.1 HM.out.2).mono ?_
  rintro e w2 ⟨rfl, rfl⟩
  go_wp2
  obtain ⟨Z, hZ⟩ : ∃ Z, w.heap.size = Z := ⟨_, rfl⟩
  rw [hZ] at HI ⊢
  have HZ : Kp (w.heap.size = Z) := ⟨hZ⟩
  clear hZ
  go_loopw [10] (fun i wr => ∃ k : Nat, k ≤ m + 1 ∧ i = .int .i64 k ∧ VatAt wr Z (hoursN k ⟨⟨bw, bs, ba⟩, ⟨sw, ss, sa, so⟩, ⟨gw, gs, ga⟩⟩) ∧ Kp (∀ j, j < k → (fun x => decide (acid ≤ x)) (hoursN j ⟨⟨bw, bs, ba⟩, ⟨sw, ss, sa, so⟩, ⟨gw, gs, ga⟩⟩).s.a = false) ∧ Kp (Below w.heap.size w wr)) (fun i _ => m + 1 - (intOf i).toNat)
  case atStart => exact ⟨0, by omega, rfl, HI.out, ⟨fun j h => by omega⟩, HB1⟩
  case round =>
    obtain ⟨k, hk, rfl, hN, HP, HB⟩ := hrel
    by_cases hlt : k < m + 1
    · have HH : Kp (hoursN (k + 1) ⟨⟨bw, bs, ba⟩, ⟨sw, ss, sa, so⟩, ⟨gw, gs, ga⟩⟩ = hour (hoursN k ⟨⟨bw, bs, ba⟩, ⟨sw, ss, sa, so⟩, ⟨gw, gs, ga⟩⟩)) := ⟨hoursN_succ k _⟩
      have HW : Kp (vatB (hoursN k ⟨⟨bw, bs, ba⟩, ⟨sw, ss, sa, so⟩, ⟨gw, gs, ga⟩⟩) = true) := ⟨hoursN_valid k HV.out⟩
      have HX := Lib.hid (fun ht : (fun x => decide (acid ≤ x)) (hoursN k ⟨⟨bw, bs, ba⟩, ⟨sw, ss, sa, so⟩, ⟨gw, gs, ga⟩⟩).s.a = true => fir_some (acid := acid) (m := m) HV.out HR.out (rfirst_some (t := fun x => decide (acid ≤ x)) (k := k) hlt HP.out ht))
      have HPN := Lib.hid (fun ht : (fun x => decide (acid ≤ x)) (hoursN k ⟨⟨bw, bs, ba⟩, ⟨sw, ss, sa, so⟩, ⟨gw, gs, ga⟩⟩).s.a = false => show ∀ j, j < k + 1 → (fun x => decide (acid ≤ x)) (hoursN j ⟨⟨bw, bs, ba⟩, ⟨sw, ss, sa, so⟩, ⟨gw, gs, ga⟩⟩).s.a = false from fun j hj => by
        by_cases e : j = k
        · subst e; exact ht
        · exact HP.out j (by omega))
      obtain ⟨u, hu⟩ : ∃ u, hoursN k ⟨⟨bw, bs, ba⟩, ⟨sw, ss, sa, so⟩, ⟨gw, gs, ga⟩⟩ = u := ⟨_, rfl⟩
      rw [hu] at hN HH HW HX HPN
      clear hu HP
      obtain ⟨⟨x0, x1, x2⟩, ⟨x3, x4, x5, x6⟩, ⟨x7, x8, x9⟩⟩ := u
      have HN : Kp (VatAt wr Z ⟨⟨x0, x1, x2⟩, ⟨x3, x4, x5, x6⟩, ⟨x7, x8, x9⟩⟩) := ⟨hN⟩
      have hlz := hN.lt
      obtain ⟨a0, a1, a2, a3, a4, a5, a6, a7, a8, a9, az⟩ := hN
      simp only at a0 a1 a2 a3 a4 a5 a6 a7 a8 a9
      have o1 : (k : Int) ≤ (m : Int) := by omega
      have o2 : decide (k ≤ m) = true := decide_eq_true (by omega)
      by_cases ht : acid ≤ x5
      · have HXX := Lib.hid (HX.out (decide_eq_true ht))
        go_wp2
        go_ret2
        exact firPost_of HXX.out rfl HB.out
      · have HPP := Lib.hid (HPN.out (decide_eq_false ht))
        go_wp2_with fail
        refine (rHour_yes _ _ _ _ _ _ _ _ _ _ _ HW.out).mono ?_
        obtain ⟨D, hD⟩ : ∃ D, ovr x6 (bal x0 x3 x1 x4 - x4) = D := ⟨_, rfl⟩
        obtain ⟨E, hE⟩ : ∃ E, ovr x6 (bal x0 x3 x2 x5 - x5) = E := ⟨_, rfl⟩
        have HU : Kp (hour ⟨⟨x0, x1, x2⟩, ⟨x3, x4, x5, x6⟩, ⟨x7, x8, x9⟩⟩ = ⟨⟨x0, x1 - D, x2 - E⟩, ⟨x3, x4 + D, x5 + E, x6⟩, ⟨x7, x8, x9⟩⟩) := ⟨by unfold hour; simp only [hD, hE]⟩
        rw [hD, hE]
        clear hD hE
        rintro e w4 ⟨rfl, hb4⟩
        have HN4 : Kp (VatAt w4 Z ⟨⟨x0, x1, x2⟩, ⟨x3, x4, x5, x6⟩, ⟨x7, x8, x9⟩⟩) := ⟨HN.out.same (hb4.block Z hlz)⟩
        have HB4 : Kp (Below w.heap.size w w4) := ⟨HB.out.trans (hb4.mono HB.out.size)⟩
        have HN5 : Kp (VatAt (setVat w4 Z ⟨⟨x0, x1 - D, x2 - E⟩, ⟨x3, x4 + D, x5 + E, x6⟩, ⟨x7, x8, x9⟩⟩) Z ⟨⟨x0, x1 - D, x2 - E⟩, ⟨x3, x4 + D, x5 + E, x6⟩, ⟨x7, x8, x9⟩⟩) := ⟨setVat_at HN4.out⟩
        have HB5 : Kp (Below w.heap.size w (setVat w4 Z ⟨⟨x0, x1 - D, x2 - E⟩, ⟨x3, x4 + D, x5 + E, x6⟩, ⟨x7, x8, x9⟩⟩)) := ⟨by
          have g := setVat_grown w4 Z ⟨⟨x0, x1 - D, x2 - E⟩, ⟨x3, x4 + D, x5 + E, x6⟩, ⟨x7, x8, x9⟩⟩
          exact HB4.out.grown g HB4.out.size (fun j e => by simp only [Option.some.injEq] at e; have := HZ.out; omega)⟩
        have hl4 : Z < w4.heap.size := HN4.out.lt
        clear hb4 a0 a1 a2 a3 a4 a5 a6 a7 a8 a9 az HN HB
        obtain ⟨a0, a1, a2, a3, a4, a5, a6, a7, a8, a9, az⟩ := HN4.out
        simp only at a0 a1 a2 a3 a4 a5 a6 a7 a8 a9
        unfold setVat at HN5 HB5
        by_cases hkm : k < m
        · have o3 : (k : Int) < (m : Int) := by omega
          have o4 : decide (k < m) = true := decide_eq_true hkm
          go_wp2
          go_roundw
          case rel => exact ⟨k + 1, by omega, by go_num, by rw [HH.out, HU.out]; exact (vatAt_alloc HN5.out _), ⟨HPP.out⟩, ⟨HB5.out.alloc HB5.out.size _⟩⟩
          case measure => simp [intOf]; omega
        · have o3 : ¬ (k : Int) < (m : Int) := by omega
          have o4 : decide (k < m) = false := decide_eq_false hkm
          go_wp2
          go_roundw
          case rel => exact ⟨k + 1, by omega, by go_num, by rw [HH.out, HU.out]; exact (vatAt_alloc HN5.out _), ⟨HPP.out⟩, ⟨HB5.out.alloc HB5.out.size _⟩⟩
          case measure => simp [intOf]; omega
    · have hkm : k = m + 1 := by omega
      subst hkm
      have HE := Lib.hid (fir_none (acid := acid) (m := m) HV.out HR.out (rfirst_none (t := fun x => decide (acid ≤ x)) HP.out))
      have o1 : ¬ ((m + 1 : Nat) : Int) ≤ (m : Int) := by omega
      clear hN
      go_wp2
      go_ret2
      exact firPost_of HE.out rfl HB.out
theorem rwaits_true_any (bw bs ba sw ss sa so gw gs ga acid most : Int) (w : World) : Calls Try.prog 71 #[.agg #[.int .i64 bw, .int .i64 bs, .int .i64 ba, .int .i64 sw, .int .i64 ss, .int .i64 sa, .int .i64 so, .int .i64 gw, .int .i64 gs, .int .i64 ga], .int .i64 acid, .int .i64 most, .bool true] w (FirPost (fun x => decide (acid ≤ x)) ⟨⟨bw, bs, ba⟩, ⟨sw, ss, sa, so⟩, ⟨gw, gs, ga⟩⟩ acid most w) := by
  cases hv : vatB ⟨⟨bw, bs, ba⟩, ⟨sw, ss, sa, so⟩, ⟨gw, gs, ga⟩⟩ with
  | false => exact rwaits_true_inv bw bs ba sw ss sa so gw gs ga acid most w hv
  | true =>
    cases ha : rngB 1000000000 acid with
    | false => exact rwaits_true_rng1 bw bs ba sw ss sa so gw gs ga acid most w hv ha
    | true =>
      cases hm : rngB 10000 most with
      | false => exact rwaits_true_rng2 bw bs ba sw ss sa so gw gs ga acid most w hv ha hm
      | true =>
        obtain ⟨m0, m1⟩ := rng_iff.1 hm
        obtain ⟨m, rfl⟩ := Int.eq_ofNat_of_zero_le m0
        exact rwaits_true_in bw bs ba sw ss sa so gw gs ga acid m w hv ha (by omega)
theorem rwaits_false_inv (bw bs ba sw ss sa so gw gs ga acid m : Int) (w : World) (hv : vatB ⟨⟨bw, bs, ba⟩, ⟨sw, ss, sa, so⟩, ⟨gw, gs, ga⟩⟩ = false) :
    Calls Try.prog 71 #[.agg #[.int .i64 bw, .int .i64 bs, .int .i64 ba, .int .i64 sw, .int .i64 ss, .int .i64 sa, .int .i64 so, .int .i64 gw, .int .i64 gs, .int .i64 ga], .int .i64 acid, .int .i64 m, .bool false] w (FirPost (fun x => decide (x ≤ acid)) ⟨⟨bw, bs, ba⟩, ⟨sw, ss, sa, so⟩, ⟨gw, gs, ga⟩⟩ acid m w) := by
  have HV : Kp (vatB ⟨⟨bw, bs, ba⟩, ⟨sw, ss, sa, so⟩, ⟨gw, gs, ga⟩⟩ = false) := ⟨hv⟩
  have HE := Lib.hid (fir_inv (t := fun x => decide (x ≤ acid)) (acid := acid) (most := m) hv)
  clear hv
  go_enter Try.func71, Try.ntmps71
  go_wp2_with fail
  refine (rValidVat_no bw bs ba sw ss sa so gw gs ga _ HV.out).mono ?_
  rintro e w1 ⟨rfl, hb1⟩
  have HB1 : Kp (Below w.heap.size w w1) := ⟨Below.trans (by repeat (first | refine Below.alloc ?_ (by (try simp) <;> omega) _ | refine bDrewN ?_ _ | refine Below.drew ?_ | exact Below.refl _ _)) (hb1.mono (by (try simp) <;> omega))⟩
  have hz1_0 : w.heap.size < w1.heap.size := by have := hb1.size; (try simp at this); omega
  obtain ⟨hc, hf⟩ := bcell hb1
  have c1_0_0 : w1.cell? ⟨w.heap.size, 0, none⟩ = some (.int .i64 bw) := (hc _ _ (by (try simp) <;> omega)).trans (by go_simp)
  have c1_0_1 : w1.cell? ⟨w.heap.size, 1, none⟩ = some (.int .i64 bs) := (hc _ _ (by (try simp) <;> omega)).trans (by go_simp)
  have c1_0_2 : w1.cell? ⟨w.heap.size, 2, none⟩ = some (.int .i64 ba) := (hc _ _ (by (try simp) <;> omega)).trans (by go_simp)
  have c1_0_3 : w1.cell? ⟨w.heap.size, 3, none⟩ = some (.int .i64 sw) := (hc _ _ (by (try simp) <;> omega)).trans (by go_simp)
  have c1_0_4 : w1.cell? ⟨w.heap.size, 4, none⟩ = some (.int .i64 ss) := (hc _ _ (by (try simp) <;> omega)).trans (by go_simp)
  have c1_0_5 : w1.cell? ⟨w.heap.size, 5, none⟩ = some (.int .i64 sa) := (hc _ _ (by (try simp) <;> omega)).trans (by go_simp)
  have c1_0_6 : w1.cell? ⟨w.heap.size, 6, none⟩ = some (.int .i64 so) := (hc _ _ (by (try simp) <;> omega)).trans (by go_simp)
  have c1_0_7 : w1.cell? ⟨w.heap.size, 7, none⟩ = some (.int .i64 gw) := (hc _ _ (by (try simp) <;> omega)).trans (by go_simp)
  have c1_0_8 : w1.cell? ⟨w.heap.size, 8, none⟩ = some (.int .i64 gs) := (hc _ _ (by (try simp) <;> omega)).trans (by go_simp)
  have c1_0_9 : w1.cell? ⟨w.heap.size, 9, none⟩ = some (.int .i64 ga) := (hc _ _ (by (try simp) <;> omega)).trans (by go_simp)
  have z1_0 : ∀ j, w1.frozen? ⟨w.heap.size, j, none⟩ = false := fun j => (hf _ _ (by (try simp) <;> omega)).trans (by go_simp)
  clear hc hf hb1
  go_wp2
  go_ret2
  exact firPost_of HE.out rfl HB1.out
theorem rwaits_false_rng1 (bw bs ba sw ss sa so gw gs ga acid m : Int) (w : World) (hv : vatB ⟨⟨bw, bs, ba⟩, ⟨sw, ss, sa, so⟩, ⟨gw, gs, ga⟩⟩ = true) (ha : rngB 1000000000 acid = false) :
    Calls Try.prog 71 #[.agg #[.int .i64 bw, .int .i64 bs, .int .i64 ba, .int .i64 sw, .int .i64 ss, .int .i64 sa, .int .i64 so, .int .i64 gw, .int .i64 gs, .int .i64 ga], .int .i64 acid, .int .i64 m, .bool false] w (FirPost (fun x => decide (x ≤ acid)) ⟨⟨bw, bs, ba⟩, ⟨sw, ss, sa, so⟩, ⟨gw, gs, ga⟩⟩ acid m w) := by
  have HV : Kp (vatB ⟨⟨bw, bs, ba⟩, ⟨sw, ss, sa, so⟩, ⟨gw, gs, ga⟩⟩ = true) := ⟨hv⟩
  have HA : Kp (rngB 1000000000 acid = false) := ⟨ha⟩
  have HE := Lib.hid (fir_rng (t := fun x => decide (x ≤ acid)) (acid := acid) (most := m) hv (by rw [ha]; rfl))
  clear hv ha
  go_enter Try.func71, Try.ntmps71
  go_wp2_with fail
  refine (rValidVat_yes bw bs ba sw ss sa so gw gs ga _ HV.out).mono ?_
  rintro e w1 ⟨rfl, hb1⟩
  have HB1 : Kp (Below w.heap.size w w1) := ⟨Below.trans (by repeat (first | refine Below.alloc ?_ (by (try simp) <;> omega) _ | refine bDrewN ?_ _ | refine Below.drew ?_ | exact Below.refl _ _)) (hb1.mono (by (try simp) <;> omega))⟩
  have hz1_0 : w.heap.size < w1.heap.size := by have := hb1.size; (try simp at this); omega
  obtain ⟨hc, hf⟩ := bcell hb1
  have c1_0_0 : w1.cell? ⟨w.heap.size, 0, none⟩ = some (.int .i64 bw) := (hc _ _ (by (try simp) <;> omega)).trans (by go_simp)
  have c1_0_1 : w1.cell? ⟨w.heap.size, 1, none⟩ = some (.int .i64 bs) := (hc _ _ (by (try simp) <;> omega)).trans (by go_simp)
  have c1_0_2 : w1.cell? ⟨w.heap.size, 2, none⟩ = some (.int .i64 ba) := (hc _ _ (by (try simp) <;> omega)).trans (by go_simp)
  have c1_0_3 : w1.cell? ⟨w.heap.size, 3, none⟩ = some (.int .i64 sw) := (hc _ _ (by (try simp) <;> omega)).trans (by go_simp)
  have c1_0_4 : w1.cell? ⟨w.heap.size, 4, none⟩ = some (.int .i64 ss) := (hc _ _ (by (try simp) <;> omega)).trans (by go_simp)
  have c1_0_5 : w1.cell? ⟨w.heap.size, 5, none⟩ = some (.int .i64 sa) := (hc _ _ (by (try simp) <;> omega)).trans (by go_simp)
  have c1_0_6 : w1.cell? ⟨w.heap.size, 6, none⟩ = some (.int .i64 so) := (hc _ _ (by (try simp) <;> omega)).trans (by go_simp)
  have c1_0_7 : w1.cell? ⟨w.heap.size, 7, none⟩ = some (.int .i64 gw) := (hc _ _ (by (try simp) <;> omega)).trans (by go_simp)
  have c1_0_8 : w1.cell? ⟨w.heap.size, 8, none⟩ = some (.int .i64 gs) := (hc _ _ (by (try simp) <;> omega)).trans (by go_simp)
  have c1_0_9 : w1.cell? ⟨w.heap.size, 9, none⟩ = some (.int .i64 ga) := (hc _ _ (by (try simp) <;> omega)).trans (by go_simp)
  have z1_0 : ∀ j, w1.frozen? ⟨w.heap.size, j, none⟩ = false := fun j => (hf _ _ (by (try simp) <;> omega)).trans (by go_simp)
  clear hc hf hb1
  go_wp2_with fail
  refine (rgrain_no _ _ HA.out).mono ?_
  rintro e w2 ⟨rfl, rfl⟩
  go_wp2
  go_ret2
  exact firPost_of HE.out rfl HB1.out
theorem rwaits_false_rng2 (bw bs ba sw ss sa so gw gs ga acid m : Int) (w : World) (hv : vatB ⟨⟨bw, bs, ba⟩, ⟨sw, ss, sa, so⟩, ⟨gw, gs, ga⟩⟩ = true) (ha : rngB 1000000000 acid = true) (hm : rngB 10000 m = false) :
    Calls Try.prog 71 #[.agg #[.int .i64 bw, .int .i64 bs, .int .i64 ba, .int .i64 sw, .int .i64 ss, .int .i64 sa, .int .i64 so, .int .i64 gw, .int .i64 gs, .int .i64 ga], .int .i64 acid, .int .i64 m, .bool false] w (FirPost (fun x => decide (x ≤ acid)) ⟨⟨bw, bs, ba⟩, ⟨sw, ss, sa, so⟩, ⟨gw, gs, ga⟩⟩ acid m w) := by
  have HV : Kp (vatB ⟨⟨bw, bs, ba⟩, ⟨sw, ss, sa, so⟩, ⟨gw, gs, ga⟩⟩ = true) := ⟨hv⟩
  have HA : Kp (rngB 1000000000 acid = true) := ⟨ha⟩
  have HM : Kp (m < 0 ∨ 10000 < m) := ⟨rng_not hm⟩
  have HE := Lib.hid (fir_rng (t := fun x => decide (x ≤ acid)) (acid := acid) (most := m) hv (by rw [hm, Bool.and_false]))
  clear hv ha hm
  go_enter Try.func71, Try.ntmps71
  go_wp2_with fail
  refine (rValidVat_yes bw bs ba sw ss sa so gw gs ga _ HV.out).mono ?_
  rintro e w1 ⟨rfl, hb1⟩
  have HB1 : Kp (Below w.heap.size w w1) := ⟨Below.trans (by repeat (first | refine Below.alloc ?_ (by (try simp) <;> omega) _ | refine bDrewN ?_ _ | refine Below.drew ?_ | exact Below.refl _ _)) (hb1.mono (by (try simp) <;> omega))⟩
  have hz1_0 : w.heap.size < w1.heap.size := by have := hb1.size; (try simp at this); omega
  obtain ⟨hc, hf⟩ := bcell hb1
  have c1_0_0 : w1.cell? ⟨w.heap.size, 0, none⟩ = some (.int .i64 bw) := (hc _ _ (by (try simp) <;> omega)).trans (by go_simp)
  have c1_0_1 : w1.cell? ⟨w.heap.size, 1, none⟩ = some (.int .i64 bs) := (hc _ _ (by (try simp) <;> omega)).trans (by go_simp)
  have c1_0_2 : w1.cell? ⟨w.heap.size, 2, none⟩ = some (.int .i64 ba) := (hc _ _ (by (try simp) <;> omega)).trans (by go_simp)
  have c1_0_3 : w1.cell? ⟨w.heap.size, 3, none⟩ = some (.int .i64 sw) := (hc _ _ (by (try simp) <;> omega)).trans (by go_simp)
  have c1_0_4 : w1.cell? ⟨w.heap.size, 4, none⟩ = some (.int .i64 ss) := (hc _ _ (by (try simp) <;> omega)).trans (by go_simp)
  have c1_0_5 : w1.cell? ⟨w.heap.size, 5, none⟩ = some (.int .i64 sa) := (hc _ _ (by (try simp) <;> omega)).trans (by go_simp)
  have c1_0_6 : w1.cell? ⟨w.heap.size, 6, none⟩ = some (.int .i64 so) := (hc _ _ (by (try simp) <;> omega)).trans (by go_simp)
  have c1_0_7 : w1.cell? ⟨w.heap.size, 7, none⟩ = some (.int .i64 gw) := (hc _ _ (by (try simp) <;> omega)).trans (by go_simp)
  have c1_0_8 : w1.cell? ⟨w.heap.size, 8, none⟩ = some (.int .i64 gs) := (hc _ _ (by (try simp) <;> omega)).trans (by go_simp)
  have c1_0_9 : w1.cell? ⟨w.heap.size, 9, none⟩ = some (.int .i64 ga) := (hc _ _ (by (try simp) <;> omega)).trans (by go_simp)
  have z1_0 : ∀ j, w1.frozen? ⟨w.heap.size, j, none⟩ = false := fun j => (hf _ _ (by (try simp) <;> omega)).trans (by go_simp)
  clear hc hf hb1
  go_wp2_with fail
  refine (rgrain_yes _ _ HA.out).mono ?_
  rintro e w2 ⟨rfl, rfl⟩
  go_wp2_with fail
  refine (rwithin_no _ _ _ _ HM.out).mono ?_
  rintro e w2 ⟨rfl, rfl⟩
  go_wp2
  go_ret2
  exact firPost_of HE.out rfl HB1.out
set_option maxHeartbeats 1000000 in
theorem rwaits_false_in (bw bs ba sw ss sa so gw gs ga acid : Int) (m : Nat) (w : World) (hv : vatB ⟨⟨bw, bs, ba⟩, ⟨sw, ss, sa, so⟩, ⟨gw, gs, ga⟩⟩ = true) (ha : rngB 1000000000 acid = true) (hm : m ≤ 10000) :
    Calls Try.prog 71 #[.agg #[.int .i64 bw, .int .i64 bs, .int .i64 ba, .int .i64 sw, .int .i64 ss, .int .i64 sa, .int .i64 so, .int .i64 gw, .int .i64 gs, .int .i64 ga], .int .i64 acid, .int .i64 m, .bool false] w (FirPost (fun x => decide (x ≤ acid)) ⟨⟨bw, bs, ba⟩, ⟨sw, ss, sa, so⟩, ⟨gw, gs, ga⟩⟩ acid m w) := by
  have HV : Kp (vatB ⟨⟨bw, bs, ba⟩, ⟨sw, ss, sa, so⟩, ⟨gw, gs, ga⟩⟩ = true) := ⟨hv⟩
  have HA : Kp (rngB 1000000000 acid = true) := ⟨ha⟩
  have hm' : rngB 10000 (m : Int) = true := rng_yes (by omega) (by omega)
  have HM : Kp ((0 : Int) ≤ m ∧ (m : Int) ≤ 10000) := ⟨by omega⟩
  have HR : Kp ((rngB 1000000000 acid && rngB 10000 (m : Int)) = true) := ⟨by rw [ha, hm']; rfl⟩
  clear hv ha hm'
  go_enter Try.func71, Try.ntmps71
  go_wp2_with fail
  refine (rValidVat_yes bw bs ba sw ss sa so gw gs ga _ HV.out).mono ?_
  rintro e w1 ⟨rfl, hb1⟩
  have HB1 : Kp (Below w.heap.size w w1) := ⟨Below.trans (by repeat (first | refine Below.alloc ?_ (by (try simp) <;> omega) _ | refine bDrewN ?_ _ | refine Below.drew ?_ | exact Below.refl _ _)) (hb1.mono (by (try simp) <;> omega))⟩
  have hz1_0 : w.heap.size < w1.heap.size := by have := hb1.size; (try simp at this); omega
  obtain ⟨hc, hf⟩ := bcell hb1
  have c1_0_0 : w1.cell? ⟨w.heap.size, 0, none⟩ = some (.int .i64 bw) := (hc _ _ (by (try simp) <;> omega)).trans (by go_simp)
  have c1_0_1 : w1.cell? ⟨w.heap.size, 1, none⟩ = some (.int .i64 bs) := (hc _ _ (by (try simp) <;> omega)).trans (by go_simp)
  have c1_0_2 : w1.cell? ⟨w.heap.size, 2, none⟩ = some (.int .i64 ba) := (hc _ _ (by (try simp) <;> omega)).trans (by go_simp)
  have c1_0_3 : w1.cell? ⟨w.heap.size, 3, none⟩ = some (.int .i64 sw) := (hc _ _ (by (try simp) <;> omega)).trans (by go_simp)
  have c1_0_4 : w1.cell? ⟨w.heap.size, 4, none⟩ = some (.int .i64 ss) := (hc _ _ (by (try simp) <;> omega)).trans (by go_simp)
  have c1_0_5 : w1.cell? ⟨w.heap.size, 5, none⟩ = some (.int .i64 sa) := (hc _ _ (by (try simp) <;> omega)).trans (by go_simp)
  have c1_0_6 : w1.cell? ⟨w.heap.size, 6, none⟩ = some (.int .i64 so) := (hc _ _ (by (try simp) <;> omega)).trans (by go_simp)
  have c1_0_7 : w1.cell? ⟨w.heap.size, 7, none⟩ = some (.int .i64 gw) := (hc _ _ (by (try simp) <;> omega)).trans (by go_simp)
  have c1_0_8 : w1.cell? ⟨w.heap.size, 8, none⟩ = some (.int .i64 gs) := (hc _ _ (by (try simp) <;> omega)).trans (by go_simp)
  have c1_0_9 : w1.cell? ⟨w.heap.size, 9, none⟩ = some (.int .i64 ga) := (hc _ _ (by (try simp) <;> omega)).trans (by go_simp)
  have z1_0 : ∀ j, w1.frozen? ⟨w.heap.size, j, none⟩ = false := fun j => (hf _ _ (by (try simp) <;> omega)).trans (by go_simp)
  clear hc hf hb1
  have HI : Kp (VatAt w1 w.heap.size ⟨⟨bw, bs, ba⟩, ⟨sw, ss, sa, so⟩, ⟨gw, gs, ga⟩⟩) := ⟨⟨c1_0_0, c1_0_1, c1_0_2, c1_0_3, c1_0_4, c1_0_5, c1_0_6, c1_0_7, c1_0_8, c1_0_9, z1_0⟩⟩
  clear c1_0_0 c1_0_1 c1_0_2 c1_0_3 c1_0_4 c1_0_5 c1_0_6 c1_0_7 c1_0_8 c1_0_9 z1_0 hz1_0
  go_wp2_with fail
  refine (rgrain_yes _ _ HA.out).mono ?_
  rintro e w2 ⟨rfl, rfl⟩
  go_wp2_with fail
  refine (rwithin_yes _ _ _ _ HM.out.1 HM.out.2).mono ?_
  rintro e w2 ⟨rfl, rfl⟩
  go_wp2
  obtain ⟨Z, hZ⟩ : ∃ Z, w.heap.size = Z := ⟨_, rfl⟩
  rw [hZ] at HI ⊢
  have HZ : Kp (w.heap.size = Z) := ⟨hZ⟩
  clear hZ
  go_loopw [10] (fun i wr => ∃ k : Nat, k ≤ m + 1 ∧ i = .int .i64 k ∧ VatAt wr Z (hoursN k ⟨⟨bw, bs, ba⟩, ⟨sw, ss, sa, so⟩, ⟨gw, gs, ga⟩⟩) ∧ Kp (∀ j, j < k → (fun x => decide (x ≤ acid)) (hoursN j ⟨⟨bw, bs, ba⟩, ⟨sw, ss, sa, so⟩, ⟨gw, gs, ga⟩⟩).s.a = false) ∧ Kp (Below w.heap.size w wr)) (fun i _ => m + 1 - (intOf i).toNat)
  case atStart => exact ⟨0, by omega, rfl, HI.out, ⟨fun j h => by omega⟩, HB1⟩
  case round =>
    obtain ⟨k, hk, rfl, hN, HP, HB⟩ := hrel
    by_cases hlt : k < m + 1
    · have HH : Kp (hoursN (k + 1) ⟨⟨bw, bs, ba⟩, ⟨sw, ss, sa, so⟩, ⟨gw, gs, ga⟩⟩ = hour (hoursN k ⟨⟨bw, bs, ba⟩, ⟨sw, ss, sa, so⟩, ⟨gw, gs, ga⟩⟩)) := ⟨hoursN_succ k _⟩
      have HW : Kp (vatB (hoursN k ⟨⟨bw, bs, ba⟩, ⟨sw, ss, sa, so⟩, ⟨gw, gs, ga⟩⟩) = true) := ⟨hoursN_valid k HV.out⟩
      have HX := Lib.hid (fun ht : (fun x => decide (x ≤ acid)) (hoursN k ⟨⟨bw, bs, ba⟩, ⟨sw, ss, sa, so⟩, ⟨gw, gs, ga⟩⟩).s.a = true => fir_some (acid := acid) (m := m) HV.out HR.out (rfirst_some (t := fun x => decide (x ≤ acid)) (k := k) hlt HP.out ht))
      have HPN := Lib.hid (fun ht : (fun x => decide (x ≤ acid)) (hoursN k ⟨⟨bw, bs, ba⟩, ⟨sw, ss, sa, so⟩, ⟨gw, gs, ga⟩⟩).s.a = false => show ∀ j, j < k + 1 → (fun x => decide (x ≤ acid)) (hoursN j ⟨⟨bw, bs, ba⟩, ⟨sw, ss, sa, so⟩, ⟨gw, gs, ga⟩⟩).s.a = false from fun j hj => by
        by_cases e : j = k
        · subst e; exact ht
        · exact HP.out j (by omega))
      obtain ⟨u, hu⟩ : ∃ u, hoursN k ⟨⟨bw, bs, ba⟩, ⟨sw, ss, sa, so⟩, ⟨gw, gs, ga⟩⟩ = u := ⟨_, rfl⟩
      rw [hu] at hN HH HW HX HPN
      clear hu HP
      obtain ⟨⟨x0, x1, x2⟩, ⟨x3, x4, x5, x6⟩, ⟨x7, x8, x9⟩⟩ := u
      have HN : Kp (VatAt wr Z ⟨⟨x0, x1, x2⟩, ⟨x3, x4, x5, x6⟩, ⟨x7, x8, x9⟩⟩) := ⟨hN⟩
      have hlz := hN.lt
      obtain ⟨a0, a1, a2, a3, a4, a5, a6, a7, a8, a9, az⟩ := hN
      simp only at a0 a1 a2 a3 a4 a5 a6 a7 a8 a9
      have o1 : (k : Int) ≤ (m : Int) := by omega
      have o2 : decide (k ≤ m) = true := decide_eq_true (by omega)
      by_cases ht : x5 ≤ acid
      · have HXX := Lib.hid (HX.out (decide_eq_true ht))
        go_wp2
        go_ret2
        exact firPost_of HXX.out rfl HB.out
      · have HPP := Lib.hid (HPN.out (decide_eq_false ht))
        go_wp2_with fail
        refine (rHour_yes _ _ _ _ _ _ _ _ _ _ _ HW.out).mono ?_
        obtain ⟨D, hD⟩ : ∃ D, ovr x6 (bal x0 x3 x1 x4 - x4) = D := ⟨_, rfl⟩
        obtain ⟨E, hE⟩ : ∃ E, ovr x6 (bal x0 x3 x2 x5 - x5) = E := ⟨_, rfl⟩
        have HU : Kp (hour ⟨⟨x0, x1, x2⟩, ⟨x3, x4, x5, x6⟩, ⟨x7, x8, x9⟩⟩ = ⟨⟨x0, x1 - D, x2 - E⟩, ⟨x3, x4 + D, x5 + E, x6⟩, ⟨x7, x8, x9⟩⟩) := ⟨by unfold hour; simp only [hD, hE]⟩
        rw [hD, hE]
        clear hD hE
        rintro e w4 ⟨rfl, hb4⟩
        have HN4 : Kp (VatAt w4 Z ⟨⟨x0, x1, x2⟩, ⟨x3, x4, x5, x6⟩, ⟨x7, x8, x9⟩⟩) := ⟨HN.out.same (hb4.block Z hlz)⟩
        have HB4 : Kp (Below w.heap.size w w4) := ⟨HB.out.trans (hb4.mono HB.out.size)⟩
        have HN5 : Kp (VatAt (setVat w4 Z ⟨⟨x0, x1 - D, x2 - E⟩, ⟨x3, x4 + D, x5 + E, x6⟩, ⟨x7, x8, x9⟩⟩) Z ⟨⟨x0, x1 - D, x2 - E⟩, ⟨x3, x4 + D, x5 + E, x6⟩, ⟨x7, x8, x9⟩⟩) := ⟨setVat_at HN4.out⟩
        have HB5 : Kp (Below w.heap.size w (setVat w4 Z ⟨⟨x0, x1 - D, x2 - E⟩, ⟨x3, x4 + D, x5 + E, x6⟩, ⟨x7, x8, x9⟩⟩)) := ⟨by
          have g := setVat_grown w4 Z ⟨⟨x0, x1 - D, x2 - E⟩, ⟨x3, x4 + D, x5 + E, x6⟩, ⟨x7, x8, x9⟩⟩
          exact HB4.out.grown g HB4.out.size (fun j e => by simp only [Option.some.injEq] at e; have := HZ.out; omega)⟩
        have hl4 : Z < w4.heap.size := HN4.out.lt
        clear hb4 a0 a1 a2 a3 a4 a5 a6 a7 a8 a9 az HN HB
        obtain ⟨a0, a1, a2, a3, a4, a5, a6, a7, a8, a9, az⟩ := HN4.out
        simp only at a0 a1 a2 a3 a4 a5 a6 a7 a8 a9
        unfold setVat at HN5 HB5
        by_cases hkm : k < m
        · have o3 : (k : Int) < (m : Int) := by omega
          have o4 : decide (k < m) = true := decide_eq_true hkm
          go_wp2
          go_roundw
          case rel => exact ⟨k + 1, by omega, by go_num, by rw [HH.out, HU.out]; exact (vatAt_alloc HN5.out _), ⟨HPP.out⟩, ⟨HB5.out.alloc HB5.out.size _⟩⟩
          case measure => simp [intOf]; omega
        · have o3 : ¬ (k : Int) < (m : Int) := by omega
          have o4 : decide (k < m) = false := decide_eq_false hkm
          go_wp2
          go_roundw
          case rel => exact ⟨k + 1, by omega, by go_num, by rw [HH.out, HU.out]; exact (vatAt_alloc HN5.out _), ⟨HPP.out⟩, ⟨HB5.out.alloc HB5.out.size _⟩⟩
          case measure => simp [intOf]; omega
    · have hkm : k = m + 1 := by omega
      subst hkm
      have HE := Lib.hid (fir_none (acid := acid) (m := m) HV.out HR.out (rfirst_none (t := fun x => decide (x ≤ acid)) HP.out))
      have o1 : ¬ ((m + 1 : Nat) : Int) ≤ (m : Int) := by omega
      clear hN
      go_wp2
      go_ret2
      exact firPost_of HE.out rfl HB.out
theorem rwaits_false_any (bw bs ba sw ss sa so gw gs ga acid most : Int) (w : World) : Calls Try.prog 71 #[.agg #[.int .i64 bw, .int .i64 bs, .int .i64 ba, .int .i64 sw, .int .i64 ss, .int .i64 sa, .int .i64 so, .int .i64 gw, .int .i64 gs, .int .i64 ga], .int .i64 acid, .int .i64 most, .bool false] w (FirPost (fun x => decide (x ≤ acid)) ⟨⟨bw, bs, ba⟩, ⟨sw, ss, sa, so⟩, ⟨gw, gs, ga⟩⟩ acid most w) := by
  cases hv : vatB ⟨⟨bw, bs, ba⟩, ⟨sw, ss, sa, so⟩, ⟨gw, gs, ga⟩⟩ with
  | false => exact rwaits_false_inv bw bs ba sw ss sa so gw gs ga acid most w hv
  | true =>
    cases ha : rngB 1000000000 acid with
    | false => exact rwaits_false_rng1 bw bs ba sw ss sa so gw gs ga acid most w hv ha
    | true =>
      cases hm : rngB 10000 most with
      | false => exact rwaits_false_rng2 bw bs ba sw ss sa so gw gs ga acid most w hv ha hm
      | true =>
        obtain ⟨m0, m1⟩ := rng_iff.1 hm
        obtain ⟨m, rfl⟩ := Int.eq_ofNat_of_zero_le m0
        exact rwaits_false_in bw bs ba sw ss sa so gw gs ga acid m w hv ha (by omega)
theorem rUntil_any (bw bs ba sw ss sa so gw gs ga acid most : Int) (w : World) : Calls Try.prog 41 #[.agg #[.int .i64 bw, .int .i64 bs, .int .i64 ba, .int .i64 sw, .int .i64 ss, .int .i64 sa, .int .i64 so, .int .i64 gw, .int .i64 gs, .int .i64 ga], .int .i64 acid, .int .i64 most] w (FirPost (fun x => decide (acid ≤ x)) ⟨⟨bw, bs, ba⟩, ⟨sw, ss, sa, so⟩, ⟨gw, gs, ga⟩⟩ acid most w) := by
  have HQ : Kp (∀ W : World, Calls Try.prog 71 #[.agg #[.int .i64 bw, .int .i64 bs, .int .i64 ba, .int .i64 sw, .int .i64 ss, .int .i64 sa, .int .i64 so, .int .i64 gw, .int .i64 gs, .int .i64 ga], .int .i64 acid, .int .i64 most, .bool true] W (FirPost (fun x => decide (acid ≤ x)) ⟨⟨bw, bs, ba⟩, ⟨sw, ss, sa, so⟩, ⟨gw, gs, ga⟩⟩ acid most W)) := ⟨fun W => rwaits_true_any bw bs ba sw ss sa so gw gs ga acid most W⟩
  go_enter Try.func41, Try.ntmps41
  go_wp2_with fail
  refine (HQ.out _).mono ?_
  rintro e w1 ⟨rfl, hb1⟩
  have HB1 : Kp (Below w.heap.size w w1) := ⟨Below.trans (by repeat (first | exact Below.refl _ _ | refine Below.alloc ?_ (by simp <;> omega) _ | refine bDrewN ?_ _ | refine Below.drew ?_)) (hb1.mono (by simp <;> omega))⟩
  clear hb1
  go_wp2
  go_ret2
  exact ⟨rfl, HB1.out⟩
theorem rBelow_any (bw bs ba sw ss sa so gw gs ga acid most : Int) (w : World) : Calls Try.prog 43 #[.agg #[.int .i64 bw, .int .i64 bs, .int .i64 ba, .int .i64 sw, .int .i64 ss, .int .i64 sa, .int .i64 so, .int .i64 gw, .int .i64 gs, .int .i64 ga], .int .i64 acid, .int .i64 most] w (FirPost (fun x => decide (x ≤ acid)) ⟨⟨bw, bs, ba⟩, ⟨sw, ss, sa, so⟩, ⟨gw, gs, ga⟩⟩ acid most w) := by
  have HQ : Kp (∀ W : World, Calls Try.prog 71 #[.agg #[.int .i64 bw, .int .i64 bs, .int .i64 ba, .int .i64 sw, .int .i64 ss, .int .i64 sa, .int .i64 so, .int .i64 gw, .int .i64 gs, .int .i64 ga], .int .i64 acid, .int .i64 most, .bool false] W (FirPost (fun x => decide (x ≤ acid)) ⟨⟨bw, bs, ba⟩, ⟨sw, ss, sa, so⟩, ⟨gw, gs, ga⟩⟩ acid most W)) := ⟨fun W => rwaits_false_any bw bs ba sw ss sa so gw gs ga acid most W⟩
  go_enter Try.func43, Try.ntmps43
  go_wp2_with fail
  refine (HQ.out _).mono ?_
  rintro e w1 ⟨rfl, hb1⟩
  have HB1 : Kp (Below w.heap.size w w1) := ⟨Below.trans (by repeat (first | exact Below.refl _ _ | refine Below.alloc ?_ (by simp <;> omega) _ | refine bDrewN ?_ _ | refine Below.drew ?_)) (hb1.mono (by simp <;> omega))⟩
  clear hb1
  go_wp2
  go_ret2
  exact ⟨rfl, HB1.out⟩
end Go.Proofs.Ytakldbpfdoeimaa.Bt
