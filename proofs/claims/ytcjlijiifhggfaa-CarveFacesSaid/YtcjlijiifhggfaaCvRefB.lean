/-
  WALKS (layer 5, carve): two blocks are the same, by the reference.
-/
import Derived.Test.YtcjlijiifhggfaaCvRefA
namespace Go.Proofs.Ytcjlijiifhggfaa.Cv
open Go Go.RowKit Go.Sort

theorem two_start {w W1 : World} {s v t u : Value} (h : (w.alloc (.cells #[s, v] 24)).alloc (.cells #[t, u] 24) = W1) :
    Below w.heap.size w W1 ∧ W1.cell? ⟨w.heap.size, 0, none⟩ = some s ∧ W1.cell? ⟨w.heap.size, 1, none⟩ = some v ∧ W1.cell? ⟨w.heap.size + 1, 0, none⟩ = some t ∧ W1.cell? ⟨w.heap.size + 1, 1, none⟩ = some u := by
  subst h
  exact ⟨by repeat (first | exact Below.refl _ _ | refine Below.alloc ?_ (by simp <;> omega) _ | refine bDrewN ?_ _ | refine Below.drew ?_), by go_simp, by go_simp, by go_simp, by go_simp⟩
set_option maxHeartbeats 1000000 in
theorem rsame_yes (n : Int) (v u : Value) (h : List Bool) (w : World) (hm : h.length ≤ 4611686018427387904) (hv : LB w v h) (hu : LB w u h) :
    Calls Try.prog 14 #[.agg #[.int .i64 n, v], .agg #[.int .i64 n, u]] w fun e w' => e = .returned (.bool true) ∧ Below w.heap.size w w' := by
  obtain ⟨g, c, rfl, -, hi⟩ := hv
  obtain ⟨g2, c2, rfl, -, hi2⟩ := hu
  have HS := Kp.mk hi
  have HS2 := Kp.mk hi2
  clear hi hi2
  have t1 : (n != n) = false := by simp
  have t2 : ((h.length : Int) != (h.length : Int)) = false := by simp
  go_enter Try.func14, Try.ntmps14
  go_wp2
  obtain ⟨W1, hW1⟩ : ∃ W1, (w.alloc (.cells #[.int .i64 n, .slice g h.length c] 24)).alloc (.cells #[.int .i64 n, .slice g2 h.length c2] 24) = W1 := ⟨_, rfl⟩
  rw [hW1]
  obtain ⟨hb1, -, e1, -, e3⟩ := two_start hW1
  have q1 := World.block_lt_of_cell? _ _ e1
  have q3 := World.block_lt_of_cell? _ _ e3
  have HB1 := Kp.mk hb1
  have E1 := Kp.mk (And.intro q1 e1)
  have E3 := Kp.mk (And.intro q3 e3)
  have HB0 : Kp (Below W1.heap.size W1 W1) := ⟨Below.refl _ _⟩
  clear hW1 hb1 e1 e3 t1 t2 q1 q3
  go_loopw [23] (fun i wr => ∃ k : Nat, k ≤ h.length ∧ i = .int .i64 k ∧ Kp (Below W1.heap.size W1 wr)) (fun i _ => h.length - (intOf i).toNat)
  case atStart => exact ⟨0, Nat.zero_le _, rfl, HB0⟩
  case round =>
    clear HB0
    obtain ⟨k, hk, rfl, HB⟩ := hrel
    by_cases hlt : k < h.length
    · obtain ⟨x, hx⟩ : ∃ x, h[k]? = some x := ⟨_, List.getElem?_eq_getElem hlt⟩
      obtain ⟨b, o, hg, hbl, hc1⟩ := HS.out k x hx
      obtain ⟨b2, o2, hg2, hbl2, hd1⟩ := HS2.out k x hx
      subst hg hg2
      have hz := HB1.out.size
      have c1 : wr.cell? ⟨b, o + k, none⟩ = some (.bool x) := (HB.out.cell (p := ⟨b, _, none⟩) (Nat.lt_of_lt_of_le hbl hz)).trans ((HB1.out.cell (p := ⟨b, _, none⟩) hbl).trans hc1)
      have d1 : wr.cell? ⟨b2, o2 + k, none⟩ = some (.bool x) := (HB.out.cell (p := ⟨b2, _, none⟩) (Nat.lt_of_lt_of_le hbl2 hz)).trans ((HB1.out.cell (p := ⟨b2, _, none⟩) hbl2).trans hd1)
      have p1 := (HB.out.cell (p := ⟨_, 1, none⟩) E1.out.1).trans E1.out.2
      have p3 := (HB.out.cell (p := ⟨_, 1, none⟩) E3.out.1).trans E3.out.2
      have o1 : (k : Int) < (h.length : Int) := by omega
      have t1 : (x != x) = false := by simp
      have r1 := fun d os => cell_regrown c1 d os
      have r2 := fun d os => cell_regrown d1 d os
      have r3 := fun d os => cell_regrown p1 d os
      have r4 := fun d os => cell_regrown p3 d os
      have HBR : Kp (∀ dq osq, Below W1.heap.size W1 (grow (redrawn wr dq) osq)) := ⟨fun d os => HB.out.trans ((below_regrown wr d os).mono HB.out.size)⟩
      clear c1 d1 p1 p3 hc1 hd1 hx hz hbl hbl2
      go_wp2
      refine wp_region_quiet_below (by kernel_rfl) (by kernel_rfl) ?_
      repeat (any_goals (first | go_big_quiet_step (fail) | quiet_step (fail)))
      refine wpQuiet_nil ?_
      intro _ hqw
      obtain ⟨⟨dq, osq⟩, hqv⟩ := hqw
      subst hqv
      have HB2 := Kp.mk (HBR.out dq osq)
      clear r1 r2 r3 r4 HBR
      go_wp2
      go_roundw
      case rel => exact ⟨k + 1, by omega, by go_num, HB2⟩
      case measure => simp [intOf]; omega
    · have hkn : k = h.length := by omega
      go_wp2
      go_ret
      exact ⟨rfl, HB1.out.trans (HB.out.mono HB1.out.size)⟩
end Go.Proofs.Ytcjlijiifhggfaa.Cv
