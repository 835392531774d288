/-
  WALKS (layer 8, pest): numbers that ascend.
-/
import Derived.Test.YthkamfjjfkpekaaPeValid
namespace Go.Proofs.Ythkamfjjfkpekaa.Pe
open Go Go.RowKit Go.Sort

/-- The first numbers ascend. -/
def ascF (l : List Int) : Nat → Bool
  | 0 => true
  | k + 1 => ascF l k && (k == 0 || decide (l.getD (k - 1) 0 < l.getD k 0))
theorem ascF_no {l : List Int} {k n : Nat} (h : ascF l k = false) (hk : k ≤ n) : ascF l n = false := by
  induction n with
  | zero => rwa [show k = 0 by omega] at h
  | succ n ih =>
    by_cases e : k = n + 1
    · rwa [e] at h
    · unfold ascF
      rw [ih (by omega)]
      rfl
set_option maxRecDepth 100000 in
set_option maxHeartbeats 2000000 in
theorem isAscending_any (v : Value) (l : List Int) (w : World) (hv : IS w v l) (hl : l.length ≤ 9223372036854775807) : Calls Try.prog 50 #[v] w fun e w' => e = .returned (.bool (ascF l l.length)) ∧ Below w.heap.size w w' := by
  obtain ⟨g, c, rfl, -, hi2⟩ := hv
  have HS := Kp.mk hi2
  obtain ⟨N, hN⟩ : ∃ N, l.length = N := ⟨_, rfl⟩
  have HN := Kp.mk hN
  have HNL : Kp (N ≤ 9223372036854775807) := ⟨hN ▸ hl⟩
  rw [hN]
  clear hi2 hN hl
  go_enter Try.func50, Try.ntmps50
  go_wp2
  go_loopw [6] (fun i wr => ∃ k : Nat, k ≤ N ∧ i = .int .i64 (k : Nat) ∧ Kp (Below w.heap.size w wr ∧ ascF l k = true)) (fun i _ => N - (intOf i).toNat)
  case atStart => exact ⟨0, Nat.zero_le _, rfl, ⟨Below.refl _ _, rfl⟩⟩
  case round =>
    obtain ⟨k, hk, rfl, HK⟩ := hrel
    by_cases hlt : k < N
    · obtain ⟨x, hx⟩ : ∃ x, l[k]? = some x := ⟨_, List.getElem?_eq_getElem (by rw [HN.out]; exact hlt)⟩
      obtain ⟨b, o, hg, hc⟩ := HS.out k x hx
      subst hg
      have hxd : l.getD k 0 = x := by rw [List.getD_eq_getElem?_getD, hx]; rfl
      have o1 : (k : Int) < (N : Int) := by omega
      have o4 : IntKind.i64.wrap ((k : Int) + 1) = (k : Int) + 1 := IntWalk.i64_in _ (by have := HNL.out; omega)
      by_cases h0 : k = 0
      · subst h0
        have HA : Kp (ascF l 1 = true) := ⟨rfl⟩
        clear hx hc hxd
        go_wp2_with fail
        refine wp_region_quiet_below (by kernel_rfl) (by kernel_rfl) ?_
        repeat (any_goals (first | go_big_quiet_step (fail) | quiet_step (fail)))
        refine wpQuiet_nil ?_
        intro _ hqw
        obtain ⟨⟨dq, osq⟩, hqv⟩ := hqw
        subst hqv
        obtain ⟨wq, hqwq⟩ : ∃ wq, grow (redrawn (wr) dq) osq = wq := ⟨_, rfl⟩
        have hbwq : Below (wr).heap.size (wr) wq := by rw [← hqwq]; exact below_regrown _ dq osq
        rw [hqwq]
        clear hqwq
        have HBQ := Kp.mk (HK.out.1.trans (hbwq.mono HK.out.1.size))
        clear hbwq
        go_wp2
        go_roundw
        case rel => exact ⟨1, by omega, by go_num, ⟨HBQ.out, HA.out⟩⟩
        case measure => simp [intOf]; omega
      · obtain ⟨m, hm⟩ : ∃ m, k = m + 1 := ⟨k - 1, by omega⟩
        obtain ⟨y, hy⟩ : ∃ y, l[m]? = some y := ⟨_, List.getElem?_eq_getElem (by rw [HN.out]; omega)⟩
        have hyd : l.getD m 0 = y := by rw [List.getD_eq_getElem?_getD, hy]; rfl
        obtain ⟨b2, o2, hg, hc2⟩ := HS.out m y hy
        simp only [Option.some.injEq, Addr.mk.injEq, and_true] at hg
        obtain ⟨rfl, rfl⟩ := hg
        have cx := (HK.out.1.cell (p := ⟨b, o + k, none⟩) (World.block_lt_of_cell? _ _ hc)).trans hc
        have cy := (HK.out.1.cell (p := ⟨b, o + m, none⟩) (World.block_lt_of_cell? _ _ hc2)).trans hc2
        have HST : Kp (ascF l (k + 1) = decide (y < x)) := ⟨by
          show (ascF l k && (k == 0 || decide (l.getD (k - 1) 0 < l.getD k 0))) = _
          rw [HK.out.2, hxd, show k - 1 = m by omega, hyd, show (k == 0) = false by simp [h0]]
          rfl⟩
        have e1 : IntKind.i64.wrap ((k : Int) - 1) = (m : Int) := (IntWalk.i64_in _ (by have := HNL.out; omega)).trans (by omega)
        have o5 : decide (0 < k) = true := decide_eq_true (by omega)
        have o6 : (m : Int) < (N : Int) := by omega
        have rg_cx := fun d os => cell_regrown cx d os
        have rg_cy := fun d os => cell_regrown cy d os
        clear hx hc hxd hm hy hyd hc2 h0 cx cy
        by_cases hxy : y < x
        · have o7 : decide (x ≤ y) = false := decide_eq_false (by omega)
          have HA : Kp (ascF l (k + 1) = true) := ⟨by rw [HST.out, decide_eq_true hxy]⟩
          clear hxy HST
          go_wp2_with fail
          refine wp_region_quiet_below (by kernel_rfl) (by kernel_rfl) ?_
          repeat (any_goals (first | go_big_quiet_step (fail) | quiet_step (fail)))
          refine wpQuiet_nil ?_
          intro _ hqw
          obtain ⟨⟨dq, osq⟩, hqv⟩ := hqw
          subst hqv
          obtain ⟨wq, hqwq⟩ : ∃ wq, grow (redrawn (wr) dq) osq = wq := ⟨_, rfl⟩
          have hbwq : Below (wr).heap.size (wr) wq := by rw [← hqwq]; exact below_regrown _ dq osq
          rw [hqwq]
          clear hqwq
          have HBQ := Kp.mk (HK.out.1.trans (hbwq.mono HK.out.1.size))
          clear hbwq
          go_wp2
          go_roundw
          case rel => exact ⟨k + 1, by omega, by go_num, ⟨HBQ.out, HA.out⟩⟩
          case measure => simp [intOf]; omega
        · have o7 : decide (x ≤ y) = true := decide_eq_true (by omega)
          have HA : Kp (ascF l N = false) := ⟨ascF_no (k := k + 1) (by rw [HST.out, decide_eq_false hxy]) (by omega)⟩
          clear hxy HST
          go_wp2_with fail
          refine wp_region_quiet_below (by kernel_rfl) (by kernel_rfl) ?_
          repeat (any_goals (first | go_big_quiet_step (fail) | quiet_step (fail)))
          refine wpQuiet_nil ?_
          intro _ hqw
          obtain ⟨⟨dq, osq⟩, hqv⟩ := hqw
          subst hqv
          obtain ⟨wq, hqwq⟩ : ∃ wq, grow (redrawn (wr) dq) osq = wq := ⟨_, rfl⟩
          have hbwq : Below (wr).heap.size (wr) wq := by rw [← hqwq]; exact below_regrown _ dq osq
          rw [hqwq]
          clear hqwq
          have HBQ := Kp.mk (HK.out.1.trans (hbwq.mono HK.out.1.size))
          clear hbwq
          go_wp2
          go_ret
          exact ⟨by rw [HA.out]; rfl, HBQ.out⟩
    · have hkn : k = N := by omega
      subst hkn
      have o1 : ¬ (k : Int) < (k : Int) := by omega
      go_wp2
      go_ret
      exact ⟨by rw [HK.out.2]; rfl, HK.out.1⟩
end Go.Proofs.Ythkamfjjfkpekaa.Pe
