/-
  WALKS (layer 7, scene): valid grounds, eyes and points, by the reference.
-/
import Derived.Test.YtjnggchljilooaaScSeen
import Derived.Test.YtjnggchljilooaaScRatio
namespace Go.Proofs.Ytjnggchljilooaa.Sc
open Go Go.RowKit Go.Sort

theorem rin_any (n lo hi : Int) (w : World) : Calls Try.prog 53 #[.int .i64 n, .int .i64 lo, .int .i64 hi] w fun e w' => e = .returned (.bool (inB lo hi n)) ∧ w = w' := by
  by_cases h1 : lo ≤ n
  · by_cases h2 : n ≤ hi
    · have HV : Kp (inB lo hi n = true) := ⟨inB_iff.2 ⟨h1, h2⟩⟩
      rw [HV.out]
      go_enter Try.func53, Try.ntmps53
      go_wp2
      go_ret
      exact ⟨rfl, rfl⟩
    · have HV : Kp (inB lo hi n = false) := ⟨by unfold inB; rw [decide_eq_false h2, Bool.and_false]⟩
      rw [HV.out]
      go_enter Try.func53, Try.ntmps53
      go_wp2
      go_ret
      exact ⟨rfl, rfl⟩
  · have HV : Kp (inB lo hi n = false) := ⟨by unfold inB; rw [decide_eq_false h1, Bool.false_and]⟩
    rw [HV.out]
    go_enter Try.func53, Try.ntmps53
    go_wp2
    go_ret
    exact ⟨rfl, rfl⟩
theorem allIn_two_eq (wd dp : Int) : allIn 1 24 [wd, dp] = (inB 1 24 wd && inB 1 24 dp) := by simp [allIn, inB]
theorem gdB_bad {wd dp : Int} {L : List Int} (h : allIn 0 1000 L = false) : gdB wd dp L = false := by unfold gdB; rw [h]; simp
theorem gdB_ref {wd dp : Int} {L : List Int} (h : allIn 0 1000 L = true) : gdB wd dp L = ((inB 1 24 wd && inB 1 24 dp) && decide ((L.length : Int) = wd * dp)) := by unfold gdB; rw [h, allIn_two_eq, Bool.and_true]
set_option maxHeartbeats 1000000 in
theorem rValid_any (wd dp : Int) (v : Value) (L : List Int) (w : World) (hv : IS w v L) (hl : L.length ≤ 9223372036854775807) : Calls Try.prog 17 #[.agg #[.int .i64 wd, .int .i64 dp, v]] w fun e w' => e = .returned (.bool (gdB wd dp L)) ∧ Below w.heap.size w w' := by
  have HI : Kp (∀ W n lo hi, Calls Try.prog 53 #[.int .i64 n, .int .i64 lo, .int .i64 hi] W fun e w' => e = .returned (.bool (inB lo hi n)) ∧ W = w') := ⟨fun W n lo hi => rin_any n lo hi W⟩
  have HV := Kp.mk hv
  obtain ⟨g, c, rfl⟩ := hv.shape
  obtain ⟨N, hN⟩ : ∃ N, L.length = N := ⟨_, rfl⟩
  have HN := Kp.mk hN
  have HNL : Kp (N ≤ 9223372036854775807) := ⟨hN ▸ hl⟩
  have HGB : Kp (allIn 0 1000 L = false → gdB wd dp L = false) := ⟨gdB_bad⟩
  have HGR : Kp (allIn 0 1000 L = true → gdB wd dp L = ((inB 1 24 wd && inB 1 24 dp) && decide ((N : Int) = wd * dp))) := ⟨fun h => by rw [gdB_ref h, hN]⟩
  obtain ⟨GB, hGB⟩ : ∃ b, gdB wd dp L = b := ⟨_, rfl⟩
  rw [hGB] at HGB HGR
  rw [hN] at HV
  rw [hGB, hN]
  clear hv hN hl hGB
  go_enter Try.func17, Try.ntmps17
  go_wp2
  obtain ⟨W1, hW1⟩ : ∃ W, w.alloc (.cells #[.int .i64 wd, .int .i64 dp, .slice g N c] 24) = W := ⟨_, rfl⟩
  have hb1 : Below w.heap.size w W1 ∧ W1.cell? ⟨w.heap.size, 0, none⟩ = some (.int .i64 wd) ∧ W1.cell? ⟨w.heap.size, 1, none⟩ = some (.int .i64 dp) ∧ W1.cell? ⟨w.heap.size, 2, none⟩ = some (.slice g N c) := by
    subst hW1
    exact ⟨by repeat (first | exact Below.refl _ _ | refine Below.alloc ?_ (by simp <;> omega) _ | refine bDrewN ?_ _ | refine Below.drew ?_), by go_simp, by go_simp, by go_simp⟩
  have HB1 := Kp.mk hb1
  have HV1 : Kp (IS W1 (.slice g N c) L) := ⟨HV.out.below hb1.1⟩
  rw [hW1]
  clear hW1 hb1
  go_loopw [8] (fun i wr => ∃ k : Nat, k ≤ N ∧ i = .int .i64 k ∧ W1 = wr ∧ Kp (allIn 0 1000 (L.take k) = true)) (fun i _ => N - (intOf i).toNat)
  case atStart => exact ⟨0, Nat.zero_le _, rfl, rfl, ⟨rfl⟩⟩
  case round =>
    obtain ⟨k, hk, rfl, rfl, HA⟩ := hrel
    by_cases hlt : k < N
    · obtain ⟨x, hx⟩ : ∃ x, L[k]? = some x := ⟨_, List.getElem?_eq_getElem (by rw [HN.out]; exact hlt)⟩
      obtain ⟨g', c', e', -, hi⟩ := HV1.out
      obtain ⟨b, o, hg, hc⟩ := hi k x hx
      simp only [Value.slice.injEq] at e'
      obtain ⟨rfl, -, -⟩ := e'
      subst hg
      have o1 : (k : Int) < (N : Int) := by omega
      have o4 : IntKind.i64.wrap ((k : Int) + 1) = (k : Int) + 1 := IntWalk.i64_in _ (by have := HNL.out; omega)
      have HX : Kp (allIn 0 1000 (L.take (k + 1)) = inB 0 1000 x ∧ (inB 0 1000 x = false → allIn 0 1000 L = false)) := ⟨by
        rw [allIn_more hx, HA.out, Bool.true_and]; rfl, fun h => by
        unfold allIn
        rw [List.all_eq_false]
        exact ⟨x, List.mem_of_getElem? hx, by unfold inB at h; rw [h]; exact Bool.false_ne_true⟩⟩
      have HIX := Kp.mk (fun W => HI.out W x 0 1000)
      obtain ⟨R, hR⟩ : ∃ R, inB 0 1000 x = R := ⟨_, rfl⟩
      rw [hR] at HX HIX
      clear hx hi hR
      go_wp2_with fail
      refine (HIX.out _).mono ?_
      rintro en w2 ⟨rfl, rfl⟩
      cases R with
      | false =>
        have HF := Kp.mk (HGB.out (HX.out.2 rfl))
        go_wp2
        go_ret
        exact ⟨ret_bool HF.out.symm, HB1.out.1⟩
      | true =>
        have HA2 := Kp.mk HX.out.1
        go_wp2
        go_roundw
        case rel => exact ⟨k + 1, by omega, by go_num, by first | rfl | trivial, HA2⟩
        case measure => simp [intOf]; omega
    · have HAL : Kp (allIn 0 1000 L = true) := ⟨by have := HA.out; rwa [List.take_of_length_le (by have := HN.out; omega)] at this⟩
      have HG := Kp.mk (HGR.out HAL.out)
      have HWD := Kp.mk (fun W => HI.out W wd 1 24)
      have HDP := Kp.mk (fun W => HI.out W dp 1 24)
      have HWR : Kp (inB 1 24 wd = true → inB 1 24 dp = true → IntKind.i64.wrap (wd * dp) = wd * dp) := ⟨fun h1 h2 => by
        have a1 := inB_iff.1 h1
        have a2 := inB_iff.1 h2
        have h3 : wd * dp ≤ 24 * 24 := Int.mul_le_mul a1.2 a2.2 (by omega) (by omega)
        have h4 : 0 ≤ wd * dp := Int.mul_nonneg (by omega) (by omega)
        exact IntWalk.i64_in _ (by omega)⟩
      have o1 : ¬ (k : Int) < (N : Int) := by omega
      obtain ⟨A, hA⟩ : ∃ A, inB 1 24 wd = A := ⟨_, rfl⟩
      obtain ⟨D, hD⟩ : ∃ A, inB 1 24 dp = A := ⟨_, rfl⟩
      rw [hA, hD] at HG HWR
      rw [hA] at HWD
      rw [hD] at HDP
      obtain ⟨b0, b1, b2, b3⟩ := HB1.out
      have HBZ := Kp.mk b0
      clear hA hD hlt b0
      cases A with
      | false =>
        go_wp2_with fail
        refine (HWD.out _).mono ?_
        rintro en w2 ⟨rfl, rfl⟩
        go_wp2
        go_ret
        exact ⟨by rw [HG.out]; rfl, HBZ.out⟩
      | true =>
        cases D with
        | false =>
          go_wp2_with fail
          refine (HWD.out _).mono ?_
          rintro en w2 ⟨rfl, rfl⟩
          go_wp2_with fail
          refine (HDP.out _).mono ?_
          rintro en w2 ⟨rfl, rfl⟩
          go_wp2
          go_ret
          exact ⟨by rw [HG.out]; rfl, HBZ.out⟩
        | true =>
          have e1 := HWR.out rfl rfl
          by_cases hm : (N : Int) = wd * dp
          · have i1 : ((N : Int) == wd * dp) = true := by simp [hm]
            have HM := Kp.mk (decide_eq_true hm)
            clear hm
            go_wp2_with fail
            refine (HWD.out _).mono ?_
            rintro en w2 ⟨rfl, rfl⟩
            go_wp2_with fail
            refine (HDP.out _).mono ?_
            rintro en w2 ⟨rfl, rfl⟩
            go_wp2
            go_ret
            exact ⟨by rw [HG.out, HM.out]; rfl, HBZ.out⟩
          · have i1 : ((N : Int) == wd * dp) = false := by simp [hm]
            have HM := Kp.mk (decide_eq_false hm)
            clear hm
            go_wp2_with fail
            refine (HWD.out _).mono ?_
            rintro en w2 ⟨rfl, rfl⟩
            go_wp2_with fail
            refine (HDP.out _).mono ?_
            rintro en w2 ⟨rfl, rfl⟩
            go_wp2
            go_ret
            exact ⟨by rw [HG.out, HM.out]; rfl, HBZ.out⟩
end Go.Proofs.Ytjnggchljilooaa.Sc
