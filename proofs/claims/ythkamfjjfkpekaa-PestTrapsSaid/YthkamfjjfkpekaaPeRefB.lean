/-
  WALKS (layer 8, pest): the reference: the error of a house and some of its doors; rooms on the next day, and days on.
-/
import Derived.Test.YthkamfjjfkpekaaPeRefA
import Derived.Test.YthkamfjjfkpekaaPeNeverP
import Derived.Test.YthkamfjjfkpekaaPeOpen
namespace Go.Proofs.Ythkamfjjfkpekaa.Pe
open Go Go.RowKit Go.Proofs Go.Sort

set_option maxRecDepth 100000 in
set_option maxHeartbeats 2000000 in
theorem rdoors_any (R x y : Int) (v u : Value) (ds : List Dr) (sl : List Int) (w : World) (hv : DS w v ds) (hl : ds.length ≤ 9223372036854775807) (hu : IS w u sl) (hsl : sl.length ≤ 9223372036854775806) :
    Calls Try.prog 54 #[.agg #[.int .i64 R, v, .int .i64 x, .int .i64 y], u] w fun e w' => e = .returned (.int .i64 (askE R ds x y sl)) ∧ Below w.heap.size w w' := by
  have HVA : Kp (∀ W, Below w.heap.size w W → Calls Try.prog 20 #[.agg #[.int .i64 R, v, .int .i64 x, .int .i64 y]] W fun e w' => e = .returned (.bool (valB R ds x y)) ∧ Below W.heap.size W w') := ⟨fun W hW => rValid_any R x y v ds W (hv.below hW) hl⟩
  obtain ⟨g, c, rfl⟩ := hv.shape
  obtain ⟨gu, cu, rfl, -, hi⟩ := hu
  have HIS := Kp.mk hi
  obtain ⟨M, hM⟩ : ∃ M, ds.length = M := ⟨_, rfl⟩
  obtain ⟨N, hN⟩ : ∃ N, sl.length = N := ⟨_, rfl⟩
  have HN := Kp.mk hN
  have HAE : Kp (askE R ds x y sl = chkE (valB R ds x y) (allIn 0 ((M : Int) - 1) sl) (ascF sl N)) := ⟨by unfold askE; rw [hM, hN]⟩
  have HM40 : Kp (valB R ds x y = true → M ≤ 40) := ⟨fun h => hM ▸ (valB_ok h).len⟩
  obtain ⟨V, hV⟩ : ∃ V, valB R ds x y = V := ⟨_, rfl⟩
  rw [hV, hM] at HVA
  rw [hV] at HAE HM40
  rw [hN] at hsl
  rw [hM, hN]
  clear hv hi hl hM hN hV
  cases V with
  | false =>
    have HE : Kp (askE R ds x y sl = 1) := ⟨by rw [HAE.out]; rfl⟩
    go_enter Try.func54, Try.ntmps54
    go_wp2_with fail
    refine (HVA.out _ (by repeat (first | exact Below.refl _ _ | refine Below.alloc ?_ (by simp <;> omega) _ | refine bDrewN ?_ _ | refine Below.drew ?_))).mono ?_
    rintro en w1 ⟨rfl, hb1⟩
    have HB1 : Kp (Below w.heap.size w w1) := ⟨Below.trans (by repeat (first | exact Below.refl _ _ | refine Below.alloc ?_ (by simp <;> omega) _ | refine bDrewN ?_ _ | refine Below.drew ?_)) (hb1.mono (by simp <;> omega))⟩
    clear hb1
    go_wp2
    go_ret
    exact ⟨by rw [HE.out]; rfl, HB1.out⟩
  | true =>
    have hm := HM40.out rfl
    have e1 : IntKind.i64.wrap ((M : Int) - 1) = (M : Int) - 1 := IntWalk.i64_in _ (by omega)
    clear HM40
    go_enter Try.func54, Try.ntmps54
    go_wp2_with fail
    refine (HVA.out _ (by repeat (first | exact Below.refl _ _ | refine Below.alloc ?_ (by simp <;> omega) _ | refine bDrewN ?_ _ | refine Below.drew ?_))).mono ?_
    rintro en w1 ⟨rfl, hb1⟩
    have HB1 : Kp (Below w.heap.size w w1) := ⟨Below.trans (by repeat (first | refine Below.alloc ?_ (by (try simp) <;> omega) _ | refine bDrewN ?_ _ | refine Below.drew ?_ | refine Below.setCell ?_ (by (try simp) <;> omega) _ | exact Below.refl _ _)) (hb1.mono (by (try simp) <;> omega))⟩
    have hz1_0 : w.heap.size < w1.heap.size := by have := hb1.size; (try simp at this); omega
    obtain ⟨hc, hf⟩ := bcell hb1
    have c1_0_0 : w1.cell? ⟨w.heap.size, 0, none⟩ = some (.int .i64 R) := (hc _ _ (by (try simp) <;> omega)).trans (by go_simp)
    have c1_0_1 : w1.cell? ⟨w.heap.size, 1, none⟩ = some ((.slice g M c)) := (hc _ _ (by (try simp) <;> omega)).trans (by go_simp)
    have c1_0_2 : w1.cell? ⟨w.heap.size, 2, none⟩ = some (.int .i64 x) := (hc _ _ (by (try simp) <;> omega)).trans (by go_simp)
    have c1_0_3 : w1.cell? ⟨w.heap.size, 3, none⟩ = some (.int .i64 y) := (hc _ _ (by (try simp) <;> omega)).trans (by go_simp)
    have z1_0 : ∀ j, w1.frozen? ⟨w.heap.size, j, none⟩ = false := fun j => (hf _ _ (by (try simp) <;> omega)).trans (by go_simp)
    clear hc hf hb1
    go_wp2
    go_loop [13] (fun i => ∃ k : Nat, k ≤ N ∧ i = .int .i64 k ∧ Kp (allIn 0 ((M : Int) - 1) (sl.take k) = true)) (fun i => N - (intOf i).toNat)
    case atStart => exact ⟨0, Nat.zero_le _, rfl, ⟨rfl⟩⟩
    case round =>
      obtain ⟨k, hk, rfl, HA⟩ := hrel
      by_cases hlt : k < N
      · obtain ⟨z, hz⟩ : ∃ z, sl[k]? = some z := ⟨_, List.getElem?_eq_getElem (by rw [HN.out]; exact hlt)⟩
        obtain ⟨b, o, hg, hc⟩ := HIS.out k z hz
        subst hg
        have c2 := (HB1.out.cell (p := ⟨b, o + k, none⟩) (World.block_lt_of_cell? _ _ hc)).trans hc
        have o1 : (k : Int) < (N : Int) := by omega
        have o4 : IntKind.i64.wrap ((k : Int) + 1) = (k : Int) + 1 := IntWalk.i64_in _ (by omega)
        have HIC : Kp (∀ W, Calls Try.prog 55 #[.int .i64 z, .int .i64 0, .int .i64 ((M : Int) - 1)] W fun e w' => e = .returned (.bool (inB 0 ((M : Int) - 1) z)) ∧ W = w') := ⟨fun W => rin_any z 0 ((M : Int) - 1) W⟩
        have HMO := Kp.mk (allIn_more (lo := 0) (hi := (M : Int) - 1) hz)
        have HNO : Kp (inB 0 ((M : Int) - 1) z = false → allIn 0 ((M : Int) - 1) sl = false) := ⟨fun h => allIn_no hz (fun hh => by rw [inB_iff.2 hh] at h; cases h)⟩
        obtain ⟨Q, hQ⟩ : ∃ Q, inB 0 ((M : Int) - 1) z = Q := ⟨_, rfl⟩
        rw [hQ] at HIC HNO
        have HQ := Kp.mk hQ
        clear hz hc hQ
        cases Q with
        | false =>
          have HE : Kp (askE R ds x y sl = 5) := ⟨by rw [HAE.out, HNO.out rfl]; rfl⟩
          go_wp2_with fail
          refine (HIC.out _).mono ?_
          rintro en w5 ⟨rfl, rfl⟩
          go_wp2
          go_ret
          exact ⟨by rw [HE.out]; rfl, HB1.out⟩
        | true =>
          have HA2 : Kp (allIn 0 ((M : Int) - 1) (sl.take (k + 1)) = true) := ⟨by rw [HMO.out, HA.out]; exact HQ.out⟩
          go_wp2_with fail
          refine (HIC.out _).mono ?_
          rintro en w5 ⟨rfl, rfl⟩
          go_wp2
          go_round
          case rel => exact ⟨k + 1, by omega, by go_num, HA2⟩
          case measure => simp [intOf]; omega
      · have hkn : k = N := by omega
        have HAL : Kp (allIn 0 ((M : Int) - 1) sl = true) := ⟨by have := HA.out; rwa [hkn, ← HN.out, List.take_length] at this⟩
        have o1 : ¬ (k : Int) < (N : Int) := by omega
        clear HA hkn
        go_wp2
        go_loopw [7] (fun i wr => ∃ j : Nat, (j ≤ N ∨ j = 1) ∧ i = .int .i64 ((j : Nat) : Int) ∧ 1 ≤ j ∧ Kp (ascF sl (min j N) = true) ∧ Kp (Below w1.heap.size w1 wr)) (fun i _ => N - (intOf i).toNat)
        case atStart => exact ⟨1, .inr rfl, rfl, Nat.le_refl _, ⟨by
          by_cases h0 : N = 0
          · rw [h0]; rfl
          · rw [Nat.min_eq_left (by omega)]; rfl⟩, ⟨Below.refl _ _⟩⟩
        case round =>
          obtain ⟨j, hj, rfl, hj1, HS, HBL⟩ := hrel
          by_cases hlj : j < N
          · obtain ⟨z, hz⟩ : ∃ z, sl[j]? = some z := ⟨_, List.getElem?_eq_getElem (by rw [HN.out]; exact hlj)⟩
            obtain ⟨m, hm2⟩ : ∃ m, j = m + 1 := ⟨j - 1, by omega⟩
            obtain ⟨q, hq⟩ : ∃ q, sl[m]? = some q := ⟨_, List.getElem?_eq_getElem (by rw [HN.out]; omega)⟩
            obtain ⟨b, o, hg, hc⟩ := HIS.out j z hz
            subst hg
            obtain ⟨b2, o2, hg, hc2⟩ := HIS.out m q hq
            simp only [Option.some.injEq, Addr.mk.injEq, and_true] at hg
            obtain ⟨rfl, rfl⟩ := hg
            have hbw := HB1.out.trans (HBL.out.mono HB1.out.size)
            have cx := (hbw.cell (p := ⟨b, o + j, none⟩) (World.block_lt_of_cell? _ _ hc)).trans hc
            have cy := (hbw.cell (p := ⟨b, o + m, none⟩) (World.block_lt_of_cell? _ _ hc2)).trans hc2
            have HST : Kp (ascF sl (j + 1) = decide (q < z)) := ⟨by
              have hs := HS.out
              rw [Nat.min_eq_left (by omega)] at hs
              have e1 : sl.getD j 0 = z := by rw [List.getD_eq_getElem?_getD, hz]; rfl
              have e2 : sl.getD m 0 = q := by rw [List.getD_eq_getElem?_getD, hq]; rfl
              show (ascF sl j && (j == 0 || decide (sl.getD (j - 1) 0 < sl.getD j 0))) = _
              rw [hs, e1, show j - 1 = m by omega, e2, show (j == 0) = false by simp; omega]
              rfl⟩
            have o5 : (j : Int) < (N : Int) := by omega
            have o6 : (m : Int) < (N : Int) := by omega
            have o7 : IntKind.i64.wrap ((j : Int) - 1) = (m : Int) := (IntWalk.i64_in _ (by omega)).trans (by omega)
            have o8 : IntKind.i64.wrap ((j : Int) + 1) = (j : Int) + 1 := IntWalk.i64_in _ (by omega)
            have HBW := Kp.mk hbw
            have rg_cx := fun d os => cell_regrown cx d os
            have rg_cy := fun d os => cell_regrown cy d os
            clear hz hq hc hc2 hm2 hbw cx cy HS
            by_cases hqz : q < z
            · have o9 : decide (z ≤ q) = false := decide_eq_false (by omega)
              have HA2 : Kp (ascF sl (min (j + 1) N) = true) := ⟨by rw [Nat.min_eq_left (by omega), HST.out, decide_eq_true hqz]⟩
              clear hqz HST
              go_wp2_with fail
              refine wp_region_quiet_below (by kernel_rfl) (by kernel_rfl) ?_
              repeat (any_goals (first | go_big_quiet_step (fail) | quiet_step (fail)))
              refine wpQuiet_nil ?_
              intro _ hqw
              obtain ⟨⟨dq, osq⟩, hqv⟩ := hqw
              subst hqv
              obtain ⟨wq, hqwq⟩ : ∃ wq, grow (redrawn (wr) dq) osq = wq := ⟨_, rfl⟩
              have hbwq : Below (wr).heap.size (wr) wq := by rw [← hqwq]; exact below_regrown _ dq osq
              rw [hqwq]
              clear hqwq
              have HBQ := Kp.mk (HBL.out.trans (hbwq.mono HBL.out.size))
              clear hbwq rg_cx rg_cy
              go_wp2
              go_roundw
              case rel => exact ⟨j + 1, .inl (by omega), by go_num, by omega, HA2, HBQ⟩
              case measure => simp [intOf]; omega
            · have o9 : decide (z ≤ q) = true := decide_eq_true (by omega)
              have HE : Kp (askE R ds x y sl = 7) := ⟨by
                rw [HAE.out, HAL.out, ascF_no (k := j + 1) (by rw [HST.out, decide_eq_false hqz]) (by omega)]
                rfl⟩
              clear hqz HST
              go_wp2_with fail
              refine wp_region_quiet_below (by kernel_rfl) (by kernel_rfl) ?_
              repeat (any_goals (first | go_big_quiet_step (fail) | quiet_step (fail)))
              refine wpQuiet_nil ?_
              intro _ hqw
              obtain ⟨⟨dq, osq⟩, hqv⟩ := hqw
              subst hqv
              obtain ⟨wq, hqwq⟩ : ∃ wq, grow (redrawn (wr) dq) osq = wq := ⟨_, rfl⟩
              have hbwq : Below (wr).heap.size (wr) wq := by rw [← hqwq]; exact below_regrown _ dq osq
              rw [hqwq]
              clear hqwq
              have HBQ := Kp.mk (HBW.out.trans (hbwq.mono HBW.out.size))
              clear hbwq rg_cx rg_cy
              go_wp2
              go_ret
              exact ⟨by rw [HE.out]; rfl, HBQ.out⟩
          · have HE : Kp (askE R ds x y sl = 0) := ⟨by
              have hs := HS.out
              rw [Nat.min_eq_right (by omega)] at hs
              rw [HAE.out, HAL.out, hs]
              rfl⟩
            have HBW := Kp.mk (HB1.out.trans (HBL.out.mono HB1.out.size))
            have o5 : ¬ (j : Int) < (N : Int) := by omega
            go_wp2
            go_ret
            exact ⟨by rw [HE.out]; rfl, HBW.out⟩
end Go.Proofs.Ythkamfjjfkpekaa.Pe
