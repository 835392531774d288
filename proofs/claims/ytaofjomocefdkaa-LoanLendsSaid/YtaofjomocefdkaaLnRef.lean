/-
  WALKS (layer 9, loan): the reference's overlap, ordered, Overlap and Valid.
-/
import Derived.Test.YtaofjomocefdkaaLnOrd
namespace Go.Proofs.Ytaofjomocefdkaa.Ln
open Go Go.RowKit Go.Sort

theorem rOverlap2_any (a b : Loan) (w : World) : Calls Try.prog 58 #[.agg #[.string a.p, .string a.t, .int .i64 a.out, .int .i64 a.due, .int .i64 a.back], .agg #[.string b.p, .string b.t, .int .i64 b.out, .int .i64 b.due, .int .i64 b.back]] w fun e w' => e = .returned (.bool (ovB a b)) ∧ Below w.heap.size w w' := by
  unfold ovB
  obtain ⟨P, hP⟩ : ∃ P, eqS a.p b.p = P := ⟨_, rfl⟩
  obtain ⟨Q, hQ⟩ : ∃ Q, decide (a.back = 0) = Q := ⟨_, rfl⟩
  obtain ⟨R, hR⟩ : ∃ R, decide (b.out < a.back) = R := ⟨_, rfl⟩
  rw [hP, hQ, hR]
  have i1 : (a.p.toList == b.p.toList) = P := hP
  have i2 : (a.back == 0) = Q := hQ
  clear hP hQ
  obtain ⟨ap, att, ao, ad, ab⟩ := a
  obtain ⟨bp, bt, bo, bd, bb⟩ := b
  simp only at *
  cases P <;> cases Q <;> cases R
  all_goals
    go_enter Try.func58, Try.ntmps58
    go_wp2
    go_ret
    exact ⟨rfl, by repeat (first | exact Below.refl _ _ | refine Below.alloc ?_ (by simp <;> omega) _ | refine bDrewN ?_ _ | refine Below.drew ?_)⟩
theorem prevOk_at {pre : List Loan} {m : Nat} {y x : Loan} (hm : pre.length = m + 1) (hy : pre[m]? = some y) : prevOk pre x = decide (y.out ≤ x.out) := by
  unfold prevOk
  rw [List.getLast?_eq_getElem?, hm, Nat.add_sub_cancel, hy]
set_option maxRecDepth 100000 in
set_option maxHeartbeats 2000000 in
theorem rOrdered_any (v : Value) (l : List Loan) (w : World) (hv : LS w v l) (hm : l.length ≤ 4611686018427387904) : Calls Try.prog 57 #[v] w fun e w' => e = .returned (.bool (ordL l)) ∧ Below w.heap.size w w' := by
  obtain ⟨g, c, rfl, -, hi⟩ := hv
  have HS := Kp.mk hi
  have HO : Kp (ordL l = (chk rnd [] l && decide (l.length ≤ 200))) := ⟨ordL_rnd l⟩
  obtain ⟨N, hN⟩ : ∃ N, l.length = N := ⟨_, rfl⟩
  have HN := Kp.mk hN
  have HM : Kp (N ≤ 4611686018427387904) := ⟨hN ▸ hm⟩
  rw [hN] at HO ⊢
  obtain ⟨R, hR⟩ : ∃ R, ordL l = R := ⟨_, rfl⟩
  rw [hR] at HO ⊢
  clear hi hm hN hR
  go_enter Try.func57, Try.ntmps57
  go_wp2
  go_loopw [7] (fun i wr => ∃ k : Nat, k ≤ N ∧ i = .int .i64 k ∧ Kp (chk rnd [] (l.take k) = true) ∧ Kp (Below w.heap.size w wr)) (fun i _ => N - (intOf i).toNat)
  case atStart => exact ⟨0, Nat.zero_le _, rfl, ⟨rfl⟩, ⟨Below.refl _ _⟩⟩
  case round =>
    obtain ⟨k, hk, rfl, HA, HB⟩ := hrel
    by_cases hlt : k < N
    · obtain ⟨x, hx⟩ : ∃ x, l[k]? = some x := ⟨_, List.getElem?_eq_getElem (by rw [HN.out]; exact hlt)⟩
      obtain ⟨b, o, hg, hat, hwf⟩ := HS.out k x hx
      subst hg
      obtain ⟨d0, d1, d2, d3, d4⟩ := hat.on HB.out
      have o1 : (k : Int) < (N : Int) := by omega
      have o4 : k ≤ 4611686018427387904 := by have := HM.out; omega
      have hmore := chk_take rnd hx
      rw [HA.out, Bool.true_and] at hmore
      have hrx : rnd (l.take k) x = (prevOk (l.take k) x && okB x) := rfl
      rw [hrx] at hmore
      have hbad : Kp (chk rnd [] (l.take (k + 1)) = false → R = false) := ⟨fun h => by rw [HO.out, chk_no rnd h, Bool.false_and]⟩
      have HV : Kp (∀ W, Calls Try.prog 16 #[.agg #[.string x.p, .string x.t, .int .i64 x.out, .int .i64 x.due, .int .i64 x.back]] W fun e w' => e = .returned (.bool (okB x)) ∧ Below W.heap.size W w') := ⟨fun W => rValidLoan_any x W hwf⟩
      obtain ⟨O, hO⟩ : ∃ O, okB x = O := ⟨_, rfl⟩
      rw [hO] at HV hmore
      have hcs : (O = false ∧ chk rnd [] (l.take (k + 1)) = false) ∨ (O = true ∧ decide (0 < k) = false ∧ chk rnd [] (l.take (k + 1)) = true) ∨ (∃ m y, O = true ∧ decide (0 < k) = true ∧ k = m + 1 ∧ wr.cell? ⟨b, o + m * 5 + 2, none⟩ = some (.int .i64 y) ∧ chk rnd [] (l.take (k + 1)) = decide (y ≤ x.out)) := by
        cases O with
        | false => exact .inl ⟨rfl, by rw [hmore, Bool.and_false]⟩
        | true =>
          rw [Bool.and_true] at hmore
          cases k with
          | zero => exact .inr (.inl ⟨rfl, rfl, by rw [hmore]; rfl⟩)
          | succ m =>
            have hml : m < l.length := by have := HN.out; omega
            obtain ⟨b2, o2, hg2, hat2, -⟩ := HS.out m l[m] (List.getElem?_eq_getElem hml)
            simp only [Option.some.injEq, Addr.mk.injEq, and_true] at hg2
            obtain ⟨rfl, rfl⟩ := hg2
            refine .inr (.inr ⟨m, l[m].out, rfl, decide_eq_true (Nat.succ_pos m), rfl, (hat2.on HB.out).c2, ?_⟩)
            rw [hmore, prevOk_at (m := m) (y := l[m]) (by rw [List.length_take]; have := HN.out; omega) (by rw [List.getElem?_take, if_pos (Nat.lt_succ_self m)]; exact List.getElem?_eq_getElem hml)]
      obtain ⟨xp, xt, xo, xd, xb⟩ := x
      simp only at d0 d1 d2 d3 d4 HV hcs
      clear hmore hrx hO hwf hat hx
      rcases hcs with ⟨rfl, hno⟩ | ⟨rfl, h5, hyes⟩ | ⟨m, y, rfl, h5, hkm, hcy, hch⟩
      · have HRF : Kp (R = false) := ⟨hbad.out hno⟩
        clear hno hbad
        go_wp2
        obtain ⟨W1, hW1⟩ : ∃ W1, wr.alloc (.cells #[.string xp, .string xt, .int .i64 xo, .int .i64 xd, .int .i64 xb] 26) = W1 := ⟨_, rfl⟩
        rw [hW1]
        obtain ⟨hb1, ⟨e0, e1, e2, e3, e4⟩⟩ := bx_start (x := ⟨xp, xt, xo, xd, xb⟩) hW1
        simp only [Nat.zero_add] at e0 e1 e2 e3 e4
        have HB1 : Kp (Below w.heap.size w W1) := ⟨HB.out.trans (hb1.mono HB.out.size)⟩
        have HVK : Kp (∀ d os, Calls Try.prog 16 #[.agg #[.string xp, .string xt, .int .i64 xo, .int .i64 xd, .int .i64 xb]] (grow (redrawn W1 d) os) fun e w' => e = .returned (.bool false) ∧ Below (grow (redrawn W1 d) os).heap.size (grow (redrawn W1 d) os) w') := ⟨fun d os => HV.out _⟩
        have rg_e0 := fun d os => cell_regrown e0 d os
        have rg_e1 := fun d os => cell_regrown e1 d os
        have rg_e2 := fun d os => cell_regrown e2 d os
        have rg_e3 := fun d os => cell_regrown e3 d os
        have rg_e4 := fun d os => cell_regrown e4 d os
        clear hW1 hb1 e0 e1 e2 e3 e4 d0 d1 d2 d3 d4 HV
        refine wp_region_quiet_below (by kernel_rfl) (by kernel_rfl) ?_
        repeat (any_goals (first | go_big_quiet_step (first | (with_reducible exact Calls.regrown_of (HVK.out _ _))) | quiet_step (first | (with_reducible exact Calls.regrown_of (HVK.out _ _)))))
        refine wpQuiet_nil ?_
        intro _ hqw
        obtain ⟨⟨dq, osq⟩, hqv⟩ := hqw
        subst hqv
        obtain ⟨wq, hqwq⟩ : ∃ wq, grow (redrawn (W1) dq) osq = wq := ⟨_, rfl⟩
        have hbwq : Below (W1).heap.size (W1) wq := by rw [← hqwq]; exact below_regrown _ dq osq
        rw [hqwq]
        clear hqwq
        have HBQ := Kp.mk (HB1.out.trans (hbwq.mono HB1.out.size))
        clear hbwq
        go_wp2
        go_ret
        exact ⟨by rw [HRF.out]; rfl, HBQ.out⟩
      · have HC : Kp (chk rnd [] (l.take (k + 1)) = true) := ⟨hyes⟩
        clear hyes hbad
        go_wp2
        obtain ⟨W1, hW1⟩ : ∃ W1, wr.alloc (.cells #[.string xp, .string xt, .int .i64 xo, .int .i64 xd, .int .i64 xb] 26) = W1 := ⟨_, rfl⟩
        rw [hW1]
        obtain ⟨hb1, ⟨e0, e1, e2, e3, e4⟩⟩ := bx_start (x := ⟨xp, xt, xo, xd, xb⟩) hW1
        simp only [Nat.zero_add] at e0 e1 e2 e3 e4
        have HB1 : Kp (Below w.heap.size w W1) := ⟨HB.out.trans (hb1.mono HB.out.size)⟩
        have HVK : Kp (∀ d os, Calls Try.prog 16 #[.agg #[.string xp, .string xt, .int .i64 xo, .int .i64 xd, .int .i64 xb]] (grow (redrawn W1 d) os) fun e w' => e = .returned (.bool true) ∧ Below (grow (redrawn W1 d) os).heap.size (grow (redrawn W1 d) os) w') := ⟨fun d os => HV.out _⟩
        have rg_e0 := fun d os => cell_regrown e0 d os
        have rg_e1 := fun d os => cell_regrown e1 d os
        have rg_e2 := fun d os => cell_regrown e2 d os
        have rg_e3 := fun d os => cell_regrown e3 d os
        have rg_e4 := fun d os => cell_regrown e4 d os
        clear hW1 hb1 e0 e1 e2 e3 e4 d0 d1 d2 d3 d4 HV
        refine wp_region_quiet_below (by kernel_rfl) (by kernel_rfl) ?_
        repeat (any_goals (first | go_big_quiet_step (first | (with_reducible exact Calls.regrown_of (HVK.out _ _))) | quiet_step (first | (with_reducible exact Calls.regrown_of (HVK.out _ _)))))
        refine wpQuiet_nil ?_
        intro _ hqw
        obtain ⟨⟨dq, osq⟩, hqv⟩ := hqw
        subst hqv
        obtain ⟨wq, hqwq⟩ : ∃ wq, grow (redrawn (W1) dq) osq = wq := ⟨_, rfl⟩
        have hbwq : Below (W1).heap.size (W1) wq := by rw [← hqwq]; exact below_regrown _ dq osq
        rw [hqwq]
        clear hqwq
        have HBQ := Kp.mk (HB1.out.trans (hbwq.mono HB1.out.size))
        clear hbwq
        go_wp2
        go_roundw
        case rel => exact ⟨k + 1, by omega, by go_num, HC, HBQ⟩
        case measure => simp [intOf]; omega
      · have i5 : IntKind.i64.wrap ((k : Int) - 1) = (m : Int) := by rw [show (k : Int) - 1 = m by omega]; exact IntWalk.i64_in _ (by have := HM.out; omega)
        have o5 : (m : Int) < (N : Int) := by omega
        have HKM := Kp.mk hkm
        clear hkm
        obtain ⟨L, hL⟩ : ∃ L, decide (xo < y) = L := ⟨_, rfl⟩
        have hch2 : chk rnd [] (l.take (k + 1)) = !L := by rw [hch, ← hL, Bool.eq_iff_iff]; simp
        have HC := Kp.mk hch2
        clear hch hch2
        go_wp2
        obtain ⟨W1, hW1⟩ : ∃ W1, wr.alloc (.cells #[.string xp, .string xt, .int .i64 xo, .int .i64 xd, .int .i64 xb] 26) = W1 := ⟨_, rfl⟩
        rw [hW1]
        obtain ⟨hb1, ⟨e0, e1, e2, e3, e4⟩⟩ := bx_start (x := ⟨xp, xt, xo, xd, xb⟩) hW1
        simp only [Nat.zero_add] at e0 e1 e2 e3 e4
        have hcy1 : W1.cell? ⟨b, o + m * 5 + 2, none⟩ = some (.int .i64 y) := (hb1.cell (p := ⟨b, _, none⟩) (World.block_lt_of_cell? _ _ hcy)).trans hcy
        have HB1 : Kp (Below w.heap.size w W1) := ⟨HB.out.trans (hb1.mono HB.out.size)⟩
        have HVK : Kp (∀ d os, Calls Try.prog 16 #[.agg #[.string xp, .string xt, .int .i64 xo, .int .i64 xd, .int .i64 xb]] (grow (redrawn W1 d) os) fun e w' => e = .returned (.bool true) ∧ Below (grow (redrawn W1 d) os).heap.size (grow (redrawn W1 d) os) w') := ⟨fun d os => HV.out _⟩
        have rg_e0 := fun d os => cell_regrown e0 d os
        have rg_e1 := fun d os => cell_regrown e1 d os
        have rg_e2 := fun d os => cell_regrown e2 d os
        have rg_e3 := fun d os => cell_regrown e3 d os
        have rg_e4 := fun d os => cell_regrown e4 d os
        have rg_hcy1 := fun d os => cell_regrown hcy1 d os
        clear hW1 hb1 e0 e1 e2 e3 e4 hcy1 hcy d0 d1 d2 d3 d4 HV
        refine wp_region_quiet_below (by kernel_rfl) (by kernel_rfl) ?_
        repeat (any_goals (first | go_big_quiet_step (first | (with_reducible exact Calls.regrown_of (HVK.out _ _))) | quiet_step (first | (with_reducible exact Calls.regrown_of (HVK.out _ _)))))
        refine wpQuiet_nil ?_
        intro _ hqw
        obtain ⟨⟨dq, osq⟩, hqv⟩ := hqw
        subst hqv
        obtain ⟨wq, hqwq⟩ : ∃ wq, grow (redrawn (W1) dq) osq = wq := ⟨_, rfl⟩
        have hbwq : Below (W1).heap.size (W1) wq := by rw [← hqwq]; exact below_regrown _ dq osq
        rw [hqwq]
        clear hqwq
        have HBQ := Kp.mk (HB1.out.trans (hbwq.mono HB1.out.size))
        clear hbwq
        cases L with
        | true =>
          have HRF : Kp (R = false) := ⟨hbad.out HC.out⟩
          go_wp2
          go_ret
          exact ⟨by rw [HRF.out]; rfl, HBQ.out⟩
        | false =>
          have HC2 : Kp (chk rnd [] (l.take (k + 1)) = true) := ⟨HC.out⟩
          go_wp2
          go_roundw
          case rel => exact ⟨k + 1, by omega, by go_num, HC2, HBQ⟩
          case measure => simp [intOf]; omega
    · have hkn : k = N := by omega
      have hF := HO.out
      have hall : chk rnd [] l = true := by
        have := HA.out
        rwa [List.take_of_length_le (by rw [HN.out]; omega)] at this
      rw [hall, Bool.true_and] at hF
      obtain ⟨A, hA⟩ : ∃ A, decide (N ≤ 200) = A := ⟨_, rfl⟩
      have i1 : decide ((N : Int) ≤ 200) = A := by rw [← hA]; exact decide_eq_decide.2 (by omega)
      rw [hA] at hF
      have HFR := Kp.mk hF
      have o1 : ¬ (k : Int) < (N : Int) := by omega
      clear hkn hall hF HO
      go_wp2
      go_ret
      exact ⟨by rw [HFR.out]; rfl, HB.out⟩
end Go.Proofs.Ytaofjomocefdkaa.Ln
