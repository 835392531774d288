/-
  WALKS (layer 9, loan): the reference's Charge.
-/
import Derived.Test.YtpngmdpiefagjaaLnRDays
namespace Go.Proofs.Ytpngmdpiefagjaa.Ln
open Go Go.RowKit Go.Sort

theorem chargeE_day (l : List Loan) (s : ByteArray) (fr to pence : Int) : chargeE l s fr to pence = if dayE l s fr to = 0 then (if allIn 0 10000 [pence] = true then 0 else 7) else dayE l s fr to := by
  unfold chargeE dayE
  generalize validL l = V
  generalize nameB s = n
  generalize (allIn 0 100000 [fr, to] && decide (fr ≤ to)) = R
  generalize allIn 0 10000 [pence] = P
  cases V <;> cases n <;> cases R <;> cases P <;> rfl
def payN (l : List Loan) (s : ByteArray) (fr to : Int) : Int := ((l.filter fun x => eqS x.t s).map fun x => comI fr to x.due (home x)).sum
theorem comI_comm (a b c d : Int) : comI a b c d = comI c d a b := by
  unfold comI
  omega
theorem sum_mul {E : Type} (p : Int) (f : E → Int) : ∀ (l : List E), (l.map fun x => p * f x).sum = (l.map f).sum * p
  | [] => by simp
  | x :: l => by
    simp only [List.map_cons, List.sum_cons]
    rw [sum_mul p f l, Int.add_mul, Int.mul_comm p]
theorem chargeN_pay (l : List Loan) (s : ByteArray) (fr to pence : Int) : chargeN l s fr to pence = payN l s fr to * pence := by
  unfold chargeN payN
  rw [← sum_mul]
  congr 1
  refine List.map_congr_left fun x _ => ?_
  rw [comI_comm]
theorem payN_more {l : List Loan} {k : Nat} {x : Loan} (s : ByteArray) (fr to : Int) (hx : l[k]? = some x) : payN (l.take (k + 1)) s fr to = payN (l.take k) s fr to + if eqS x.t s = true then comI fr to x.due (home x) else 0 := by
  unfold payN
  rw [filter_more (q := fun x => eqS x.t s) hx, List.map_append, List.sum_append]
  cases eqS x.t s <;> simp
theorem payN_bd {l : List Loan} (s : ByteArray) {fr to : Int} (hf : 0 ≤ fr) (ht : to ≤ 100000) : 0 ≤ payN l s fr to ∧ payN l s fr to ≤ 100001 * l.length := by
  have h := sum_bd (fun x : Loan => comI fr to x.due (home x)) 100001 (l.filter fun x => eqS x.t s) (fun q _ => comI_bd hf (by omega))
  have h2 := List.length_filter_le (fun x : Loan => eqS x.t s) l
  unfold payN
  refine ⟨h.1, Int.le_trans h.2 ?_⟩
  exact Int.mul_le_mul_of_nonneg_left (by omega) (by decide)
set_option maxRecDepth 100000 in
set_option maxHeartbeats 2000000 in
theorem rCharge_any (v : Value) (l : List Loan) (s : ByteArray) (fr to pence : Int) (w : World) (hv : LS w v l) (hm : l.length ≤ 1000) (hs : s.size ≤ maxLen) :
    Calls Try.prog 50 #[v, .string s, .int .i64 fr, .int .i64 to, .int .i64 pence] w fun e w' => e = .returned (.tuple #[.int .i64 (chargeV l s fr to pence), .int .i64 (chargeE l s fr to pence)]) ∧ Below w.heap.size w w' := by
  have HT : Kp (Calls Try.prog 80 #[v, .string s, .int .i64 fr, .int .i64 to] w fun e w' => e = .returned (.int .i64 (dayE l s fr to)) ∧ Below w.heap.size w w') := ⟨rTime_any v l s fr to w hv hm hs⟩
  unfold chargeV
  rw [chargeE_day]
  have HZ : Kp (dayE l s fr to = 0 → validL l = true ∧ askE l s = 0 ∧ (0 ≤ fr ∧ fr ≤ 100000) ∧ (0 ≤ to ∧ to ≤ 100000) ∧ fr ≤ to) := ⟨dayE_zero⟩
  obtain ⟨E, hE⟩ : ∃ E, dayE l s fr to = E := ⟨_, rfl⟩
  rw [hE] at HT HZ ⊢
  obtain ⟨g, c, rfl, -, hi⟩ := hv
  have HS := Kp.mk hi
  obtain ⟨N, hN⟩ : ∃ N, l.length = N := ⟨_, rfl⟩
  have HN := Kp.mk hN
  have HM : Kp (N ≤ 1000) := ⟨hN ▸ hm⟩
  rw [hN] at HT ⊢
  clear hi hm hs hE hN
  obtain ⟨X, hX⟩ : ∃ X, decide (pence < 0) = X := ⟨_, rfl⟩
  obtain ⟨Y, hY⟩ : ∃ Y, decide (10000 < pence) = Y := ⟨_, rfl⟩
  have hP : allIn 0 10000 [pence] = (!X && !Y) := by
    rw [← hX, ← hY]
    unfold allIn
    rw [Bool.eq_iff_iff]
    simp
  have HPN : Kp (X = false → Y = false → 0 ≤ pence ∧ pence ≤ 10000) := ⟨fun h1 h2 => by
    have := of_decide_eq_false (hX.trans h1)
    have := of_decide_eq_false (hY.trans h2)
    omega⟩
  rw [hP]
  clear hP
  by_cases hE0 : E = 0
  · subst hE0
    rw [if_pos rfl]
    have HZZ := Kp.mk (HZ.out rfl)
    clear HZ
    cases X with
    | true =>
      rw [show (!true && !Y) = false from rfl, if_neg (by decide), if_neg (by decide)]
      go_enter Try.func50, Try.ntmps50
      go_wp2_with fail
      refine HT.out.mono ?_
      rintro en w1 ⟨rfl, hb1⟩
      have HB1 := Kp.mk hb1
      clear hb1
      go_wp2
      go_ret2
      exact ⟨rfl, HB1.out⟩
    | false =>
      cases Y with
      | true =>
        rw [show (!false && !true) = false from rfl, if_neg (by decide), if_neg (by decide)]
        go_enter Try.func50, Try.ntmps50
        go_wp2_with fail
        refine HT.out.mono ?_
        rintro en w1 ⟨rfl, hb1⟩
        have HB1 := Kp.mk hb1
        clear hb1
        go_wp2
        go_ret2
        exact ⟨rfl, HB1.out⟩
      | false =>
        rw [show (!false && !false) = true from rfl, if_pos rfl, if_pos rfl, chargeN_pay]
        have hpn := HPN.out rfl rfl
        have HDA : Kp (∀ k, payN (l.take k) s fr to ≤ 100001 * 1000 ∧ 0 ≤ payN (l.take k) s fr to) := ⟨fun k => by
          have h := payN_bd (l := l.take k) s HZZ.out.2.2.1.1 HZZ.out.2.2.2.1.2
          have := HM.out
          have := HN.out
          rw [List.length_take] at h
          omega⟩
        have HAL : Kp (payN (l.take N) s fr to = payN l s fr to) := ⟨by rw [List.take_of_length_le (by have := HN.out; omega)]⟩
        have HWR : Kp (IntKind.i64.wrap (payN l s fr to * pence) = payN l s fr to * pence) := ⟨by
          have h := HDA.out N
          rw [HAL.out] at h
          have h1 : payN l s fr to * pence ≤ (100001 * 1000) * 10000 := Int.mul_le_mul h.1 hpn.2 hpn.1 (by decide)
          have h2 : 0 ≤ payN l s fr to * pence := Int.mul_nonneg h.2 hpn.1
          exact IntWalk.i64_in _ (by omega)⟩
        clear hpn
        go_enter Try.func50, Try.ntmps50
        go_wp2_with fail
        refine HT.out.mono ?_
        rintro en w1 ⟨rfl, hb1⟩
        have HB1 := Kp.mk hb1
        clear hb1
        go_wp2
        go_loopw [13, 32] (fun n i wr => ∃ k : Nat, k ≤ N ∧ i = .int .i64 k ∧ n = .int .i64 (payN (l.take k) s fr to) ∧ Kp (Below w.heap.size w wr)) (fun _ i _ => N - (intOf i).toNat)
        case atStart => exact ⟨0, Nat.zero_le _, rfl, rfl, HB1⟩
        case round =>
          obtain ⟨k, hk, rfl, rfl, HB⟩ := hrel
          by_cases hlt : k < N
          · obtain ⟨x, hx⟩ : ∃ x, l[k]? = some x := ⟨_, List.getElem?_eq_getElem (by rw [HN.out]; exact hlt)⟩
            obtain ⟨b, o, hg, hat, -⟩ := HS.out k x hx
            subst hg
            obtain ⟨d0, d1, d2, d3, d4⟩ := hat.on HB.out
            have o1 : (k : Int) < (N : Int) := by omega
            have o4 : k ≤ 1000 := by have := HM.out; omega
            have hmo := payN_more s fr to hx
            have hok := okB_days (validL_ok HZZ.out.1 (List.mem_of_getElem? hx))
            have hrb := comI_bd (a := fr) (b := to) (c := x.due) (d := home x) HZZ.out.2.2.1.1 (by have := HZZ.out.2.2.2.1.2; omega)
            have hdk := HDA.out k
            have HEK : Kp (∀ W, Calls Try.prog 82 #[.agg #[.string x.p, .string x.t, .int .i64 x.out, .int .i64 x.due, .int .i64 x.back]] W fun e w' => e = .returned (.int .i64 (home x)) ∧ Below W.heap.size W w') := ⟨fun W => rEnd_any x W⟩
            have HSK : Kp (∀ W, Calls Try.prog 81 #[.int .i64 fr, .int .i64 to, .int .i64 x.due, .int .i64 (home x)] W fun e w' => e = .returned (.int .i64 (comI fr to x.due (home x))) ∧ Below W.heap.size W w') := ⟨fun W => rSpan_any fr to x.due (home x) W (by have := HZZ.out; omega) (by have := HZZ.out; omega) (by omega) (by omega)⟩
            obtain ⟨P, hP⟩ : ∃ P, eqS x.t s = P := ⟨_, rfl⟩
            have i1 : (x.t.toList == s.toList) = P := hP
            obtain ⟨R, hR⟩ : ∃ R, comI fr to x.due (home x) = R := ⟨_, rfl⟩
            obtain ⟨H, hH⟩ : ∃ H, home x = H := ⟨_, rfl⟩
            obtain ⟨m, hmm⟩ : ∃ m, payN (l.take k) s fr to = m := ⟨_, rfl⟩
            rw [hP, hR, hmm] at hmo
            rw [hR] at HSK hrb
            rw [hH] at HEK HSK
            rw [hmm] at hdk ⊢
            have HMO := Kp.mk hmo
            have w1 : IntKind.i64.wrap (m + R) = m + R := IntWalk.i64_in _ (by omega)
            obtain ⟨xp, xt, xo, xd, xb⟩ := x
            simp only at d0 d1 d2 d3 d4 i1 HEK HSK
            clear hx hat hP hR hH hmm hmo hok hrb hdk
            cases P with
            | false =>
              have HN2 : Kp (payN (l.take (k + 1)) s fr to = m) := ⟨by rw [HMO.out, if_neg (by decide), Int.add_zero]⟩
              have HB2 : Kp (Below w.heap.size w (wr.alloc (.cells #[.string xp, .string xt, .int .i64 xo, .int .i64 xd, .int .i64 xb] 26))) := ⟨HB.out.alloc HB.out.size _⟩
              go_wp2
              go_roundw
              case rel => exact ⟨k + 1, by omega, by go_num, by rw [HN2.out], HB2⟩
              case measure => simp [intOf]; omega
            | true =>
              have HN2 : Kp (payN (l.take (k + 1)) s fr to = m + R) := ⟨by rw [HMO.out, if_pos rfl]⟩
              go_wp2
              obtain ⟨W1, hW1⟩ : ∃ W1, wr.alloc (.cells #[.string xp, .string xt, .int .i64 xo, .int .i64 xd, .int .i64 xb] 26) = W1 := ⟨_, rfl⟩
              rw [hW1]
              obtain ⟨hb1, ⟨e0, e1, e2, e3, e4⟩⟩ := bx_start (x := ⟨xp, xt, xo, xd, xb⟩) hW1
              simp only [Nat.zero_add] at e0 e1 e2 e3 e4
              have HBW : Kp (Below w.heap.size w W1) := ⟨HB.out.trans (hb1.mono HB.out.size)⟩
              have HEQ : Kp (∀ d os, Calls Try.prog 82 #[.agg #[.string xp, .string xt, .int .i64 xo, .int .i64 xd, .int .i64 xb]] (grow (redrawn W1 d) os) fun e w' => e = .returned (.int .i64 H) ∧ Below (grow (redrawn W1 d) os).heap.size (grow (redrawn W1 d) os) w') := ⟨fun d os => HEK.out _⟩
              have HSQ : Kp (∀ d os, Calls Try.prog 81 #[.int .i64 fr, .int .i64 to, .int .i64 xd, .int .i64 H] (grow (redrawn W1 d) os) fun e w' => e = .returned (.int .i64 R) ∧ Below (grow (redrawn W1 d) os).heap.size (grow (redrawn W1 d) os) w') := ⟨fun d os => HSK.out _⟩
              have rg_e0 := fun d os => cell_regrown e0 d os
              have rg_e1 := fun d os => cell_regrown e1 d os
              have rg_e2 := fun d os => cell_regrown e2 d os
              have rg_e3 := fun d os => cell_regrown e3 d os
              have rg_e4 := fun d os => cell_regrown e4 d os
              clear hW1 hb1 e0 e1 e2 e3 e4 d0 d1 d2 d3 d4 HEK HSK
              refine wp_region_quiet_below (by kernel_rfl) (by kernel_rfl) ?_
              repeat (any_goals (first | go_big_quiet_step (first | (with_reducible exact Calls.regrown_of (HEQ.out _ _)) | (with_reducible exact Calls.regrown_of (HSQ.out _ _))) | quiet_step (first | (with_reducible exact Calls.regrown_of (HEQ.out _ _)) | (with_reducible exact Calls.regrown_of (HSQ.out _ _)))))
              refine wpQuiet_nil ?_
              intro _ hqw
              obtain ⟨⟨dq, osq⟩, hqv⟩ := hqw
              subst hqv
              obtain ⟨wq, hqwq⟩ : ∃ wq, grow (redrawn (W1) dq) osq = wq := ⟨_, rfl⟩
              have hbwq : Below (W1).heap.size (W1) wq := by rw [← hqwq]; exact below_regrown _ dq osq
              rw [hqwq]
              clear hqwq
              have HBQ := Kp.mk (HBW.out.trans (hbwq.mono HBW.out.size))
              clear hbwq
              go_wp2
              go_roundw
              case rel => exact ⟨k + 1, by omega, by go_num, by rw [HN2.out], HBQ⟩
              case measure => simp [intOf]; omega
          · have hkn : k = N := by omega
            have HA2 : Kp (payN (l.take k) s fr to = payN l s fr to) := ⟨by rw [hkn]; exact HAL.out⟩
            have o1 : ¬ (k : Int) < (N : Int) := by omega
            clear hkn
            rw [HA2.out]
            obtain ⟨pn, hpn⟩ : ∃ pn, payN l s fr to = pn := ⟨_, rfl⟩
            have hw := HWR.out
            have HPQ := Kp.mk hpn
            rw [hpn] at hw ⊢
            clear hpn
            go_wp2
            go_ret2
            exact ⟨by rw [HPQ.out]; rfl, HB.out⟩
  · rw [if_neg hE0, if_neg hE0]
    have j1 : (E == (0 : Int)) = false := by simp [hE0]
    have j2 : (E != (0 : Int)) = true := by simp [hE0]
    clear HZ
    go_enter Try.func50, Try.ntmps50
    go_wp2_with fail
    refine HT.out.mono ?_
    rintro en w1 ⟨rfl, hb1⟩
    have HB1 := Kp.mk hb1
    clear hb1
    go_wp2
    go_ret2
    exact ⟨rfl, HB1.out⟩
end Go.Proofs.Ytpngmdpiefagjaa.Ln
