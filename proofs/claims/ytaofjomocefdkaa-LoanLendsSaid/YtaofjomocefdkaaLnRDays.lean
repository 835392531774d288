/-
  WALKS (layer 9, loan): the reference's Days and Home, the program's Home.
-/
import Derived.Test.YtaofjomocefdkaaLnChosen
namespace Go.Proofs.Ytaofjomocefdkaa.Ln
open Go Go.RowKit Go.Sort

theorem rEnd_any (x : Loan) (w : World) : Calls Try.prog 82 #[.agg #[.string x.p, .string x.t, .int .i64 x.out, .int .i64 x.due, .int .i64 x.back]] w fun e w' => e = .returned (.int .i64 (home x)) ∧ Below w.heap.size w w' := by
  unfold home
  obtain ⟨p, t, o, d, b⟩ := x
  simp only
  by_cases h : b = 0
  · subst h
    go_enter Try.func82, Try.ntmps82
    go_wp2
    go_ret
    exact ⟨rfl, by repeat (first | exact Below.refl _ _ | refine Below.alloc ?_ (by simp <;> omega) _ | refine bDrewN ?_ _ | refine Below.drew ?_)⟩
  · rw [if_neg h]
    have j : (b == (0 : Int)) = false := by simp [h]
    clear h
    go_enter Try.func82, Try.ntmps82
    go_wp2
    go_ret
    exact ⟨rfl, by repeat (first | exact Below.refl _ _ | refine Below.alloc ?_ (by simp <;> omega) _ | refine bDrewN ?_ _ | refine Below.drew ?_)⟩
theorem rSpan_any (a b c d : Int) (w : World) (h1 : 0 ≤ a ∧ a ≤ 200000) (h2 : 0 ≤ b ∧ b ≤ 200000) (h3 : 0 ≤ c ∧ c ≤ 200000) (h4 : 0 ≤ d ∧ d ≤ 200000) : Calls Try.prog 81 #[.int .i64 a, .int .i64 b, .int .i64 c, .int .i64 d] w fun e w' => e = .returned (.int .i64 (comI a b c d)) ∧ Below w.heap.size w w' := by
  obtain ⟨R, hR⟩ : ∃ R, comI a b c d = R := ⟨_, rfl⟩
  rw [hR]
  unfold comI at hR
  by_cases k1 : d < b <;> by_cases k2 : a < c
  · have e1 := wrap64_small (n := d - c) (by omega)
    by_cases k3 : 0 < d - c
    · have HR : Kp (d - c = R) := ⟨by omega⟩
      clear h1 h2 h3 h4 hR
      go_enter Try.func81, Try.ntmps81
      go_wp2
      go_ret
      exact ⟨ret_int HR.out, by repeat (first | exact Below.refl _ _ | refine Below.alloc ?_ (by simp <;> omega) _ | refine bDrewN ?_ _ | refine Below.drew ?_)⟩
    · have HR : Kp (0 = R) := ⟨by omega⟩
      clear h1 h2 h3 h4 hR
      go_enter Try.func81, Try.ntmps81
      go_wp2
      go_ret
      exact ⟨ret_int HR.out, by repeat (first | exact Below.refl _ _ | refine Below.alloc ?_ (by simp <;> omega) _ | refine bDrewN ?_ _ | refine Below.drew ?_)⟩
  · have e1 := wrap64_small (n := d - a) (by omega)
    by_cases k3 : 0 < d - a
    · have HR : Kp (d - a = R) := ⟨by omega⟩
      clear h1 h2 h3 h4 hR
      go_enter Try.func81, Try.ntmps81
      go_wp2
      go_ret
      exact ⟨ret_int HR.out, by repeat (first | exact Below.refl _ _ | refine Below.alloc ?_ (by simp <;> omega) _ | refine bDrewN ?_ _ | refine Below.drew ?_)⟩
    · have HR : Kp (0 = R) := ⟨by omega⟩
      clear h1 h2 h3 h4 hR
      go_enter Try.func81, Try.ntmps81
      go_wp2
      go_ret
      exact ⟨ret_int HR.out, by repeat (first | exact Below.refl _ _ | refine Below.alloc ?_ (by simp <;> omega) _ | refine bDrewN ?_ _ | refine Below.drew ?_)⟩
  · have e1 := wrap64_small (n := b - c) (by omega)
    by_cases k3 : 0 < b - c
    · have HR : Kp (b - c = R) := ⟨by omega⟩
      clear h1 h2 h3 h4 hR
      go_enter Try.func81, Try.ntmps81
      go_wp2
      go_ret
      exact ⟨ret_int HR.out, by repeat (first | exact Below.refl _ _ | refine Below.alloc ?_ (by simp <;> omega) _ | refine bDrewN ?_ _ | refine Below.drew ?_)⟩
    · have HR : Kp (0 = R) := ⟨by omega⟩
      clear h1 h2 h3 h4 hR
      go_enter Try.func81, Try.ntmps81
      go_wp2
      go_ret
      exact ⟨ret_int HR.out, by repeat (first | exact Below.refl _ _ | refine Below.alloc ?_ (by simp <;> omega) _ | refine bDrewN ?_ _ | refine Below.drew ?_)⟩
  · have e1 := wrap64_small (n := b - a) (by omega)
    by_cases k3 : 0 < b - a
    · have HR : Kp (b - a = R) := ⟨by omega⟩
      clear h1 h2 h3 h4 hR
      go_enter Try.func81, Try.ntmps81
      go_wp2
      go_ret
      exact ⟨ret_int HR.out, by repeat (first | exact Below.refl _ _ | refine Below.alloc ?_ (by simp <;> omega) _ | refine bDrewN ?_ _ | refine Below.drew ?_)⟩
    · have HR : Kp (0 = R) := ⟨by omega⟩
      clear h1 h2 h3 h4 hR
      go_enter Try.func81, Try.ntmps81
      go_wp2
      go_ret
      exact ⟨ret_int HR.out, by repeat (first | exact Below.refl _ _ | refine Below.alloc ?_ (by simp <;> omega) _ | refine bDrewN ?_ _ | refine Below.drew ?_)⟩
theorem rDay_any (n : Int) (w : World) : Calls Try.prog 66 #[.int .i64 n] w fun e w' => e = .returned (.bool (dayB n)) ∧ Below w.heap.size w w' := by
  unfold dayB
  obtain ⟨A, hA⟩ : ∃ A, decide (0 ≤ n) = A := ⟨_, rfl⟩
  obtain ⟨B, hB⟩ : ∃ B, decide (n ≤ 100000) = B := ⟨_, rfl⟩
  rw [hA, hB]
  cases A <;> cases B
  all_goals
    go_enter Try.func66, Try.ntmps66
    go_wp2
    go_ret
    exact ⟨rfl, by repeat (first | exact Below.refl _ _ | refine Below.alloc ?_ (by simp <;> omega) _ | refine bDrewN ?_ _ | refine Below.drew ?_)⟩
def rngB (fr to : Int) : Bool := (dayB fr && dayB to) && decide (fr ≤ to)
theorem dayE_ask (l : List Loan) (s : ByteArray) (fr to : Int) : dayE l s fr to = if askE l s = 0 then (if rngB fr to = true then 0 else 7) else askE l s := by
  have e : (allIn 0 100000 [fr, to] && decide (fr ≤ to)) = rngB fr to := by
    unfold rngB allIn dayB
    simp
  unfold dayE askE
  rw [e]
  generalize validL l = V
  generalize nameB s = n
  generalize rngB fr to = R
  cases V <;> cases n <;> cases R <;> rfl
theorem rTime_any (v : Value) (l : List Loan) (s : ByteArray) (fr to : Int) (w : World) (hv : LS w v l) (hm : l.length ≤ 1000) (hs : s.size ≤ maxLen) : Calls Try.prog 80 #[v, .string s, .int .i64 fr, .int .i64 to] w fun e w' => e = .returned (.int .i64 (dayE l s fr to)) ∧ Below w.heap.size w w' := by
  have HA : Kp (Calls Try.prog 65 #[v, .string s] w fun e w' => e = .returned (.int .i64 (askE l s)) ∧ Below w.heap.size w w') := ⟨rAsked_any v l s w hv hm hs⟩
  have HD : Kp (∀ W, Calls Try.prog 66 #[.int .i64 fr] W fun e w' => e = .returned (.bool (dayB fr)) ∧ Below W.heap.size W w') := ⟨fun W => rDay_any fr W⟩
  have HT : Kp (∀ W, Calls Try.prog 66 #[.int .i64 to] W fun e w' => e = .returned (.bool (dayB to)) ∧ Below W.heap.size W w') := ⟨fun W => rDay_any to W⟩
  rw [dayE_ask]
  unfold rngB
  obtain ⟨E, hE⟩ : ∃ E, askE l s = E := ⟨_, rfl⟩
  obtain ⟨A, hA⟩ : ∃ A, dayB fr = A := ⟨_, rfl⟩
  obtain ⟨B, hB⟩ : ∃ B, dayB to = B := ⟨_, rfl⟩
  obtain ⟨Q, hQ⟩ : ∃ Q, decide (fr ≤ to) = Q := ⟨_, rfl⟩
  have i8 : decide (to < fr) = !Q := by rw [← hQ, Bool.eq_iff_iff]; simp
  rw [hE] at HA ⊢
  rw [hA] at HD ⊢
  rw [hB] at HT ⊢
  rw [hQ]
  obtain ⟨g, c, rfl⟩ := hv.shape
  obtain ⟨N, hN⟩ : ∃ N, l.length = N := ⟨_, rfl⟩
  rw [hN] at HA ⊢
  clear hv hm hs hE hA hB hQ hN
  by_cases hE0 : E = 0
  · subst hE0
    rw [if_pos rfl]
    cases A with
    | false =>
      go_enter Try.func80, Try.ntmps80
      go_wp2_with fail
      refine HA.out.mono ?_
      rintro en w1 ⟨rfl, hb1⟩
      have HB1 := Kp.mk hb1
      clear hb1
      go_wp2_with fail
      refine (HD.out _).mono ?_
      rintro en w2 ⟨rfl, hb2⟩
      have HB2 := Kp.mk (HB1.out.trans (hb2.mono HB1.out.size))
      clear hb2
      go_wp2
      go_ret
      exact ⟨rfl, HB2.out⟩
    | true =>
      cases B <;> cases Q
      all_goals
        go_enter Try.func80, Try.ntmps80
        go_wp2_with fail
        refine HA.out.mono ?_
        rintro en w1 ⟨rfl, hb1⟩
        have HB1 := Kp.mk hb1
        clear hb1
        go_wp2_with fail
        refine (HD.out _).mono ?_
        rintro en w2 ⟨rfl, hb2⟩
        have HB2 := Kp.mk (HB1.out.trans (hb2.mono HB1.out.size))
        clear hb2
        go_wp2_with fail
        refine (HT.out _).mono ?_
        rintro en w3 ⟨rfl, hb3⟩
        have HB3 := Kp.mk (HB2.out.trans (hb3.mono HB2.out.size))
        clear hb3
        go_wp2
        go_ret
        exact ⟨rfl, HB3.out⟩
  · rw [if_neg hE0]
    have j1 : (E == (0 : Int)) = false := by simp [hE0]
    have j2 : (E != (0 : Int)) = true := by simp [hE0]
    go_enter Try.func80, Try.ntmps80
    go_wp2_with fail
    refine HA.out.mono ?_
    rintro en w1 ⟨rfl, hb1⟩
    have HB1 := Kp.mk hb1
    clear hb1
    go_wp2
    go_ret
    exact ⟨rfl, HB1.out⟩
theorem dayN_more {l : List Loan} {k : Nat} {x : Loan} (s : ByteArray) (fr to : Int) (hx : l[k]? = some x) : dayN (l.take (k + 1)) s fr to = dayN (l.take k) s fr to + if eqS x.p s = true then comI fr to x.out (home x) else 0 := by
  have hk := (List.getElem?_eq_some_iff.1 hx).1
  have e : l[k] = x := (List.getElem?_eq_some_iff.1 hx).2
  unfold dayN
  rw [List.take_succ_eq_append_getElem hk, e, calL_snoc, List.map_append, List.sum_append]
  cases eqS x.p s <;> simp
theorem dayN_bd {l : List Loan} (s : ByteArray) {fr to : Int} (hf : 0 ≤ fr) (ht : to ≤ 100000) : 0 ≤ dayN l s fr to ∧ dayN l s fr to ≤ 100001 * l.length := by
  have h := sum_bd (fun q : Int × Int => comI fr to q.1 q.2) 100001 (calL l s) (fun q _ => comI_bd hf (by omega))
  have h2 := calL_len l s
  unfold dayN
  refine ⟨h.1, Int.le_trans h.2 ?_⟩
  exact Int.mul_le_mul_of_nonneg_left (by omega) (by decide)
theorem dayE_zero {l : List Loan} {s : ByteArray} {fr to : Int} (h : dayE l s fr to = 0) : validL l = true ∧ askE l s = 0 ∧ (0 ≤ fr ∧ fr ≤ 100000) ∧ (0 ≤ to ∧ to ≤ 100000) ∧ fr ≤ to := by
  obtain ⟨h1, h2, h3⟩ := chkE_zero h
  rw [Bool.and_eq_true] at h3
  obtain ⟨a, b⟩ := allIn_two h3.1
  exact ⟨h1, by unfold askE; rw [h1, h2]; rfl, a, b, of_decide_eq_true h3.2⟩
set_option maxRecDepth 100000 in
set_option maxHeartbeats 2000000 in
theorem rDays_any (v : Value) (l : List Loan) (s : ByteArray) (fr to : Int) (w : World) (hv : LS w v l) (hm : l.length ≤ 1000) (hs : s.size ≤ maxLen) :
    Calls Try.prog 38 #[v, .string s, .int .i64 fr, .int .i64 to] w fun e w' => e = .returned (.tuple #[.int .i64 (dayV l s fr to), .int .i64 (dayE l s fr to)]) ∧ Below w.heap.size w w' := by
  have HT : Kp (Calls Try.prog 80 #[v, .string s, .int .i64 fr, .int .i64 to] w fun e w' => e = .returned (.int .i64 (dayE l s fr to)) ∧ Below w.heap.size w w') := ⟨rTime_any v l s fr to w hv hm hs⟩
  unfold dayV
  have HZ : Kp (dayE l s fr to = 0 → validL l = true ∧ askE l s = 0 ∧ (0 ≤ fr ∧ fr ≤ 100000) ∧ (0 ≤ to ∧ to ≤ 100000) ∧ fr ≤ to) := ⟨dayE_zero⟩
  obtain ⟨E, hE⟩ : ∃ E, dayE l s fr to = E := ⟨_, rfl⟩
  rw [hE] at HT HZ ⊢
  obtain ⟨g, c, rfl, -, hi⟩ := hv
  have HS := Kp.mk hi
  obtain ⟨N, hN⟩ : ∃ N, l.length = N := ⟨_, rfl⟩
  have HN := Kp.mk hN
  have HM : Kp (N ≤ 1000) := ⟨hN ▸ hm⟩
  rw [hN] at HT ⊢
  clear hi hm hs hE hN
  by_cases hE0 : E = 0
  · subst hE0
    rw [if_pos rfl]
    have HZZ := Kp.mk (HZ.out rfl)
    have HDA : Kp (∀ k, dayN (l.take k) s fr to ≤ 100001 * 1000 ∧ 0 ≤ dayN (l.take k) s fr to) := ⟨fun k => by
      have h := dayN_bd (l := l.take k) s HZZ.out.2.2.1.1 HZZ.out.2.2.2.1.2
      have := HM.out
      have := HN.out
      rw [List.length_take] at h
      omega⟩
    have HAL : Kp (dayN (l.take N) s fr to = dayN l s fr to) := ⟨by rw [List.take_of_length_le (by have := HN.out; omega)]⟩
    clear HZ
    go_enter Try.func38, Try.ntmps38
    go_wp2_with fail
    refine HT.out.mono ?_
    rintro en w1 ⟨rfl, hb1⟩
    have HB1 := Kp.mk hb1
    clear hb1
    go_wp2
    go_loopw [11, 24] (fun n i wr => ∃ k : Nat, k ≤ N ∧ i = .int .i64 k ∧ n = .int .i64 (dayN (l.take k) s fr to) ∧ Kp (Below w.heap.size w wr)) (fun _ i _ => N - (intOf i).toNat)
    case atStart => exact ⟨0, Nat.zero_le _, rfl, rfl, HB1⟩
    case round =>
      obtain ⟨k, hk, rfl, rfl, HB⟩ := hrel
      by_cases hlt : k < N
      · obtain ⟨x, hx⟩ : ∃ x, l[k]? = some x := ⟨_, List.getElem?_eq_getElem (by rw [HN.out]; exact hlt)⟩
        obtain ⟨b, o, hg, hat, -⟩ := HS.out k x hx
        subst hg
        obtain ⟨d0, d1, d2, d3, d4⟩ := hat.on HB.out
        have o1 : (k : Int) < (N : Int) := by omega
        have o4 : k ≤ 1000 := by have := HM.out; omega
        have hmo := dayN_more s fr to hx
        have hok := okB_days (validL_ok HZZ.out.1 (List.mem_of_getElem? hx))
        have hrb := comI_bd (a := fr) (b := to) (c := x.out) (d := home x) HZZ.out.2.2.1.1 (by have := HZZ.out.2.2.2.1.2; omega)
        have hdk := HDA.out k
        have HEK : Kp (∀ W, Calls Try.prog 82 #[.agg #[.string x.p, .string x.t, .int .i64 x.out, .int .i64 x.due, .int .i64 x.back]] W fun e w' => e = .returned (.int .i64 (home x)) ∧ Below W.heap.size W w') := ⟨fun W => rEnd_any x W⟩
        have HSK : Kp (∀ W, Calls Try.prog 81 #[.int .i64 fr, .int .i64 to, .int .i64 x.out, .int .i64 (home x)] W fun e w' => e = .returned (.int .i64 (comI fr to x.out (home x))) ∧ Below W.heap.size W w') := ⟨fun W => rSpan_any fr to x.out (home x) W (by have := HZZ.out; omega) (by have := HZZ.out; omega) (by omega) (by omega)⟩
        obtain ⟨P, hP⟩ : ∃ P, eqS x.p s = P := ⟨_, rfl⟩
        have i1 : (x.p.toList == s.toList) = P := hP
        obtain ⟨R, hR⟩ : ∃ R, comI fr to x.out (home x) = R := ⟨_, rfl⟩
        obtain ⟨H, hH⟩ : ∃ H, home x = H := ⟨_, rfl⟩
        obtain ⟨m, hmm⟩ : ∃ m, dayN (l.take k) s fr to = m := ⟨_, rfl⟩
        rw [hP, hR, hmm] at hmo
        rw [hR] at HSK hrb
        rw [hH] at HEK HSK
        rw [hmm] at hdk ⊢
        have HMO := Kp.mk hmo
        have w1 : IntKind.i64.wrap (m + R) = m + R := IntWalk.i64_in _ (by omega)
        obtain ⟨xp, xt, xo, xd, xb⟩ := x
        simp only at d0 d1 d2 d3 d4 i1 HEK HSK
        clear hx hat hP hR hH hmm hmo hok hrb hdk
        cases P with
        | false =>
          have HN2 : Kp (dayN (l.take (k + 1)) s fr to = m) := ⟨by rw [HMO.out, if_neg (by decide), Int.add_zero]⟩
          have HB2 : Kp (Below w.heap.size w (wr.alloc (.cells #[.string xp, .string xt, .int .i64 xo, .int .i64 xd, .int .i64 xb] 26))) := ⟨HB.out.alloc HB.out.size _⟩
          go_wp2
          go_roundw
          case rel => exact ⟨k + 1, by omega, by go_num, by rw [HN2.out], HB2⟩
          case measure => simp [intOf]; omega
        | true =>
          have HN2 : Kp (dayN (l.take (k + 1)) s fr to = m + R) := ⟨by rw [HMO.out, if_pos rfl]⟩
          go_wp2
          obtain ⟨W1, hW1⟩ : ∃ W1, wr.alloc (.cells #[.string xp, .string xt, .int .i64 xo, .int .i64 xd, .int .i64 xb] 26) = W1 := ⟨_, rfl⟩
          rw [hW1]
          obtain ⟨hb1, ⟨e0, e1, e2, e3, e4⟩⟩ := bx_start (x := ⟨xp, xt, xo, xd, xb⟩) hW1
          simp only [Nat.zero_add] at e0 e1 e2 e3 e4
          have HBW : Kp (Below w.heap.size w W1) := ⟨HB.out.trans (hb1.mono HB.out.size)⟩
          have HEQ : Kp (∀ d os, Calls Try.prog 82 #[.agg #[.string xp, .string xt, .int .i64 xo, .int .i64 xd, .int .i64 xb]] (grow (redrawn W1 d) os) fun e w' => e = .returned (.int .i64 H) ∧ Below (grow (redrawn W1 d) os).heap.size (grow (redrawn W1 d) os) w') := ⟨fun d os => HEK.out _⟩
          have HSQ : Kp (∀ d os, Calls Try.prog 81 #[.int .i64 fr, .int .i64 to, .int .i64 xo, .int .i64 H] (grow (redrawn W1 d) os) fun e w' => e = .returned (.int .i64 R) ∧ Below (grow (redrawn W1 d) os).heap.size (grow (redrawn W1 d) os) w') := ⟨fun d os => HSK.out _⟩
          have rg_e0 := fun d os => cell_regrown e0 d os
          have rg_e1 := fun d os => cell_regrown e1 d os
          have rg_e2 := fun d os => cell_regrown e2 d os
          have rg_e3 := fun d os => cell_regrown e3 d os
          have rg_e4 := fun d os => cell_regrown e4 d os
          clear hW1 hb1 e0 e1 e2 e3 e4 d0 d1 d2 d3 d4 HEK HSK
          refine wp_region_quiet_below (by kernel_rfl) (by kernel_rfl) ?_
          repeat (any_goals (first | go_big_quiet_step (first | (with_reducible exact Calls.regrown_of (HEQ.out _ _)) | (with_reducible exact Calls.regrown_of (HSQ.out _ _))) | quiet_step (first | (with_reducible exact Calls.regrown_of (HEQ.out _ _)) | (with_reducible exact Calls.regrown_of (HSQ.out _ _)))))
          refine wpQuiet_nil ?_
          intro _ hqw
          obtain ⟨⟨dq, osq⟩, hqv⟩ := hqw
          subst hqv
          obtain ⟨wq, hqwq⟩ : ∃ wq, grow (redrawn (W1) dq) osq = wq := ⟨_, rfl⟩
          have hbwq : Below (W1).heap.size (W1) wq := by rw [← hqwq]; exact below_regrown _ dq osq
          rw [hqwq]
          clear hqwq
          have HBQ := Kp.mk (HBW.out.trans (hbwq.mono HBW.out.size))
          clear hbwq
          go_wp2
          go_roundw
          case rel => exact ⟨k + 1, by omega, by go_num, by rw [HN2.out], HBQ⟩
          case measure => simp [intOf]; omega
      · have hkn : k = N := by omega
        have HA2 : Kp (dayN (l.take k) s fr to = dayN l s fr to) := ⟨by rw [hkn]; exact HAL.out⟩
        have o1 : ¬ (k : Int) < (N : Int) := by omega
        clear hkn
        rw [HA2.out]
        go_wp2
        go_ret2
        exact ⟨rfl, HB.out⟩
  · rw [if_neg hE0]
    have j1 : (E == (0 : Int)) = false := by simp [hE0]
    have j2 : (E != (0 : Int)) = true := by simp [hE0]
    clear HZ
    go_enter Try.func38, Try.ntmps38
    go_wp2_with fail
    refine HT.out.mono ?_
    rintro en w1 ⟨rfl, hb1⟩
    have HB1 := Kp.mk hb1
    clear hb1
    go_wp2
    go_ret2
    exact ⟨rfl, HB1.out⟩
def homeV (l : List Loan) (s : ByteArray) (fr to : Int) : Int := if dayE l s fr to = 0 then to - fr - dayN l s fr to else 0
theorem Home_any (v : Value) (l : List Loan) (s : ByteArray) (fr to : Int) (w : World) (hv : LS w v l) (hm : l.length ≤ 1000) (hs : s.size ≤ maxLen) :
    Calls Try.prog 39 #[v, .string s, .int .i64 fr, .int .i64 to] w fun e w' => e = .returned (.tuple #[.int .i64 (homeV l s fr to), .int .i64 (dayE l s fr to)]) ∧ Below w.heap.size w w' := by
  have HD : Kp (Calls Try.prog 37 #[v, .string s, .int .i64 fr, .int .i64 to] w fun e w' => e = .returned (.tuple #[.int .i64 (dayV l s fr to), .int .i64 (dayE l s fr to)]) ∧ Below w.heap.size w w') := ⟨Days_any v l s fr to w hv (by omega) hs⟩
  unfold homeV
  unfold dayV at HD
  have HZ : Kp (dayE l s fr to = 0 → validL l = true ∧ askE l s = 0 ∧ (0 ≤ fr ∧ fr ≤ 100000) ∧ (0 ≤ to ∧ to ≤ 100000) ∧ fr ≤ to) := ⟨dayE_zero⟩
  obtain ⟨E, hE⟩ : ∃ E, dayE l s fr to = E := ⟨_, rfl⟩
  rw [hE] at HD HZ ⊢
  obtain ⟨g, c, rfl⟩ := hv.shape
  by_cases hE0 : E = 0
  · subst hE0
    have hz := HZ.out rfl
    have hb := dayN_bd (l := l) s hz.2.2.1.1 hz.2.2.2.1.2
    rw [if_pos rfl]
    rw [if_pos rfl] at HD
    obtain ⟨n, hn⟩ : ∃ n, dayN l s fr to = n := ⟨_, rfl⟩
    obtain ⟨N, hN⟩ : ∃ N, l.length = N := ⟨_, rfl⟩
    rw [hn] at HD hb ⊢
    rw [hN] at HD hb hm ⊢
    have w1 : IntKind.i64.wrap (to - fr) = to - fr := IntWalk.i64_in _ (by omega)
    have w2 : IntKind.i64.wrap (to - fr - n) = to - fr - n := IntWalk.i64_in _ (by omega)
    clear hv hm hs hE hz hb hn hN HZ
    go_enter Try.func39, Try.ntmps39
    go_wp2_with fail
    refine HD.out.mono ?_
    rintro en w1 ⟨rfl, hb1⟩
    have HB1 := Kp.mk hb1
    clear hb1
    go_wp2
    go_ret2
    exact ⟨rfl, HB1.out⟩
  · rw [if_neg hE0]
    rw [if_neg hE0] at HD
    have j1 : (E == (0 : Int)) = false := by simp [hE0]
    have j2 : (E != (0 : Int)) = true := by simp [hE0]
    obtain ⟨N, hN⟩ : ∃ N, l.length = N := ⟨_, rfl⟩
    rw [hN] at HD ⊢
    clear hv hm hs hE HZ hN
    go_enter Try.func39, Try.ntmps39
    go_wp2_with fail
    refine HD.out.mono ?_
    rintro en w1 ⟨rfl, hb1⟩
    have HB1 := Kp.mk hb1
    clear hb1
    go_wp2
    go_ret2
    exact ⟨rfl, HB1.out⟩
theorem rHome_any (v : Value) (l : List Loan) (s : ByteArray) (fr to : Int) (w : World) (hv : LS w v l) (hm : l.length ≤ 1000) (hs : s.size ≤ maxLen) :
    Calls Try.prog 40 #[v, .string s, .int .i64 fr, .int .i64 to] w fun e w' => e = .returned (.tuple #[.int .i64 (homeV l s fr to), .int .i64 (dayE l s fr to)]) ∧ Below w.heap.size w w' := by
  have HD : Kp (Calls Try.prog 38 #[v, .string s, .int .i64 fr, .int .i64 to] w fun e w' => e = .returned (.tuple #[.int .i64 (dayV l s fr to), .int .i64 (dayE l s fr to)]) ∧ Below w.heap.size w w') := ⟨rDays_any v l s fr to w hv (by omega) hs⟩
  unfold homeV
  unfold dayV at HD
  have HZ : Kp (dayE l s fr to = 0 → validL l = true ∧ askE l s = 0 ∧ (0 ≤ fr ∧ fr ≤ 100000) ∧ (0 ≤ to ∧ to ≤ 100000) ∧ fr ≤ to) := ⟨dayE_zero⟩
  obtain ⟨E, hE⟩ : ∃ E, dayE l s fr to = E := ⟨_, rfl⟩
  rw [hE] at HD HZ ⊢
  obtain ⟨g, c, rfl⟩ := hv.shape
  by_cases hE0 : E = 0
  · subst hE0
    have hz := HZ.out rfl
    have hb := dayN_bd (l := l) s hz.2.2.1.1 hz.2.2.2.1.2
    rw [if_pos rfl]
    rw [if_pos rfl] at HD
    obtain ⟨n, hn⟩ : ∃ n, dayN l s fr to = n := ⟨_, rfl⟩
    obtain ⟨N, hN⟩ : ∃ N, l.length = N := ⟨_, rfl⟩
    rw [hn] at HD hb ⊢
    rw [hN] at HD hb hm ⊢
    have w1 : IntKind.i64.wrap (to - fr) = to - fr := IntWalk.i64_in _ (by omega)
    have w2 : IntKind.i64.wrap (to - fr - n) = to - fr - n := IntWalk.i64_in _ (by omega)
    clear hv hm hs hE hz hb hn hN HZ
    go_enter Try.func40, Try.ntmps40
    go_wp2_with fail
    refine HD.out.mono ?_
    rintro en w1 ⟨rfl, hb1⟩
    have HB1 := Kp.mk hb1
    clear hb1
    go_wp2
    go_ret2
    exact ⟨rfl, HB1.out⟩
  · rw [if_neg hE0]
    rw [if_neg hE0] at HD
    have j1 : (E == (0 : Int)) = false := by simp [hE0]
    have j2 : (E != (0 : Int)) = true := by simp [hE0]
    obtain ⟨N, hN⟩ : ∃ N, l.length = N := ⟨_, rfl⟩
    rw [hN] at HD ⊢
    clear hv hm hs hE HZ hN
    go_enter Try.func40, Try.ntmps40
    go_wp2_with fail
    refine HD.out.mono ?_
    rintro en w1 ⟨rfl, hb1⟩
    have HB1 := Kp.mk hb1
    clear hb1
    go_wp2
    go_ret2
    exact ⟨rfl, HB1.out⟩
end Go.Proofs.Ytaofjomocefdkaa.Ln
