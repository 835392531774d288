/-
  THE WALK of the law LoanCharges.
-/
import Derived.Test.YtpngmdpiefagjaaLnRCharge
import Derived.Test.YtpngmdpiefagjaaLnChAny
import Derived.Test.YtpngmdpiefagjaaLnFit
import Derived.Test.YtpngmdpiefagjaaLnAwake
namespace Go.Proofs.Ytpngmdpiefagjaa.Ln
open Go Go.RowKit Go.Sort

theorem comI_part {f m t a b : Int} (h1 : f ≤ m) (h2 : m ≤ t) : comI f m a b + comI m t a b = comI f t a b := by
  unfold comI
  omega
theorem sum_part {E : Type} (f g h : E → Int) : ∀ (l : List E), (∀ x ∈ l, f x + g x = h x) → (l.map f).sum + (l.map g).sum = (l.map h).sum
  | [], _ => rfl
  | x :: l, hx => by
    have h1 := sum_part f g h l fun y hy => hx y (by simp [hy])
    have h2 := hx x (by simp)
    simp only [List.map_cons, List.sum_cons]
    omega
theorem chargeN_part (l : List Loan) (s : ByteArray) {f m t : Int} (p : Int) (h1 : f ≤ m) (h2 : m ≤ t) : chargeN l s f m p + chargeN l s m t p = chargeN l s f t p := by
  rw [chargeN_pay, chargeN_pay, chargeN_pay, ← Int.add_mul]
  congr 1
  unfold payN
  exact sum_part _ _ _ _ fun x _ => comI_part h1 h2
theorem chargeE_zero {l : List Loan} {s : ByteArray} {fr to pence : Int} (h : chargeE l s fr to pence = 0) : (validL l = true ∧ nameB s = true) ∧ ((0 ≤ fr ∧ fr ≤ 100000) ∧ (0 ≤ to ∧ to ≤ 100000) ∧ fr ≤ to) ∧ (0 ≤ pence ∧ pence ≤ 10000) := by
  obtain ⟨h1, h2, h3⟩ := chkE_zero h
  rw [Bool.and_eq_true, Bool.and_eq_true] at h3
  obtain ⟨a, b⟩ := allIn_two h3.1.1
  exact ⟨⟨h1, h2⟩, ⟨a, b, of_decide_eq_true h3.1.2⟩, allIn_one h3.2⟩
theorem chargeE_of {l : List Loan} {s : ByteArray} {a b pence : Int} (h : validL l = true ∧ nameB s = true) (h1 : 0 ≤ a) (h2 : b ≤ 100000) (h3 : a ≤ b) (hp : 0 ≤ pence ∧ pence ≤ 10000) : chargeE l s a b pence = 0 := by
  have e1 : allIn 0 100000 [a, b] = true := by unfold allIn; simp; omega
  have e2 : allIn 0 10000 [pence] = true := by unfold allIn; simp; omega
  unfold chargeE
  rw [h.1, h.2, e1, e2, decide_eq_true h3]
  rfl
theorem chargeN_bd {l : List Loan} (s : ByteArray) {fr to pence : Int} (hf : 0 ≤ fr) (ht : to ≤ 100000) (hp : 0 ≤ pence ∧ pence ≤ 10000) (hl : l.length ≤ 203) : 0 ≤ chargeN l s fr to pence ∧ chargeN l s fr to pence ≤ 100001 * 203 * 10000 := by
  rw [chargeN_pay]
  have h := payN_bd (l := l) s hf ht
  exact ⟨Int.mul_nonneg h.1 hp.1, Int.mul_le_mul (by omega) hp.2 hp.1 (by decide)⟩
set_option maxRecDepth 100000 in
set_option maxHeartbeats 8000000 in
theorem lawCharges_any (v : Value) (l : List Loan) (s : ByteArray) (fr mid to pence : Int) (w : World) (hv : LS w v l) (hm : l.length ≤ 9223372036854775807) (hs : s.size ≤ maxLen) :
    Calls Try.prog 11 #[v, .string s, .int .i64 fr, .int .i64 mid, .int .i64 to, .int .i64 pence] w fun e w' => e = .returned (.bool true) ∧ Below w.heap.size w w' := by
  have HF : Kp (Calls Try.prog 13 #[v] w fun e w' => e = .returned (.bool (fitB l)) ∧ Below w.heap.size w w') := ⟨fit_any v l w hv hm⟩
  have HAW : Kp (∀ W, Calls Try.prog 14 #[] W fun e w' => e = .returned (.bool true) ∧ Below W.heap.size W w') := ⟨fun W => awake_any W⟩
  have hls := hv
  obtain ⟨g, c, rfl⟩ := hv.shape
  obtain ⟨N, hN⟩ : ∃ N, l.length = N := ⟨_, rfl⟩
  rw [hN] at HF hls ⊢
  have hv2 : LS w (.slice g N c) l := hls
  obtain ⟨P, hP⟩ : ∃ P, decide (100 < s.size) = P := ⟨_, rfl⟩
  have i1 : decide ((100 : Int) < (s.size : Int)) = P := by rw [← hP]; exact decide_eq_decide.2 (by omega)
  cases hfit : fitB l with
  | false =>
    rw [hfit] at HF
    clear hv hm hs hls hv2 hN hP i1 hfit
    go_enter Try.func11, Try.ntmps11
    go_wp2_with fail
    refine (HF.out).mono ?_
    rintro en w1 ⟨rfl, hb⟩
    have HB1 : Kp (Below w.heap.size w w1) := ⟨hb⟩
    clear hb
    go_wp2_with fail
    refine (HAW.out _).mono ?_
    rintro en w2 ⟨rfl, hb⟩
    have HB2 : Kp (Below w.heap.size w w2) := ⟨HB1.out.trans (hb.mono HB1.out.size)⟩
    clear hb
    go_wp2
    go_ret
    exact ⟨rfl, HB2.out⟩
  | true =>
    rw [hfit] at HF
    have hlen := fit_len hfit
    have HCY : Kp (∀ W a b, Below w.heap.size w W → Calls Try.prog 49 #[.slice g N c, .string s, .int .i64 a, .int .i64 b, .int .i64 pence] W fun e w' => e = .returned (.tuple #[.int .i64 (chargeV l s a b pence), .int .i64 (chargeE l s a b pence)]) ∧ Below W.heap.size W w') := ⟨fun W a b hW => Charge_any _ l s a b pence W (hv2.below hW) (by omega) hs⟩
    have HRC : Kp (∀ W, Below w.heap.size w W → Calls Try.prog 50 #[.slice g N c, .string s, .int .i64 fr, .int .i64 to, .int .i64 pence] W fun e w' => e = .returned (.tuple #[.int .i64 (chargeV l s fr to pence), .int .i64 (chargeE l s fr to pence)]) ∧ Below W.heap.size W w') := ⟨fun W hW => rCharge_any _ l s fr to pence W (hv2.below hW) (by omega) hs⟩
    have HLN : Kp (l.length ≤ 203) := ⟨hlen⟩
    clear hs hls hv hv2 hN hP hfit hlen hm
    cases P with
    | true =>
      clear HCY HRC
      go_enter Try.func11, Try.ntmps11
      go_wp2_with fail
      refine (HF.out).mono ?_
      rintro en w1 ⟨rfl, hb⟩
      have HB1 : Kp (Below w.heap.size w w1) := ⟨hb⟩
      clear hb
      go_wp2_with fail
      refine (HAW.out _).mono ?_
      rintro en w2 ⟨rfl, hb⟩
      have HB2 : Kp (Below w.heap.size w w2) := ⟨HB1.out.trans (hb.mono HB1.out.size)⟩
      clear hb
      go_wp2
      go_ret
      exact ⟨rfl, HB2.out⟩
    | false =>
      have HCE := Kp.mk (HCY.out · fr to)
      obtain ⟨E, hE⟩ : ∃ E, chargeE l s fr to pence = E := ⟨_, rfl⟩
      obtain ⟨n, hn⟩ : ∃ n, chargeV l s fr to pence = n := ⟨_, rfl⟩
      have HE := Kp.mk hE
      have HNE := Kp.mk hn
      have k1 : (n != n) = false := by simp
      have k3 : (E != E) = false := by simp
      rw [hE, hn] at HRC HCE
      clear hE hn
      by_cases hE0 : E = 0
      · subst hE0
        have HZZ := Kp.mk (chargeE_zero HE.out)
        have HV0 : Kp (∀ a b, chargeE l s a b pence = 0 → chargeV l s a b pence = chargeN l s a b pence) := ⟨fun a b h => by unfold chargeV; rw [if_pos h]⟩
        have HN2 : Kp (chargeN l s fr to pence = n) := ⟨(HV0.out fr to HE.out).symm.trans HNE.out⟩
        obtain ⟨A, hA⟩ : ∃ A, decide (mid < fr) = A := ⟨_, rfl⟩
        obtain ⟨B, hB⟩ : ∃ B, decide (to < mid) = B := ⟨_, rfl⟩
        have HA := Kp.mk hA
        have HB := Kp.mk hB
        clear hA hB
        have i6 := HA.out
        have i7 := HB.out
        cases A with
        | true =>
          clear HCY HV0
          go_enter Try.func11, Try.ntmps11
          go_wp2_with fail
          refine (HF.out).mono ?_
          rintro en w1 ⟨rfl, hb⟩
          have HB1 : Kp (Below w.heap.size w w1) := ⟨hb⟩
          clear hb
          go_wp2_with fail
          refine (HCE.out _ HB1.out).mono ?_
          rintro en w2 ⟨rfl, hb⟩
          have HB2 : Kp (Below w.heap.size w w2) := ⟨HB1.out.trans (hb.mono HB1.out.size)⟩
          clear hb
          go_wp2_with fail
          refine (HRC.out _ HB2.out).mono ?_
          rintro en w3 ⟨rfl, hb⟩
          have HB3 : Kp (Below w.heap.size w w3) := ⟨HB2.out.trans (hb.mono HB2.out.size)⟩
          clear hb
          go_wp2_with fail
          refine (HAW.out _).mono ?_
          rintro en w4 ⟨rfl, hb⟩
          have HB4 : Kp (Below w.heap.size w w4) := ⟨HB3.out.trans (hb.mono HB3.out.size)⟩
          clear hb
          go_wp2
          go_ret
          exact ⟨rfl, HB4.out⟩
        | false =>
          cases B with
          | true =>
            clear HCY HV0
            go_enter Try.func11, Try.ntmps11
            go_wp2_with fail
            refine (HF.out).mono ?_
            rintro en w1 ⟨rfl, hb⟩
            have HB1 : Kp (Below w.heap.size w w1) := ⟨hb⟩
            clear hb
            go_wp2_with fail
            refine (HCE.out _ HB1.out).mono ?_
            rintro en w2 ⟨rfl, hb⟩
            have HB2 : Kp (Below w.heap.size w w2) := ⟨HB1.out.trans (hb.mono HB1.out.size)⟩
            clear hb
            go_wp2_with fail
            refine (HRC.out _ HB2.out).mono ?_
            rintro en w3 ⟨rfl, hb⟩
            have HB3 : Kp (Below w.heap.size w w3) := ⟨HB2.out.trans (hb.mono HB2.out.size)⟩
            clear hb
            go_wp2_with fail
            refine (HAW.out _).mono ?_
            rintro en w4 ⟨rfl, hb⟩
            have HB4 : Kp (Below w.heap.size w w4) := ⟨HB3.out.trans (hb.mono HB3.out.size)⟩
            clear hb
            go_wp2
            go_ret
            exact ⟨rfl, HB4.out⟩
          | false =>
            obtain ⟨x1, hx1⟩ : ∃ x, chargeN l s fr mid pence = x := ⟨_, rfl⟩
            obtain ⟨x2, hx2⟩ : ∃ x, chargeN l s mid to pence = x := ⟨_, rfl⟩
            have hmf : fr ≤ mid := by have := of_decide_eq_false HA.out; omega
            have hmt : mid ≤ to := by have := of_decide_eq_false HB.out; omega
            have w4 : IntKind.i64.wrap (x1 + x2) = n := by
              rw [← hx1, ← hx2, chargeN_part l s pence hmf hmt, HN2.out]
              have h := chargeN_bd (l := l) s HZZ.out.2.1.1.1 HZZ.out.2.1.2.1.2 HZZ.out.2.2 HLN.out
              rw [HN2.out] at h
              exact IntWalk.i64_in _ (by omega)
            have e1 : chargeE l s fr mid pence = 0 := chargeE_of HZZ.out.1 HZZ.out.2.1.1.1 (by have := HZZ.out.2.1; omega) hmf HZZ.out.2.2
            have e2 : chargeE l s mid to pence = 0 := chargeE_of HZZ.out.1 (by have := HZZ.out.2.1; omega) HZZ.out.2.1.2.1.2 hmt HZZ.out.2.2
            have k5 : (n == n) = true := by simp
            have HX1 : Kp (∀ W, Below w.heap.size w W → Calls Try.prog 49 #[.slice g N c, .string s, .int .i64 fr, .int .i64 mid, .int .i64 pence] W fun e w' => e = .returned (.tuple #[.int .i64 x1, .int .i64 0]) ∧ Below W.heap.size W w') := ⟨fun W hW => (HCY.out W fr mid hW).mono fun e w' ⟨q1, q2⟩ => ⟨by rw [q1, HV0.out _ _ e1, hx1, e1], q2⟩⟩
            have HX2 : Kp (∀ W, Below w.heap.size w W → Calls Try.prog 49 #[.slice g N c, .string s, .int .i64 mid, .int .i64 to, .int .i64 pence] W fun e w' => e = .returned (.tuple #[.int .i64 x2, .int .i64 0]) ∧ Below W.heap.size W w') := ⟨fun W hW => (HCY.out W mid to hW).mono fun e w' ⟨q1, q2⟩ => ⟨by rw [q1, HV0.out _ _ e2, hx2, e2], q2⟩⟩
            clear hx1 hx2 e1 e2 hmf hmt
            clear HCY HV0
            go_enter Try.func11, Try.ntmps11
            go_wp2_with fail
            refine (HF.out).mono ?_
            rintro en w1 ⟨rfl, hb⟩
            have HB1 : Kp (Below w.heap.size w w1) := ⟨hb⟩
            clear hb
            go_wp2_with fail
            refine (HCE.out _ HB1.out).mono ?_
            rintro en w2 ⟨rfl, hb⟩
            have HB2 : Kp (Below w.heap.size w w2) := ⟨HB1.out.trans (hb.mono HB1.out.size)⟩
            clear hb
            go_wp2_with fail
            refine (HRC.out _ HB2.out).mono ?_
            rintro en w3 ⟨rfl, hb⟩
            have HB3 : Kp (Below w.heap.size w w3) := ⟨HB2.out.trans (hb.mono HB2.out.size)⟩
            clear hb
            go_wp2_with fail
            refine (HX1.out _ HB3.out).mono ?_
            rintro en w4 ⟨rfl, hb⟩
            have HB4 : Kp (Below w.heap.size w w4) := ⟨HB3.out.trans (hb.mono HB3.out.size)⟩
            clear hb
            go_wp2_with fail
            refine (HX2.out _ HB4.out).mono ?_
            rintro en w5 ⟨rfl, hb⟩
            have HB5 : Kp (Below w.heap.size w w5) := ⟨HB4.out.trans (hb.mono HB4.out.size)⟩
            clear hb
            go_wp2_with fail
            refine (HAW.out _).mono ?_
            rintro en w6 ⟨rfl, hb⟩
            have HB6 : Kp (Below w.heap.size w w6) := ⟨HB5.out.trans (hb.mono HB5.out.size)⟩
            clear hb
            go_wp2
            go_ret
            exact ⟨rfl, HB6.out⟩
      · have j1 : (E == (0 : Int)) = false := by simp [hE0]
        have j2 : (E != (0 : Int)) = true := by simp [hE0]
        clear HCY
        go_enter Try.func11, Try.ntmps11
        go_wp2_with fail
        refine (HF.out).mono ?_
        rintro en w1 ⟨rfl, hb⟩
        have HB1 : Kp (Below w.heap.size w w1) := ⟨hb⟩
        clear hb
        go_wp2_with fail
        refine (HCE.out _ HB1.out).mono ?_
        rintro en w2 ⟨rfl, hb⟩
        have HB2 : Kp (Below w.heap.size w w2) := ⟨HB1.out.trans (hb.mono HB1.out.size)⟩
        clear hb
        go_wp2_with fail
        refine (HRC.out _ HB2.out).mono ?_
        rintro en w3 ⟨rfl, hb⟩
        have HB3 : Kp (Below w.heap.size w w3) := ⟨HB2.out.trans (hb.mono HB2.out.size)⟩
        clear hb
        go_wp2_with fail
        refine (HAW.out _).mono ?_
        rintro en w4 ⟨rfl, hb⟩
        have HB4 : Kp (Below w.heap.size w w4) := ⟨HB3.out.trans (hb.mono HB3.out.size)⟩
        clear hb
        go_wp2
        go_ret
        exact ⟨rfl, HB4.out⟩
end Go.Proofs.Ytpngmdpiefagjaa.Ln
