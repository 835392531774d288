/-
  THE WALK of the law LoanLists.
-/
import Derived.Test.YtpngmdpiefagjaaLnChosen
import Derived.Test.YtpngmdpiefagjaaLnFit
import Derived.Test.YtpngmdpiefagjaaLnAwake
namespace Go.Proofs.Ytpngmdpiefagjaa.Ln
open Go Go.RowKit Go.Sort

set_option maxRecDepth 100000 in
set_option maxHeartbeats 4000000 in
theorem lawLists_any (v : Value) (l : List Loan) (s t : ByteArray) (w : World) (hv : LS w v l) (hm : l.length ≤ 9223372036854775807) (hs : s.size ≤ maxLen) (ht : t.size ≤ maxLen) :
    Calls Try.prog 10 #[v, .string s, .string t] w fun e w' => e = .returned (.bool true) ∧ Below w.heap.size w w' := by
  have HF : Kp (Calls Try.prog 13 #[v] w fun e w' => e = .returned (.bool (fitB l)) ∧ Below w.heap.size w w') := ⟨fit_any v l w hv hm⟩
  have HAW : Kp (∀ W, Calls Try.prog 14 #[] W fun e w' => e = .returned (.bool true) ∧ Below W.heap.size W w') := ⟨fun W => awake_any W⟩
  have hls := hv
  obtain ⟨g, c, rfl⟩ := hv.shape
  obtain ⟨N, hN⟩ : ∃ N, l.length = N := ⟨_, rfl⟩
  rw [hN] at HF hls ⊢
  have hv2 : LS w (.slice g N c) l := hls
  obtain ⟨P, hP⟩ : ∃ P, decide (100 < s.size) = P := ⟨_, rfl⟩
  obtain ⟨Q, hQ⟩ : ∃ Q, decide (100 < t.size) = Q := ⟨_, rfl⟩
  have i1 : decide ((100 : Int) < (s.size : Int)) = P := by rw [← hP]; exact decide_eq_decide.2 (by omega)
  have i2 : decide ((100 : Int) < (t.size : Int)) = Q := by rw [← hQ]; exact decide_eq_decide.2 (by omega)
  cases hfit : fitB l with
  | false =>
    rw [hfit] at HF
    clear hv hm hs ht hls hv2 hN hP hQ i1 i2 hfit
    go_enter Try.func10, Try.ntmps10
    go_wp2_with fail
    refine HF.out.mono ?_
    rintro en w1 ⟨rfl, hb1⟩
    have HB1 := Kp.mk hb1
    clear hb1
    go_wp2_with fail
    refine (HAW.out _).mono ?_
    rintro en w2 ⟨rfl, hb2⟩
    have HB2 := Kp.mk (HB1.out.trans (hb2.mono HB1.out.size))
    clear hb2
    go_wp2
    go_ret
    exact ⟨rfl, HB2.out⟩
  | true =>
    rw [hfit] at HF
    have hlen := fit_len hfit
    have hO : Kp (∀ W, Below w.heap.size w W → Calls Try.prog 45 #[.slice g N c, .string s] W (LsPost W (askL (fun x => eqS x.p s) l s) (askE l s))) := ⟨fun W hW => Of_any _ l s W (hv2.below hW) (by omega) hs⟩
    have hRO : Kp (∀ W, Below w.heap.size w W → Calls Try.prog 46 #[.slice g N c, .string s] W (LsPost W (askL (fun x => eqS x.p s) l s) (askE l s))) := ⟨fun W hW => rOf_any _ l s W (hv2.below hW) (by omega) hs⟩
    have hT : Kp (∀ W, Below w.heap.size w W → Calls Try.prog 47 #[.slice g N c, .string t] W (LsPost W (askL (fun x => eqS x.t t) l t) (askE l t))) := ⟨fun W hW => To_any _ l t W (hv2.below hW) (by omega) ht⟩
    have hRT : Kp (∀ W, Below w.heap.size w W → Calls Try.prog 48 #[.slice g N c, .string t] W (LsPost W (askL (fun x => eqS x.t t) l t) (askE l t))) := ⟨fun W hW => rTo_any _ l t W (hv2.below hW) (by omega) ht⟩
    have HV1 : Kp (askE l s = 0 → validL (askL (fun x => eqS x.p s) l s) = true) := ⟨fun h => askL_valid _ h⟩
    have HV2 : Kp (askE l t = 0 → validL (askL (fun x => eqS x.t t) l t) = true) := ⟨fun h => askL_valid _ h⟩
    have HL1 : Kp ((askL (fun x => eqS x.p s) l s).length ≤ 1000) := ⟨Nat.le_trans (askL_len _ l s) (by omega)⟩
    have HL2 : Kp ((askL (fun x => eqS x.t t) l t).length ≤ 1000) := ⟨Nat.le_trans (askL_len _ l t) (by omega)⟩
    obtain ⟨L1, hL1⟩ : ∃ L, askL (fun x => eqS x.p s) l s = L := ⟨_, rfl⟩
    obtain ⟨L2, hL2⟩ : ∃ L, askL (fun x => eqS x.t t) l t = L := ⟨_, rfl⟩
    obtain ⟨E1, hE1⟩ : ∃ E, askE l s = E := ⟨_, rfl⟩
    obtain ⟨E2, hE2⟩ : ∃ E, askE l t = E := ⟨_, rfl⟩
    rw [hL1, hE1] at hO hRO HV1
    rw [hL2, hE2] at hT hRT HV2
    rw [hL1] at HL1
    rw [hL2] at HL2
    clear hL1 hL2 hE1 hE2 hm hs ht hls hv hv2 hN hP hQ hfit hlen
    cases P with
    | true =>
      go_enter Try.func10, Try.ntmps10
      go_wp2_with fail
      refine HF.out.mono ?_
      rintro en w1 ⟨rfl, hb1⟩
      have HB1 := Kp.mk hb1
      clear hb1
      go_wp2_with fail
      refine (HAW.out _).mono ?_
      rintro en w2 ⟨rfl, hb2⟩
      have HB2 := Kp.mk (HB1.out.trans (hb2.mono HB1.out.size))
      clear hb2
      go_wp2
      go_ret
      exact ⟨rfl, HB2.out⟩
    | false =>
      cases Q with
      | true =>
        go_enter Try.func10, Try.ntmps10
        go_wp2_with fail
        refine HF.out.mono ?_
        rintro en w1 ⟨rfl, hb1⟩
        have HB1 := Kp.mk hb1
        clear hb1
        go_wp2_with fail
        refine (HAW.out _).mono ?_
        rintro en w2 ⟨rfl, hb2⟩
        have HB2 := Kp.mk (HB1.out.trans (hb2.mono HB1.out.size))
        clear hb2
        go_wp2
        go_ret
        exact ⟨rfl, HB2.out⟩
      | false =>
        have k1 : (E1 == E1) = true := by simp
        have k2 : (E2 == E2) = true := by simp
        have HE1 : Kp ((E1 != 0) = false → validL L1 = true) := ⟨fun h => HV1.out (by simpa using h)⟩
        have HE2 : Kp ((E2 != 0) = false → validL L2 = true) := ⟨fun h => HV2.out (by simpa using h)⟩
        obtain ⟨B1, j1⟩ : ∃ B, (E1 != (0 : Int)) = B := ⟨_, rfl⟩
        obtain ⟨B2, j2⟩ : ∃ B, (E2 != (0 : Int)) = B := ⟨_, rfl⟩
        have n1 : (E1 == (0 : Int)) = !B1 := by rw [← j1]; simp [bne]
        have n2 : (E2 == (0 : Int)) = !B2 := by rw [← j2]; simp [bne]
        rw [j1] at HE1
        rw [j2] at HE2
        clear HV1 HV2
        cases B1 with
        | true =>
          cases B2 with
          | true =>
            go_enter Try.func10, Try.ntmps10
            go_wp2_with fail
            refine (HF.out).mono ?_
            rintro en w1 ⟨rfl, hb⟩
            have HB1 : Kp (Below w.heap.size w w1) := ⟨hb⟩
            clear hb
            go_wp2_with fail
            refine (hO.out _ HB1.out).mono ?_
            rintro en w2 ⟨u1, rfl, hu, hb⟩
            have hb2 := hb
            have HB2 : Kp (Below w.heap.size w w2) := ⟨HB1.out.trans (hb.mono HB1.out.size)⟩
            obtain ⟨g1, c1, rfl⟩ := hu.shape
            have HU1_2 := Kp.mk hu
            clear hu hb hb2
            go_wp2_with fail
            refine (hRO.out _ HB2.out).mono ?_
            rintro en w3 ⟨u2, rfl, hu, hb⟩
            have hb3 := hb
            have HB3 : Kp (Below w.heap.size w w3) := ⟨HB2.out.trans (hb.mono HB2.out.size)⟩
            have HU1_3 : Kp (LS w3 (.slice g1 L1.length c1) L1) := ⟨HU1_2.out.below hb⟩
            obtain ⟨g2, c2, rfl⟩ := hu.shape
            have HU2_3 := Kp.mk hu
            clear hu hb hb3
            go_wp2_with fail
            refine (hT.out _ HB3.out).mono ?_
            rintro en w4 ⟨u3, rfl, hu, hb⟩
            have hb4 := hb
            have HB4 : Kp (Below w.heap.size w w4) := ⟨HB3.out.trans (hb.mono HB3.out.size)⟩
            have HU1_4 : Kp (LS w4 (.slice g1 L1.length c1) L1) := ⟨HU1_3.out.below hb⟩
            have HU2_4 : Kp (LS w4 (.slice g2 L1.length c2) L1) := ⟨HU2_3.out.below hb⟩
            obtain ⟨g3, c3, rfl⟩ := hu.shape
            have HU3_4 := Kp.mk hu
            clear hu hb hb4
            go_wp2_with fail
            refine (hRT.out _ HB4.out).mono ?_
            rintro en w5 ⟨u4, rfl, hu, hb⟩
            have hb5 := hb
            have HB5 : Kp (Below w.heap.size w w5) := ⟨HB4.out.trans (hb.mono HB4.out.size)⟩
            have HU1_5 : Kp (LS w5 (.slice g1 L1.length c1) L1) := ⟨HU1_4.out.below hb⟩
            have HU2_5 : Kp (LS w5 (.slice g2 L1.length c2) L1) := ⟨HU2_4.out.below hb⟩
            have HU3_5 : Kp (LS w5 (.slice g3 L2.length c3) L2) := ⟨HU3_4.out.below hb⟩
            obtain ⟨g4, c4, rfl⟩ := hu.shape
            have HU4_5 := Kp.mk hu
            clear hu hb hb5
            go_wp2_with fail
            refine (same_loans _ _ L1 _ HL1.out HU1_5.out HU2_5.out).mono ?_
            rintro en w6 ⟨rfl, hb⟩
            have HB6 : Kp (Below w.heap.size w w6) := ⟨HB5.out.trans (hb.mono HB5.out.size)⟩
            have HU1_6 : Kp (LS w6 (.slice g1 L1.length c1) L1) := ⟨HU1_5.out.below hb⟩
            have HU2_6 : Kp (LS w6 (.slice g2 L1.length c2) L1) := ⟨HU2_5.out.below hb⟩
            have HU3_6 : Kp (LS w6 (.slice g3 L2.length c3) L2) := ⟨HU3_5.out.below hb⟩
            have HU4_6 : Kp (LS w6 (.slice g4 L2.length c4) L2) := ⟨HU4_5.out.below hb⟩
            clear hb
            go_wp2_with fail
            refine (same_loans _ _ L2 _ HL2.out HU3_6.out HU4_6.out).mono ?_
            rintro en w7 ⟨rfl, hb⟩
            have HB7 : Kp (Below w.heap.size w w7) := ⟨HB6.out.trans (hb.mono HB6.out.size)⟩
            have HU1_7 : Kp (LS w7 (.slice g1 L1.length c1) L1) := ⟨HU1_6.out.below hb⟩
            have HU2_7 : Kp (LS w7 (.slice g2 L1.length c2) L1) := ⟨HU2_6.out.below hb⟩
            have HU3_7 : Kp (LS w7 (.slice g3 L2.length c3) L2) := ⟨HU3_6.out.below hb⟩
            have HU4_7 : Kp (LS w7 (.slice g4 L2.length c4) L2) := ⟨HU4_6.out.below hb⟩
            clear hb
            go_wp2_with fail
            refine (HAW.out _).mono ?_
            rintro en w8 ⟨rfl, hb⟩
            have HB8 : Kp (Below w.heap.size w w8) := ⟨HB7.out.trans (hb.mono HB7.out.size)⟩
            clear hb
            go_wp2
            go_ret
            exact ⟨rfl, HB8.out⟩
          | false =>
            go_enter Try.func10, Try.ntmps10
            go_wp2_with fail
            refine (HF.out).mono ?_
            rintro en w1 ⟨rfl, hb⟩
            have HB1 : Kp (Below w.heap.size w w1) := ⟨hb⟩
            clear hb
            go_wp2_with fail
            refine (hO.out _ HB1.out).mono ?_
            rintro en w2 ⟨u1, rfl, hu, hb⟩
            have hb2 := hb
            have HB2 : Kp (Below w.heap.size w w2) := ⟨HB1.out.trans (hb.mono HB1.out.size)⟩
            obtain ⟨g1, c1, rfl⟩ := hu.shape
            have HU1_2 := Kp.mk hu
            clear hu hb hb2
            go_wp2_with fail
            refine (hRO.out _ HB2.out).mono ?_
            rintro en w3 ⟨u2, rfl, hu, hb⟩
            have hb3 := hb
            have HB3 : Kp (Below w.heap.size w w3) := ⟨HB2.out.trans (hb.mono HB2.out.size)⟩
            have HU1_3 : Kp (LS w3 (.slice g1 L1.length c1) L1) := ⟨HU1_2.out.below hb⟩
            obtain ⟨g2, c2, rfl⟩ := hu.shape
            have HU2_3 := Kp.mk hu
            clear hu hb hb3
            go_wp2_with fail
            refine (hT.out _ HB3.out).mono ?_
            rintro en w4 ⟨u3, rfl, hu, hb⟩
            have hb4 := hb
            have HB4 : Kp (Below w.heap.size w w4) := ⟨HB3.out.trans (hb.mono HB3.out.size)⟩
            have HU1_4 : Kp (LS w4 (.slice g1 L1.length c1) L1) := ⟨HU1_3.out.below hb⟩
            have HU2_4 : Kp (LS w4 (.slice g2 L1.length c2) L1) := ⟨HU2_3.out.below hb⟩
            obtain ⟨g3, c3, rfl⟩ := hu.shape
            have HU3_4 := Kp.mk hu
            clear hu hb hb4
            go_wp2_with fail
            refine (hRT.out _ HB4.out).mono ?_
            rintro en w5 ⟨u4, rfl, hu, hb⟩
            have hb5 := hb
            have HB5 : Kp (Below w.heap.size w w5) := ⟨HB4.out.trans (hb.mono HB4.out.size)⟩
            have HU1_5 : Kp (LS w5 (.slice g1 L1.length c1) L1) := ⟨HU1_4.out.below hb⟩
            have HU2_5 : Kp (LS w5 (.slice g2 L1.length c2) L1) := ⟨HU2_4.out.below hb⟩
            have HU3_5 : Kp (LS w5 (.slice g3 L2.length c3) L2) := ⟨HU3_4.out.below hb⟩
            obtain ⟨g4, c4, rfl⟩ := hu.shape
            have HU4_5 := Kp.mk hu
            clear hu hb hb5
            go_wp2_with fail
            refine (same_loans _ _ L1 _ HL1.out HU1_5.out HU2_5.out).mono ?_
            rintro en w6 ⟨rfl, hb⟩
            have HB6 : Kp (Below w.heap.size w w6) := ⟨HB5.out.trans (hb.mono HB5.out.size)⟩
            have HU1_6 : Kp (LS w6 (.slice g1 L1.length c1) L1) := ⟨HU1_5.out.below hb⟩
            have HU2_6 : Kp (LS w6 (.slice g2 L1.length c2) L1) := ⟨HU2_5.out.below hb⟩
            have HU3_6 : Kp (LS w6 (.slice g3 L2.length c3) L2) := ⟨HU3_5.out.below hb⟩
            have HU4_6 : Kp (LS w6 (.slice g4 L2.length c4) L2) := ⟨HU4_5.out.below hb⟩
            clear hb
            go_wp2_with fail
            refine (same_loans _ _ L2 _ HL2.out HU3_6.out HU4_6.out).mono ?_
            rintro en w7 ⟨rfl, hb⟩
            have HB7 : Kp (Below w.heap.size w w7) := ⟨HB6.out.trans (hb.mono HB6.out.size)⟩
            have HU1_7 : Kp (LS w7 (.slice g1 L1.length c1) L1) := ⟨HU1_6.out.below hb⟩
            have HU2_7 : Kp (LS w7 (.slice g2 L1.length c2) L1) := ⟨HU2_6.out.below hb⟩
            have HU3_7 : Kp (LS w7 (.slice g3 L2.length c3) L2) := ⟨HU3_6.out.below hb⟩
            have HU4_7 : Kp (LS w7 (.slice g4 L2.length c4) L2) := ⟨HU4_6.out.below hb⟩
            clear hb
            go_wp2_with fail
            refine (Valid_any _ L2 _ HU3_7.out (by have := HL2.out; omega)).mono ?_
            rw [HE2.out trivial]
            rintro en w8 ⟨rfl, hb⟩
            have HB8 : Kp (Below w.heap.size w w8) := ⟨HB7.out.trans (hb.mono HB7.out.size)⟩
            have HU1_8 : Kp (LS w8 (.slice g1 L1.length c1) L1) := ⟨HU1_7.out.below hb⟩
            have HU2_8 : Kp (LS w8 (.slice g2 L1.length c2) L1) := ⟨HU2_7.out.below hb⟩
            have HU3_8 : Kp (LS w8 (.slice g3 L2.length c3) L2) := ⟨HU3_7.out.below hb⟩
            have HU4_8 : Kp (LS w8 (.slice g4 L2.length c4) L2) := ⟨HU4_7.out.below hb⟩
            clear hb
            go_wp2_with fail
            refine (HAW.out _).mono ?_
            rintro en w9 ⟨rfl, hb⟩
            have HB9 : Kp (Below w.heap.size w w9) := ⟨HB8.out.trans (hb.mono HB8.out.size)⟩
            clear hb
            go_wp2
            go_ret
            exact ⟨rfl, HB9.out⟩
        | false =>
          cases B2 with
          | true =>
            go_enter Try.func10, Try.ntmps10
            go_wp2_with fail
            refine (HF.out).mono ?_
            rintro en w1 ⟨rfl, hb⟩
            have HB1 : Kp (Below w.heap.size w w1) := ⟨hb⟩
            clear hb
            go_wp2_with fail
            refine (hO.out _ HB1.out).mono ?_
            rintro en w2 ⟨u1, rfl, hu, hb⟩
            have hb2 := hb
            have HB2 : Kp (Below w.heap.size w w2) := ⟨HB1.out.trans (hb.mono HB1.out.size)⟩
            obtain ⟨g1, c1, rfl⟩ := hu.shape
            have HU1_2 := Kp.mk hu
            clear hu hb hb2
            go_wp2_with fail
            refine (hRO.out _ HB2.out).mono ?_
            rintro en w3 ⟨u2, rfl, hu, hb⟩
            have hb3 := hb
            have HB3 : Kp (Below w.heap.size w w3) := ⟨HB2.out.trans (hb.mono HB2.out.size)⟩
            have HU1_3 : Kp (LS w3 (.slice g1 L1.length c1) L1) := ⟨HU1_2.out.below hb⟩
            obtain ⟨g2, c2, rfl⟩ := hu.shape
            have HU2_3 := Kp.mk hu
            clear hu hb hb3
            go_wp2_with fail
            refine (hT.out _ HB3.out).mono ?_
            rintro en w4 ⟨u3, rfl, hu, hb⟩
            have hb4 := hb
            have HB4 : Kp (Below w.heap.size w w4) := ⟨HB3.out.trans (hb.mono HB3.out.size)⟩
            have HU1_4 : Kp (LS w4 (.slice g1 L1.length c1) L1) := ⟨HU1_3.out.below hb⟩
            have HU2_4 : Kp (LS w4 (.slice g2 L1.length c2) L1) := ⟨HU2_3.out.below hb⟩
            obtain ⟨g3, c3, rfl⟩ := hu.shape
            have HU3_4 := Kp.mk hu
            clear hu hb hb4
            go_wp2_with fail
            refine (hRT.out _ HB4.out).mono ?_
            rintro en w5 ⟨u4, rfl, hu, hb⟩
            have hb5 := hb
            have HB5 : Kp (Below w.heap.size w w5) := ⟨HB4.out.trans (hb.mono HB4.out.size)⟩
            have HU1_5 : Kp (LS w5 (.slice g1 L1.length c1) L1) := ⟨HU1_4.out.below hb⟩
            have HU2_5 : Kp (LS w5 (.slice g2 L1.length c2) L1) := ⟨HU2_4.out.below hb⟩
            have HU3_5 : Kp (LS w5 (.slice g3 L2.length c3) L2) := ⟨HU3_4.out.below hb⟩
            obtain ⟨g4, c4, rfl⟩ := hu.shape
            have HU4_5 := Kp.mk hu
            clear hu hb hb5
            go_wp2_with fail
            refine (same_loans _ _ L1 _ HL1.out HU1_5.out HU2_5.out).mono ?_
            rintro en w6 ⟨rfl, hb⟩
            have HB6 : Kp (Below w.heap.size w w6) := ⟨HB5.out.trans (hb.mono HB5.out.size)⟩
            have HU1_6 : Kp (LS w6 (.slice g1 L1.length c1) L1) := ⟨HU1_5.out.below hb⟩
            have HU2_6 : Kp (LS w6 (.slice g2 L1.length c2) L1) := ⟨HU2_5.out.below hb⟩
            have HU3_6 : Kp (LS w6 (.slice g3 L2.length c3) L2) := ⟨HU3_5.out.below hb⟩
            have HU4_6 : Kp (LS w6 (.slice g4 L2.length c4) L2) := ⟨HU4_5.out.below hb⟩
            clear hb
            go_wp2_with fail
            refine (same_loans _ _ L2 _ HL2.out HU3_6.out HU4_6.out).mono ?_
            rintro en w7 ⟨rfl, hb⟩
            have HB7 : Kp (Below w.heap.size w w7) := ⟨HB6.out.trans (hb.mono HB6.out.size)⟩
            have HU1_7 : Kp (LS w7 (.slice g1 L1.length c1) L1) := ⟨HU1_6.out.below hb⟩
            have HU2_7 : Kp (LS w7 (.slice g2 L1.length c2) L1) := ⟨HU2_6.out.below hb⟩
            have HU3_7 : Kp (LS w7 (.slice g3 L2.length c3) L2) := ⟨HU3_6.out.below hb⟩
            have HU4_7 : Kp (LS w7 (.slice g4 L2.length c4) L2) := ⟨HU4_6.out.below hb⟩
            clear hb
            go_wp2_with fail
            refine (Valid_any _ L1 _ HU1_7.out (by have := HL1.out; omega)).mono ?_
            rw [HE1.out trivial]
            rintro en w8 ⟨rfl, hb⟩
            have HB8 : Kp (Below w.heap.size w w8) := ⟨HB7.out.trans (hb.mono HB7.out.size)⟩
            have HU1_8 : Kp (LS w8 (.slice g1 L1.length c1) L1) := ⟨HU1_7.out.below hb⟩
            have HU2_8 : Kp (LS w8 (.slice g2 L1.length c2) L1) := ⟨HU2_7.out.below hb⟩
            have HU3_8 : Kp (LS w8 (.slice g3 L2.length c3) L2) := ⟨HU3_7.out.below hb⟩
            have HU4_8 : Kp (LS w8 (.slice g4 L2.length c4) L2) := ⟨HU4_7.out.below hb⟩
            clear hb
            go_wp2_with fail
            refine (HAW.out _).mono ?_
            rintro en w9 ⟨rfl, hb⟩
            have HB9 : Kp (Below w.heap.size w w9) := ⟨HB8.out.trans (hb.mono HB8.out.size)⟩
            clear hb
            go_wp2
            go_ret
            exact ⟨rfl, HB9.out⟩
          | false =>
            go_enter Try.func10, Try.ntmps10
            go_wp2_with fail
            refine (HF.out).mono ?_
            rintro en w1 ⟨rfl, hb⟩
            have HB1 : Kp (Below w.heap.size w w1) := ⟨hb⟩
            clear hb
            go_wp2_with fail
            refine (hO.out _ HB1.out).mono ?_
            rintro en w2 ⟨u1, rfl, hu, hb⟩
            have hb2 := hb
            have HB2 : Kp (Below w.heap.size w w2) := ⟨HB1.out.trans (hb.mono HB1.out.size)⟩
            obtain ⟨g1, c1, rfl⟩ := hu.shape
            have HU1_2 := Kp.mk hu
            clear hu hb hb2
            go_wp2_with fail
            refine (hRO.out _ HB2.out).mono ?_
            rintro en w3 ⟨u2, rfl, hu, hb⟩
            have hb3 := hb
            have HB3 : Kp (Below w.heap.size w w3) := ⟨HB2.out.trans (hb.mono HB2.out.size)⟩
            have HU1_3 : Kp (LS w3 (.slice g1 L1.length c1) L1) := ⟨HU1_2.out.below hb⟩
            obtain ⟨g2, c2, rfl⟩ := hu.shape
            have HU2_3 := Kp.mk hu
            clear hu hb hb3
            go_wp2_with fail
            refine (hT.out _ HB3.out).mono ?_
            rintro en w4 ⟨u3, rfl, hu, hb⟩
            have hb4 := hb
            have HB4 : Kp (Below w.heap.size w w4) := ⟨HB3.out.trans (hb.mono HB3.out.size)⟩
            have HU1_4 : Kp (LS w4 (.slice g1 L1.length c1) L1) := ⟨HU1_3.out.below hb⟩
            have HU2_4 : Kp (LS w4 (.slice g2 L1.length c2) L1) := ⟨HU2_3.out.below hb⟩
            obtain ⟨g3, c3, rfl⟩ := hu.shape
            have HU3_4 := Kp.mk hu
            clear hu hb hb4
            go_wp2_with fail
            refine (hRT.out _ HB4.out).mono ?_
            rintro en w5 ⟨u4, rfl, hu, hb⟩
            have hb5 := hb
            have HB5 : Kp (Below w.heap.size w w5) := ⟨HB4.out.trans (hb.mono HB4.out.size)⟩
            have HU1_5 : Kp (LS w5 (.slice g1 L1.length c1) L1) := ⟨HU1_4.out.below hb⟩
            have HU2_5 : Kp (LS w5 (.slice g2 L1.length c2) L1) := ⟨HU2_4.out.below hb⟩
            have HU3_5 : Kp (LS w5 (.slice g3 L2.length c3) L2) := ⟨HU3_4.out.below hb⟩
            obtain ⟨g4, c4, rfl⟩ := hu.shape
            have HU4_5 := Kp.mk hu
            clear hu hb hb5
            go_wp2_with fail
            refine (same_loans _ _ L1 _ HL1.out HU1_5.out HU2_5.out).mono ?_
            rintro en w6 ⟨rfl, hb⟩
            have HB6 : Kp (Below w.heap.size w w6) := ⟨HB5.out.trans (hb.mono HB5.out.size)⟩
            have HU1_6 : Kp (LS w6 (.slice g1 L1.length c1) L1) := ⟨HU1_5.out.below hb⟩
            have HU2_6 : Kp (LS w6 (.slice g2 L1.length c2) L1) := ⟨HU2_5.out.below hb⟩
            have HU3_6 : Kp (LS w6 (.slice g3 L2.length c3) L2) := ⟨HU3_5.out.below hb⟩
            have HU4_6 : Kp (LS w6 (.slice g4 L2.length c4) L2) := ⟨HU4_5.out.below hb⟩
            clear hb
            go_wp2_with fail
            refine (same_loans _ _ L2 _ HL2.out HU3_6.out HU4_6.out).mono ?_
            rintro en w7 ⟨rfl, hb⟩
            have HB7 : Kp (Below w.heap.size w w7) := ⟨HB6.out.trans (hb.mono HB6.out.size)⟩
            have HU1_7 : Kp (LS w7 (.slice g1 L1.length c1) L1) := ⟨HU1_6.out.below hb⟩
            have HU2_7 : Kp (LS w7 (.slice g2 L1.length c2) L1) := ⟨HU2_6.out.below hb⟩
            have HU3_7 : Kp (LS w7 (.slice g3 L2.length c3) L2) := ⟨HU3_6.out.below hb⟩
            have HU4_7 : Kp (LS w7 (.slice g4 L2.length c4) L2) := ⟨HU4_6.out.below hb⟩
            clear hb
            go_wp2_with fail
            refine (Valid_any _ L1 _ HU1_7.out (by have := HL1.out; omega)).mono ?_
            rw [HE1.out trivial]
            rintro en w8 ⟨rfl, hb⟩
            have HB8 : Kp (Below w.heap.size w w8) := ⟨HB7.out.trans (hb.mono HB7.out.size)⟩
            have HU1_8 : Kp (LS w8 (.slice g1 L1.length c1) L1) := ⟨HU1_7.out.below hb⟩
            have HU2_8 : Kp (LS w8 (.slice g2 L1.length c2) L1) := ⟨HU2_7.out.below hb⟩
            have HU3_8 : Kp (LS w8 (.slice g3 L2.length c3) L2) := ⟨HU3_7.out.below hb⟩
            have HU4_8 : Kp (LS w8 (.slice g4 L2.length c4) L2) := ⟨HU4_7.out.below hb⟩
            clear hb
            go_wp2_with fail
            refine (Valid_any _ L2 _ HU3_8.out (by have := HL2.out; omega)).mono ?_
            rw [HE2.out trivial]
            rintro en w9 ⟨rfl, hb⟩
            have HB9 : Kp (Below w.heap.size w w9) := ⟨HB8.out.trans (hb.mono HB8.out.size)⟩
            have HU1_9 : Kp (LS w9 (.slice g1 L1.length c1) L1) := ⟨HU1_8.out.below hb⟩
            have HU2_9 : Kp (LS w9 (.slice g2 L1.length c2) L1) := ⟨HU2_8.out.below hb⟩
            have HU3_9 : Kp (LS w9 (.slice g3 L2.length c3) L2) := ⟨HU3_8.out.below hb⟩
            have HU4_9 : Kp (LS w9 (.slice g4 L2.length c4) L2) := ⟨HU4_8.out.below hb⟩
            clear hb
            go_wp2_with fail
            refine (HAW.out _).mono ?_
            rintro en w10 ⟨rfl, hb⟩
            have HB10 : Kp (Below w.heap.size w w10) := ⟨HB9.out.trans (hb.mono HB9.out.size)⟩
            clear hb
            go_wp2
            go_ret
            exact ⟨rfl, HB10.out⟩
end Go.Proofs.Ytpngmdpiefagjaa.Ln
