/-
  THE WALK of the law LoanBacks.
-/
import Derived.Test.YtaofjomocefdkaaLnBack
import Derived.Test.YtaofjomocefdkaaLnFit
import Derived.Test.YtaofjomocefdkaaLnAwake
namespace Go.Proofs.Ytaofjomocefdkaa.Ln
open Go Go.RowKit Go.Sort

theorem chgL_len (l : List Loan) (s : ByteArray) (d : Int) (ok : Loan → Bool) (ch : Loan → Loan) : (chgL l s d ok ch).length ≤ l.length := by
  by_cases h : chgE l s d ok = 0
  · obtain ⟨-, i, x, -, -, -, he⟩ := chg_zero ch h
    rw [he, List.length_set]
    exact Nat.le_refl _
  · by_cases h0 : whE l s d = 0
    · cases hf : l.findIdx? (openB s) with
      | none => rw [(chg_none h0 hf).2]; simp
      | some i =>
        obtain ⟨hi, hq, -⟩ := List.findIdx?_eq_some_iff_getElem.1 hf
        have hx : l[i]? = some l[i] := List.getElem?_eq_getElem hi
        cases hk : ok l[i] with
        | false => rw [(chg_no h0 hf hx hk).2]; simp
        | true => exact absurd (chg_yes (ch := ch) h0 hf hx hk).1 h
    · rw [(chg_err h0).2]; simp
set_option maxRecDepth 100000 in
set_option maxHeartbeats 4000000 in
theorem lawBacks_small (v : Value) (l : List Loan) (s : ByteArray) (d du : Int) (w : World) (hv : LS w v l) (hm : l.length ≤ 9223372036854775807) (hsm : fitB l = false ∨ 100 < s.size) :
    Calls Try.prog 6 #[v, .string s, .int .i64 d, .int .i64 du] w fun e w' => e = .returned (.bool true) ∧ Below w.heap.size w w' := by
  have HF : Kp (Calls Try.prog 13 #[v] w fun e w' => e = .returned (.bool (fitB l)) ∧ Below w.heap.size w w') := ⟨fit_any v l w hv hm⟩
  have HAW : Kp (∀ W, Calls Try.prog 14 #[] W fun e w' => e = .returned (.bool true) ∧ Below W.heap.size W w') := ⟨fun W => awake_any W⟩
  obtain ⟨g, c, rfl⟩ := hv.shape
  obtain ⟨N, hN⟩ : ∃ N, l.length = N := ⟨_, rfl⟩
  rw [hN] at HF ⊢
  obtain ⟨P, hP⟩ : ∃ P, decide (100 < s.size) = P := ⟨_, rfl⟩
  have i1 : decide ((100 : Int) < (s.size : Int)) = P := by rw [← hP]; exact decide_eq_decide.2 (by omega)
  have hPT : fitB l = false ∨ P = true := hsm.imp id fun h => by rw [← hP]; exact decide_eq_true h
  cases hfit : fitB l
  all_goals
    rw [hfit] at HF hPT
    first
      | (have hp2 : P = true := by simpa using hPT
         subst hp2)
      | skip
    clear hv hm hN hP hfit hsm hPT
    go_enter Try.func6, Try.ntmps6
    go_wp2_with fail
    refine HF.out.mono ?_
    rintro en w1 ⟨rfl, hb1⟩
    have HB1 := Kp.mk hb1
    clear hb1
    go_wp2_with fail
    refine (HAW.out _).mono ?_
    rintro en w2 ⟨rfl, hb2⟩
    have HB2 := Kp.mk (HB1.out.trans (hb2.mono HB1.out.size))
    clear hb2
    go_wp2
    go_ret
    exact ⟨rfl, HB2.out⟩
set_option maxRecDepth 100000 in
set_option maxHeartbeats 4000000 in
theorem lawBacks_big (v : Value) (l : List Loan) (s : ByteArray) (d du : Int) (w : World) (hv : LS w v l) (hm : l.length ≤ 9223372036854775807) (hs : s.size ≤ maxLen) (hfit : fitB l = true) (hsz : ¬ 100 < s.size) :
    Calls Try.prog 6 #[v, .string s, .int .i64 d, .int .i64 du] w fun e w' => e = .returned (.bool true) ∧ Below w.heap.size w w' := by
  have HF : Kp (Calls Try.prog 13 #[v] w fun e w' => e = .returned (.bool (fitB l)) ∧ Below w.heap.size w w') := ⟨fit_any v l w hv hm⟩
  have HAW : Kp (∀ W, Calls Try.prog 14 #[] W fun e w' => e = .returned (.bool true) ∧ Below W.heap.size W w') := ⟨fun W => awake_any W⟩
  rw [hfit] at HF
  have hlen := fit_len hfit
  have hA : Kp (∀ W, Below w.heap.size w W → Calls Try.prog 33 #[v, .string s, .int .i64 d] W (LsPost W (chgL l s d (backOk d) (backL d)) (chgE l s d (backOk d)))) := ⟨fun W hW => Back_any _ l s d W (hv.below hW) (by omega) hs⟩
  have hRA : Kp (∀ W, Below w.heap.size w W → Calls Try.prog 34 #[v, .string s, .int .i64 d] W (LsPost W (chgL l s d (backOk d) (backL d)) (chgE l s d (backOk d)))) := ⟨fun W hW => rBack_any _ l s d W (hv.below hW) (by omega) hs⟩
  have hC : Kp (∀ W, Below w.heap.size w W → Calls Try.prog 35 #[v, .string s, .int .i64 du] W (LsPost W (chgL l s du (dueOk du) (dueL du)) (chgE l s du (dueOk du)))) := ⟨fun W hW => Renew_any _ l s du W (hv.below hW) (by omega) hs⟩
  have hRC : Kp (∀ W, Below w.heap.size w W → Calls Try.prog 36 #[v, .string s, .int .i64 du] W (LsPost W (chgL l s du (dueOk du) (dueL du)) (chgE l s du (dueOk du)))) := ⟨fun W hW => rRenew_any _ l s du W (hv.below hW) (by omega) hs⟩
  have HL1 : Kp ((chgL l s d (backOk d) (backL d)).length ≤ 1000) := ⟨Nat.le_trans (chgL_len _ _ _ _ _) (by omega)⟩
  have HL2 : Kp ((chgL l s du (dueOk du) (dueL du)).length ≤ 1000) := ⟨Nat.le_trans (chgL_len _ _ _ _ _) (by omega)⟩
  have HV1 : Kp (chgE l s d (backOk d) = 0 → validL (chgL l s d (backOk d) (backL d)) = true) := ⟨back_valid⟩
  have HV2 : Kp (chgE l s du (dueOk du) = 0 → validL (chgL l s du (dueOk du) (dueL du)) = true) := ⟨due_valid⟩
  have HBW : Kp (chgE l s d (backOk d) = 0 → (whE (chgL l s d (backOk d) (backL d)) s d = 0 ∧ whV (chgL l s d (backOk d) (backL d)) s d = ⟨#[]⟩) ∧ (whE (chgL l s d (backOk d) (backL d)) s (d - 1) = 0 ∧ ∃ c cs, (whV (chgL l s d (backOk d) (backL d)) s (d - 1)).toList = c :: cs) ∧ (0 ≤ d ∧ d ≤ 100000)) := ⟨back_where⟩
  have i1 : decide ((100 : Int) < (s.size : Int)) = false := decide_eq_false (by omega)
  have hss : Kp (s.size ≤ maxLen) := ⟨hs⟩
  obtain ⟨L1, hL1⟩ : ∃ L, chgL l s d (backOk d) (backL d) = L := ⟨_, rfl⟩
  obtain ⟨L2, hL2⟩ : ∃ L, chgL l s du (dueOk du) (dueL du) = L := ⟨_, rfl⟩
  obtain ⟨E, hE⟩ : ∃ E, chgE l s d (backOk d) = E := ⟨_, rfl⟩
  obtain ⟨G, hG⟩ : ∃ E, chgE l s du (dueOk du) = E := ⟨_, rfl⟩
  rw [hL1, hE] at hA hRA HV1 HBW
  rw [hL2, hG] at hC hRC HV2
  rw [hL1] at HL1
  rw [hL2] at HL2
  have k1 : (E == E) = true := by simp
  have k2 : (G == G) = true := by simp
  obtain ⟨g, c, rfl⟩ := hv.shape
  obtain ⟨N, hN⟩ : ∃ N, l.length = N := ⟨_, rfl⟩
  rw [hN] at HF hA hRA hC hRC ⊢
  clear hv hm hs hfit hsz hlen hL1 hL2 hE hG hN
  by_cases h1 : E = 0
  · subst h1
    have HE1 := Kp.mk (HV1.out rfl)
    have HW := Kp.mk (HBW.out rfl)
    obtain ⟨cc, cs, hcc⟩ := HW.out.2.1.2
    obtain ⟨r, hr⟩ : ∃ r, whV L1 s (d - 1) = r := ⟨_, rfl⟩
    have HR := Kp.mk hr
    rw [hr] at hcc
    have w1 : IntKind.i64.wrap (d - 1) = d - 1 := IntWalk.i64_in _ (by have := HW.out.2.2; omega)
    clear HV1 HBW hr
    by_cases h2 : G = 0
    · subst h2
      have HE2 := Kp.mk (HV2.out rfl)
      clear HV2
      go_enter Try.func6, Try.ntmps6
      go_wp2_with fail
      refine (HF.out).mono ?_
      rintro en w1 ⟨rfl, hb⟩
      have HB1 : Kp (Below w.heap.size w w1) := ⟨hb⟩
      clear hb
      go_wp2_with fail
      refine (hA.out _ HB1.out).mono ?_
      rintro en w2 ⟨u1, rfl, hu, hb⟩
      have HB2 : Kp (Below w.heap.size w w2) := ⟨HB1.out.trans (hb.mono HB1.out.size)⟩
      obtain ⟨g1, c1, rfl⟩ := hu.shape
      have HU1_2 := Kp.mk hu
      clear hu hb
      go_wp2_with fail
      refine (hRA.out _ HB2.out).mono ?_
      rintro en w3 ⟨u2, rfl, hu, hb⟩
      have HB3 : Kp (Below w.heap.size w w3) := ⟨HB2.out.trans (hb.mono HB2.out.size)⟩
      have HU1_3 : Kp (LS w3 (.slice g1 L1.length c1) L1) := ⟨HU1_2.out.below hb⟩
      obtain ⟨g2, c2, rfl⟩ := hu.shape
      have HU2_3 := Kp.mk hu
      clear hu hb
      go_wp2_with fail
      refine (hC.out _ HB3.out).mono ?_
      rintro en w4 ⟨u3, rfl, hu, hb⟩
      have HB4 : Kp (Below w.heap.size w w4) := ⟨HB3.out.trans (hb.mono HB3.out.size)⟩
      have HU1_4 : Kp (LS w4 (.slice g1 L1.length c1) L1) := ⟨HU1_3.out.below hb⟩
      have HU2_4 : Kp (LS w4 (.slice g2 L1.length c2) L1) := ⟨HU2_3.out.below hb⟩
      obtain ⟨g3, c3, rfl⟩ := hu.shape
      have HU3_4 := Kp.mk hu
      clear hu hb
      go_wp2_with fail
      refine (hRC.out _ HB4.out).mono ?_
      rintro en w5 ⟨u4, rfl, hu, hb⟩
      have HB5 : Kp (Below w.heap.size w w5) := ⟨HB4.out.trans (hb.mono HB4.out.size)⟩
      have HU1_5 : Kp (LS w5 (.slice g1 L1.length c1) L1) := ⟨HU1_4.out.below hb⟩
      have HU2_5 : Kp (LS w5 (.slice g2 L1.length c2) L1) := ⟨HU2_4.out.below hb⟩
      have HU3_5 : Kp (LS w5 (.slice g3 L2.length c3) L2) := ⟨HU3_4.out.below hb⟩
      obtain ⟨g4, c4, rfl⟩ := hu.shape
      have HU4_5 := Kp.mk hu
      clear hu hb
      go_wp2_with fail
      refine (same_loans _ _ L1 _ HL1.out HU1_5.out HU2_5.out).mono ?_
      rintro en w6 ⟨rfl, hb⟩
      have HB6 : Kp (Below w.heap.size w w6) := ⟨HB5.out.trans (hb.mono HB5.out.size)⟩
      have HU1_6 : Kp (LS w6 (.slice g1 L1.length c1) L1) := ⟨HU1_5.out.below hb⟩
      have HU2_6 : Kp (LS w6 (.slice g2 L1.length c2) L1) := ⟨HU2_5.out.below hb⟩
      have HU3_6 : Kp (LS w6 (.slice g3 L2.length c3) L2) := ⟨HU3_5.out.below hb⟩
      have HU4_6 : Kp (LS w6 (.slice g4 L2.length c4) L2) := ⟨HU4_5.out.below hb⟩
      clear hb
      go_wp2_with fail
      refine (same_loans _ _ L2 _ HL2.out HU3_6.out HU4_6.out).mono ?_
      rintro en w7 ⟨rfl, hb⟩
      have HB7 : Kp (Below w.heap.size w w7) := ⟨HB6.out.trans (hb.mono HB6.out.size)⟩
      have HU1_7 : Kp (LS w7 (.slice g1 L1.length c1) L1) := ⟨HU1_6.out.below hb⟩
      have HU2_7 : Kp (LS w7 (.slice g2 L1.length c2) L1) := ⟨HU2_6.out.below hb⟩
      have HU3_7 : Kp (LS w7 (.slice g3 L2.length c3) L2) := ⟨HU3_6.out.below hb⟩
      have HU4_7 : Kp (LS w7 (.slice g4 L2.length c4) L2) := ⟨HU4_6.out.below hb⟩
      clear hb
      go_wp2_with fail
      refine (Valid_any _ L1 _ HU1_7.out (by have := HL1.out; omega)).mono ?_
      rw [HE1.out]
      rintro en w8 ⟨rfl, hb⟩
      have HB8 : Kp (Below w.heap.size w w8) := ⟨HB7.out.trans (hb.mono HB7.out.size)⟩
      have HU1_8 : Kp (LS w8 (.slice g1 L1.length c1) L1) := ⟨HU1_7.out.below hb⟩
      have HU2_8 : Kp (LS w8 (.slice g2 L1.length c2) L1) := ⟨HU2_7.out.below hb⟩
      have HU3_8 : Kp (LS w8 (.slice g3 L2.length c3) L2) := ⟨HU3_7.out.below hb⟩
      have HU4_8 : Kp (LS w8 (.slice g4 L2.length c4) L2) := ⟨HU4_7.out.below hb⟩
      clear hb
      go_wp2_with fail
      refine (Valid_any _ L2 _ HU3_8.out (by have := HL2.out; omega)).mono ?_
      rw [HE2.out]
      rintro en w9 ⟨rfl, hb⟩
      have HB9 : Kp (Below w.heap.size w w9) := ⟨HB8.out.trans (hb.mono HB8.out.size)⟩
      have HU1_9 : Kp (LS w9 (.slice g1 L1.length c1) L1) := ⟨HU1_8.out.below hb⟩
      have HU2_9 : Kp (LS w9 (.slice g2 L1.length c2) L1) := ⟨HU2_8.out.below hb⟩
      have HU3_9 : Kp (LS w9 (.slice g3 L2.length c3) L2) := ⟨HU3_8.out.below hb⟩
      have HU4_9 : Kp (LS w9 (.slice g4 L2.length c4) L2) := ⟨HU4_8.out.below hb⟩
      clear hb
      go_wp2_with fail
      refine (WhereV_any _ L1 s d _ HU1_9.out (by have := HL1.out; omega) hss.out).mono ?_
      rw [HW.out.1.1, HW.out.1.2]
      rintro en w10 ⟨rfl, hb⟩
      have HB10 : Kp (Below w.heap.size w w10) := ⟨HB9.out.trans (hb.mono HB9.out.size)⟩
      have HU1_10 : Kp (LS w10 (.slice g1 L1.length c1) L1) := ⟨HU1_9.out.below hb⟩
      have HU2_10 : Kp (LS w10 (.slice g2 L1.length c2) L1) := ⟨HU2_9.out.below hb⟩
      have HU3_10 : Kp (LS w10 (.slice g3 L2.length c3) L2) := ⟨HU3_9.out.below hb⟩
      have HU4_10 : Kp (LS w10 (.slice g4 L2.length c4) L2) := ⟨HU4_9.out.below hb⟩
      clear hb
      go_wp2_with fail
      refine (WhereV_any _ L1 s (d - 1) _ HU1_10.out (by have := HL1.out; omega) hss.out).mono ?_
      rw [HW.out.2.1.1, HR.out]
      rintro en w11 ⟨rfl, hb⟩
      have HB11 : Kp (Below w.heap.size w w11) := ⟨HB10.out.trans (hb.mono HB10.out.size)⟩
      have HU1_11 : Kp (LS w11 (.slice g1 L1.length c1) L1) := ⟨HU1_10.out.below hb⟩
      have HU2_11 : Kp (LS w11 (.slice g2 L1.length c2) L1) := ⟨HU2_10.out.below hb⟩
      have HU3_11 : Kp (LS w11 (.slice g3 L2.length c3) L2) := ⟨HU3_10.out.below hb⟩
      have HU4_11 : Kp (LS w11 (.slice g4 L2.length c4) L2) := ⟨HU4_10.out.below hb⟩
      clear hb
      go_wp2_with fail
      refine (HAW.out _).mono ?_
      rintro en w12 ⟨rfl, hb⟩
      have HB12 : Kp (Below w.heap.size w w12) := ⟨HB11.out.trans (hb.mono HB11.out.size)⟩
      clear hb
      go_wp2
      go_ret
      exact ⟨rfl, HB12.out⟩
    · have j3 : (G == (0 : Int)) = false := by simp [h2]
      have j4 : (G != (0 : Int)) = true := by simp [h2]
      clear HV2 h2
      go_enter Try.func6, Try.ntmps6
      go_wp2_with fail
      refine (HF.out).mono ?_
      rintro en w1 ⟨rfl, hb⟩
      have HB1 : Kp (Below w.heap.size w w1) := ⟨hb⟩
      clear hb
      go_wp2_with fail
      refine (hA.out _ HB1.out).mono ?_
      rintro en w2 ⟨u1, rfl, hu, hb⟩
      have HB2 : Kp (Below w.heap.size w w2) := ⟨HB1.out.trans (hb.mono HB1.out.size)⟩
      obtain ⟨g1, c1, rfl⟩ := hu.shape
      have HU1_2 := Kp.mk hu
      clear hu hb
      go_wp2_with fail
      refine (hRA.out _ HB2.out).mono ?_
      rintro en w3 ⟨u2, rfl, hu, hb⟩
      have HB3 : Kp (Below w.heap.size w w3) := ⟨HB2.out.trans (hb.mono HB2.out.size)⟩
      have HU1_3 : Kp (LS w3 (.slice g1 L1.length c1) L1) := ⟨HU1_2.out.below hb⟩
      obtain ⟨g2, c2, rfl⟩ := hu.shape
      have HU2_3 := Kp.mk hu
      clear hu hb
      go_wp2_with fail
      refine (hC.out _ HB3.out).mono ?_
      rintro en w4 ⟨u3, rfl, hu, hb⟩
      have HB4 : Kp (Below w.heap.size w w4) := ⟨HB3.out.trans (hb.mono HB3.out.size)⟩
      have HU1_4 : Kp (LS w4 (.slice g1 L1.length c1) L1) := ⟨HU1_3.out.below hb⟩
      have HU2_4 : Kp (LS w4 (.slice g2 L1.length c2) L1) := ⟨HU2_3.out.below hb⟩
      obtain ⟨g3, c3, rfl⟩ := hu.shape
      have HU3_4 := Kp.mk hu
      clear hu hb
      go_wp2_with fail
      refine (hRC.out _ HB4.out).mono ?_
      rintro en w5 ⟨u4, rfl, hu, hb⟩
      have HB5 : Kp (Below w.heap.size w w5) := ⟨HB4.out.trans (hb.mono HB4.out.size)⟩
      have HU1_5 : Kp (LS w5 (.slice g1 L1.length c1) L1) := ⟨HU1_4.out.below hb⟩
      have HU2_5 : Kp (LS w5 (.slice g2 L1.length c2) L1) := ⟨HU2_4.out.below hb⟩
      have HU3_5 : Kp (LS w5 (.slice g3 L2.length c3) L2) := ⟨HU3_4.out.below hb⟩
      obtain ⟨g4, c4, rfl⟩ := hu.shape
      have HU4_5 := Kp.mk hu
      clear hu hb
      go_wp2_with fail
      refine (same_loans _ _ L1 _ HL1.out HU1_5.out HU2_5.out).mono ?_
      rintro en w6 ⟨rfl, hb⟩
      have HB6 : Kp (Below w.heap.size w w6) := ⟨HB5.out.trans (hb.mono HB5.out.size)⟩
      have HU1_6 : Kp (LS w6 (.slice g1 L1.length c1) L1) := ⟨HU1_5.out.below hb⟩
      have HU2_6 : Kp (LS w6 (.slice g2 L1.length c2) L1) := ⟨HU2_5.out.below hb⟩
      have HU3_6 : Kp (LS w6 (.slice g3 L2.length c3) L2) := ⟨HU3_5.out.below hb⟩
      have HU4_6 : Kp (LS w6 (.slice g4 L2.length c4) L2) := ⟨HU4_5.out.below hb⟩
      clear hb
      go_wp2_with fail
      refine (same_loans _ _ L2 _ HL2.out HU3_6.out HU4_6.out).mono ?_
      rintro en w7 ⟨rfl, hb⟩
      have HB7 : Kp (Below w.heap.size w w7) := ⟨HB6.out.trans (hb.mono HB6.out.size)⟩
      have HU1_7 : Kp (LS w7 (.slice g1 L1.length c1) L1) := ⟨HU1_6.out.below hb⟩
      have HU2_7 : Kp (LS w7 (.slice g2 L1.length c2) L1) := ⟨HU2_6.out.below hb⟩
      have HU3_7 : Kp (LS w7 (.slice g3 L2.length c3) L2) := ⟨HU3_6.out.below hb⟩
      have HU4_7 : Kp (LS w7 (.slice g4 L2.length c4) L2) := ⟨HU4_6.out.below hb⟩
      clear hb
      go_wp2_with fail
      refine (Valid_any _ L1 _ HU1_7.out (by have := HL1.out; omega)).mono ?_
      rw [HE1.out]
      rintro en w8 ⟨rfl, hb⟩
      have HB8 : Kp (Below w.heap.size w w8) := ⟨HB7.out.trans (hb.mono HB7.out.size)⟩
      have HU1_8 : Kp (LS w8 (.slice g1 L1.length c1) L1) := ⟨HU1_7.out.below hb⟩
      have HU2_8 : Kp (LS w8 (.slice g2 L1.length c2) L1) := ⟨HU2_7.out.below hb⟩
      have HU3_8 : Kp (LS w8 (.slice g3 L2.length c3) L2) := ⟨HU3_7.out.below hb⟩
      have HU4_8 : Kp (LS w8 (.slice g4 L2.length c4) L2) := ⟨HU4_7.out.below hb⟩
      clear hb
      go_wp2_with fail
      refine (WhereV_any _ L1 s d _ HU1_8.out (by have := HL1.out; omega) hss.out).mono ?_
      rw [HW.out.1.1, HW.out.1.2]
      rintro en w9 ⟨rfl, hb⟩
      have HB9 : Kp (Below w.heap.size w w9) := ⟨HB8.out.trans (hb.mono HB8.out.size)⟩
      have HU1_9 : Kp (LS w9 (.slice g1 L1.length c1) L1) := ⟨HU1_8.out.below hb⟩
      have HU2_9 : Kp (LS w9 (.slice g2 L1.length c2) L1) := ⟨HU2_8.out.below hb⟩
      have HU3_9 : Kp (LS w9 (.slice g3 L2.length c3) L2) := ⟨HU3_8.out.below hb⟩
      have HU4_9 : Kp (LS w9 (.slice g4 L2.length c4) L2) := ⟨HU4_8.out.below hb⟩
      clear hb
      go_wp2_with fail
      refine (WhereV_any _ L1 s (d - 1) _ HU1_9.out (by have := HL1.out; omega) hss.out).mono ?_
      rw [HW.out.2.1.1, HR.out]
      rintro en w10 ⟨rfl, hb⟩
      have HB10 : Kp (Below w.heap.size w w10) := ⟨HB9.out.trans (hb.mono HB9.out.size)⟩
      have HU1_10 : Kp (LS w10 (.slice g1 L1.length c1) L1) := ⟨HU1_9.out.below hb⟩
      have HU2_10 : Kp (LS w10 (.slice g2 L1.length c2) L1) := ⟨HU2_9.out.below hb⟩
      have HU3_10 : Kp (LS w10 (.slice g3 L2.length c3) L2) := ⟨HU3_9.out.below hb⟩
      have HU4_10 : Kp (LS w10 (.slice g4 L2.length c4) L2) := ⟨HU4_9.out.below hb⟩
      clear hb
      go_wp2_with fail
      refine (HAW.out _).mono ?_
      rintro en w11 ⟨rfl, hb⟩
      have HB11 : Kp (Below w.heap.size w w11) := ⟨HB10.out.trans (hb.mono HB10.out.size)⟩
      clear hb
      go_wp2
      go_ret
      exact ⟨rfl, HB11.out⟩
  · have j1 : (E == (0 : Int)) = false := by simp [h1]
    have j2 : (E != (0 : Int)) = true := by simp [h1]
    clear HV1 HBW h1
    by_cases h2 : G = 0
    · subst h2
      have HE2 := Kp.mk (HV2.out rfl)
      clear HV2
      go_enter Try.func6, Try.ntmps6
      go_wp2_with fail
      refine (HF.out).mono ?_
      rintro en w1 ⟨rfl, hb⟩
      have HB1 : Kp (Below w.heap.size w w1) := ⟨hb⟩
      clear hb
      go_wp2_with fail
      refine (hA.out _ HB1.out).mono ?_
      rintro en w2 ⟨u1, rfl, hu, hb⟩
      have HB2 : Kp (Below w.heap.size w w2) := ⟨HB1.out.trans (hb.mono HB1.out.size)⟩
      obtain ⟨g1, c1, rfl⟩ := hu.shape
      have HU1_2 := Kp.mk hu
      clear hu hb
      go_wp2_with fail
      refine (hRA.out _ HB2.out).mono ?_
      rintro en w3 ⟨u2, rfl, hu, hb⟩
      have HB3 : Kp (Below w.heap.size w w3) := ⟨HB2.out.trans (hb.mono HB2.out.size)⟩
      have HU1_3 : Kp (LS w3 (.slice g1 L1.length c1) L1) := ⟨HU1_2.out.below hb⟩
      obtain ⟨g2, c2, rfl⟩ := hu.shape
      have HU2_3 := Kp.mk hu
      clear hu hb
      go_wp2_with fail
      refine (hC.out _ HB3.out).mono ?_
      rintro en w4 ⟨u3, rfl, hu, hb⟩
      have HB4 : Kp (Below w.heap.size w w4) := ⟨HB3.out.trans (hb.mono HB3.out.size)⟩
      have HU1_4 : Kp (LS w4 (.slice g1 L1.length c1) L1) := ⟨HU1_3.out.below hb⟩
      have HU2_4 : Kp (LS w4 (.slice g2 L1.length c2) L1) := ⟨HU2_3.out.below hb⟩
      obtain ⟨g3, c3, rfl⟩ := hu.shape
      have HU3_4 := Kp.mk hu
      clear hu hb
      go_wp2_with fail
      refine (hRC.out _ HB4.out).mono ?_
      rintro en w5 ⟨u4, rfl, hu, hb⟩
      have HB5 : Kp (Below w.heap.size w w5) := ⟨HB4.out.trans (hb.mono HB4.out.size)⟩
      have HU1_5 : Kp (LS w5 (.slice g1 L1.length c1) L1) := ⟨HU1_4.out.below hb⟩
      have HU2_5 : Kp (LS w5 (.slice g2 L1.length c2) L1) := ⟨HU2_4.out.below hb⟩
      have HU3_5 : Kp (LS w5 (.slice g3 L2.length c3) L2) := ⟨HU3_4.out.below hb⟩
      obtain ⟨g4, c4, rfl⟩ := hu.shape
      have HU4_5 := Kp.mk hu
      clear hu hb
      go_wp2_with fail
      refine (same_loans _ _ L1 _ HL1.out HU1_5.out HU2_5.out).mono ?_
      rintro en w6 ⟨rfl, hb⟩
      have HB6 : Kp (Below w.heap.size w w6) := ⟨HB5.out.trans (hb.mono HB5.out.size)⟩
      have HU1_6 : Kp (LS w6 (.slice g1 L1.length c1) L1) := ⟨HU1_5.out.below hb⟩
      have HU2_6 : Kp (LS w6 (.slice g2 L1.length c2) L1) := ⟨HU2_5.out.below hb⟩
      have HU3_6 : Kp (LS w6 (.slice g3 L2.length c3) L2) := ⟨HU3_5.out.below hb⟩
      have HU4_6 : Kp (LS w6 (.slice g4 L2.length c4) L2) := ⟨HU4_5.out.below hb⟩
      clear hb
      go_wp2_with fail
      refine (same_loans _ _ L2 _ HL2.out HU3_6.out HU4_6.out).mono ?_
      rintro en w7 ⟨rfl, hb⟩
      have HB7 : Kp (Below w.heap.size w w7) := ⟨HB6.out.trans (hb.mono HB6.out.size)⟩
      have HU1_7 : Kp (LS w7 (.slice g1 L1.length c1) L1) := ⟨HU1_6.out.below hb⟩
      have HU2_7 : Kp (LS w7 (.slice g2 L1.length c2) L1) := ⟨HU2_6.out.below hb⟩
      have HU3_7 : Kp (LS w7 (.slice g3 L2.length c3) L2) := ⟨HU3_6.out.below hb⟩
      have HU4_7 : Kp (LS w7 (.slice g4 L2.length c4) L2) := ⟨HU4_6.out.below hb⟩
      clear hb
      go_wp2_with fail
      refine (Valid_any _ L2 _ HU3_7.out (by have := HL2.out; omega)).mono ?_
      rw [HE2.out]
      rintro en w8 ⟨rfl, hb⟩
      have HB8 : Kp (Below w.heap.size w w8) := ⟨HB7.out.trans (hb.mono HB7.out.size)⟩
      have HU1_8 : Kp (LS w8 (.slice g1 L1.length c1) L1) := ⟨HU1_7.out.below hb⟩
      have HU2_8 : Kp (LS w8 (.slice g2 L1.length c2) L1) := ⟨HU2_7.out.below hb⟩
      have HU3_8 : Kp (LS w8 (.slice g3 L2.length c3) L2) := ⟨HU3_7.out.below hb⟩
      have HU4_8 : Kp (LS w8 (.slice g4 L2.length c4) L2) := ⟨HU4_7.out.below hb⟩
      clear hb
      go_wp2_with fail
      refine (HAW.out _).mono ?_
      rintro en w9 ⟨rfl, hb⟩
      have HB9 : Kp (Below w.heap.size w w9) := ⟨HB8.out.trans (hb.mono HB8.out.size)⟩
      clear hb
      go_wp2
      go_ret
      exact ⟨rfl, HB9.out⟩
    · have j3 : (G == (0 : Int)) = false := by simp [h2]
      have j4 : (G != (0 : Int)) = true := by simp [h2]
      clear HV2 h2
      go_enter Try.func6, Try.ntmps6
      go_wp2_with fail
      refine (HF.out).mono ?_
      rintro en w1 ⟨rfl, hb⟩
      have HB1 : Kp (Below w.heap.size w w1) := ⟨hb⟩
      clear hb
      go_wp2_with fail
      refine (hA.out _ HB1.out).mono ?_
      rintro en w2 ⟨u1, rfl, hu, hb⟩
      have HB2 : Kp (Below w.heap.size w w2) := ⟨HB1.out.trans (hb.mono HB1.out.size)⟩
      obtain ⟨g1, c1, rfl⟩ := hu.shape
      have HU1_2 := Kp.mk hu
      clear hu hb
      go_wp2_with fail
      refine (hRA.out _ HB2.out).mono ?_
      rintro en w3 ⟨u2, rfl, hu, hb⟩
      have HB3 : Kp (Below w.heap.size w w3) := ⟨HB2.out.trans (hb.mono HB2.out.size)⟩
      have HU1_3 : Kp (LS w3 (.slice g1 L1.length c1) L1) := ⟨HU1_2.out.below hb⟩
      obtain ⟨g2, c2, rfl⟩ := hu.shape
      have HU2_3 := Kp.mk hu
      clear hu hb
      go_wp2_with fail
      refine (hC.out _ HB3.out).mono ?_
      rintro en w4 ⟨u3, rfl, hu, hb⟩
      have HB4 : Kp (Below w.heap.size w w4) := ⟨HB3.out.trans (hb.mono HB3.out.size)⟩
      have HU1_4 : Kp (LS w4 (.slice g1 L1.length c1) L1) := ⟨HU1_3.out.below hb⟩
      have HU2_4 : Kp (LS w4 (.slice g2 L1.length c2) L1) := ⟨HU2_3.out.below hb⟩
      obtain ⟨g3, c3, rfl⟩ := hu.shape
      have HU3_4 := Kp.mk hu
      clear hu hb
      go_wp2_with fail
      refine (hRC.out _ HB4.out).mono ?_
      rintro en w5 ⟨u4, rfl, hu, hb⟩
      have HB5 : Kp (Below w.heap.size w w5) := ⟨HB4.out.trans (hb.mono HB4.out.size)⟩
      have HU1_5 : Kp (LS w5 (.slice g1 L1.length c1) L1) := ⟨HU1_4.out.below hb⟩
      have HU2_5 : Kp (LS w5 (.slice g2 L1.length c2) L1) := ⟨HU2_4.out.below hb⟩
      have HU3_5 : Kp (LS w5 (.slice g3 L2.length c3) L2) := ⟨HU3_4.out.below hb⟩
      obtain ⟨g4, c4, rfl⟩ := hu.shape
      have HU4_5 := Kp.mk hu
      clear hu hb
      go_wp2_with fail
      refine (same_loans _ _ L1 _ HL1.out HU1_5.out HU2_5.out).mono ?_
      rintro en w6 ⟨rfl, hb⟩
      have HB6 : Kp (Below w.heap.size w w6) := ⟨HB5.out.trans (hb.mono HB5.out.size)⟩
      have HU1_6 : Kp (LS w6 (.slice g1 L1.length c1) L1) := ⟨HU1_5.out.below hb⟩
      have HU2_6 : Kp (LS w6 (.slice g2 L1.length c2) L1) := ⟨HU2_5.out.below hb⟩
      have HU3_6 : Kp (LS w6 (.slice g3 L2.length c3) L2) := ⟨HU3_5.out.below hb⟩
      have HU4_6 : Kp (LS w6 (.slice g4 L2.length c4) L2) := ⟨HU4_5.out.below hb⟩
      clear hb
      go_wp2_with fail
      refine (same_loans _ _ L2 _ HL2.out HU3_6.out HU4_6.out).mono ?_
      rintro en w7 ⟨rfl, hb⟩
      have HB7 : Kp (Below w.heap.size w w7) := ⟨HB6.out.trans (hb.mono HB6.out.size)⟩
      have HU1_7 : Kp (LS w7 (.slice g1 L1.length c1) L1) := ⟨HU1_6.out.below hb⟩
      have HU2_7 : Kp (LS w7 (.slice g2 L1.length c2) L1) := ⟨HU2_6.out.below hb⟩
      have HU3_7 : Kp (LS w7 (.slice g3 L2.length c3) L2) := ⟨HU3_6.out.below hb⟩
      have HU4_7 : Kp (LS w7 (.slice g4 L2.length c4) L2) := ⟨HU4_6.out.below hb⟩
      clear hb
      go_wp2_with fail
      refine (HAW.out _).mono ?_
      rintro en w8 ⟨rfl, hb⟩
      have HB8 : Kp (Below w.heap.size w w8) := ⟨HB7.out.trans (hb.mono HB7.out.size)⟩
      clear hb
      go_wp2
      go_ret
      exact ⟨rfl, HB8.out⟩
theorem lawBacks_any (v : Value) (l : List Loan) (s : ByteArray) (d du : Int) (w : World) (hv : LS w v l) (hm : l.length ≤ 9223372036854775807) (hs : s.size ≤ maxLen) :
    Calls Try.prog 6 #[v, .string s, .int .i64 d, .int .i64 du] w fun e w' => e = .returned (.bool true) ∧ Below w.heap.size w w' := by
  by_cases h1 : fitB l = true
  · by_cases h2 : 100 < s.size
    · exact lawBacks_small v l s d du w hv hm (.inr h2)
    · exact lawBacks_big v l s d du w hv hm hs h1 h2
  · exact lawBacks_small v l s d du w hv hm (.inl (by simpa using h1))
end Go.Proofs.Ytaofjomocefdkaa.Ln
