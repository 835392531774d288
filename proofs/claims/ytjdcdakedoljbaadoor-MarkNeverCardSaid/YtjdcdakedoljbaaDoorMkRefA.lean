/-
  WALKS of the specification's own functions on marks (Sign, Mark, Number and what they call).
-/
import Derived.Test.YtjdcdakedoljbaaDoorMkWalkB
import Derived.Test.YtjdcdakedoljbaaDoorMkPlainB
import Derived.WalkKit
namespace Go.Proofs.YtjdcdakedoljbaaDoor.Mk
open Go Go.RowKit

theorem within_yes (n lo hi : Int) (w : World) (h0 : lo ≤ n) (h1 : n ≤ hi) :
    Calls Tryd.prog 52 #[.int .i64 n, .int .i64 lo, .int .i64 hi] w fun e w' => e = .returned (.bool true) ∧ w = w' := by
  go_enter Tryd.func52, Tryd.ntmps52
  go_wp2
  go_ret
  exact ⟨rfl, rfl⟩
theorem within_no (n lo hi : Int) (w : World) (h : n < lo ∨ hi < n) :
    Calls Tryd.prog 52 #[.int .i64 n, .int .i64 lo, .int .i64 hi] w fun e w' => e = .returned (.bool false) ∧ w = w' := by
  by_cases h0 : lo ≤ n
  · have h1 : ¬ n ≤ hi := by omega
    clear h
    go_enter Tryd.func52, Tryd.ntmps52
    go_wp2
    go_ret
    exact ⟨rfl, rfl⟩
  · clear h
    go_enter Tryd.func52, Tryd.ntmps52
    go_wp2
    go_ret
    exact ⟨rfl, rfl⟩

/-! ### check -/
def qn (n : Nat) : Nat → Nat
  | 0 => n
  | p + 1 => qn n p / 10
def rs (n : Nat) : Nat → Nat
  | 0 => 0
  | p + 1 => rs n p + (7 - p) * (qn n p % 10)
theorem qn_le (n : Nat) (hn : n ≤ 999999) : ∀ p, qn n p ≤ 999999
  | 0 => hn
  | p + 1 => by have := qn_le n hn p; simp only [qn]; omega
theorem rs_le (n : Nat) : ∀ p, rs n p ≤ 63 * p
  | 0 => Nat.le_refl _
  | p + 1 => by
    have := rs_le n p
    have : (7 - p) * (qn n p % 10) ≤ 7 * 9 := Nat.mul_le_mul (by omega) (by omega)
    simp only [rs]
    omega
theorem rs_six (n : Nat) (_hn : n ≤ 999999) : rs n 6 = ws n 6 := by
  rw [ws_six]
  simp only [rs, qn, dig]
  omega
theorem refcheck_any (n : Nat) (w : World) (hn : n ≤ 999999) :
    Calls Tryd.prog 53 #[.int .i64 n] w fun e w' => e = .returned (.int .i64 (chk n : Nat)) ∧ w = w' := by
  have H6 := Lib.hid (rs_six n hn)
  go_enter Tryd.func53, Tryd.ntmps53
  go_wp2
  go_loop [0, 3, 4] (fun q u g => ∃ p : Nat, p ≤ 6 ∧ q = .int .i64 (qn n p : Nat) ∧ u = .int .i64 (rs n p : Nat) ∧ g = .int .i64 (7 - (p : Int))) (fun _ _ g => (intOf g).toNat)
  case atStart => exact ⟨0, by omega, rfl, rfl, rfl⟩
  case round =>
    obtain ⟨p, hp6, rfl, rfl, rfl⟩ := hrel
    have hu := rs_le n p
    have hq := qn_le n hn p
    have h1 : qn n (p + 1) = qn n p / 10 := rfl
    have h2 : rs n (p + 1) = rs n p + (7 - p) * (qn n p % 10) := rfl
    by_cases hp : p < 6
    · obtain ⟨q, hq2⟩ : ∃ q, qn n p = q := ⟨_, rfl⟩
      obtain ⟨u, hu2⟩ : ∃ u, rs n p = u := ⟨_, rfl⟩
      rw [hq2] at hq h1 h2 ⊢
      rw [hu2] at hu h2 ⊢
      obtain ⟨k, hk⟩ : ∃ k, k = p + 1 := ⟨_, rfl⟩
      rw [← hk] at h1 h2
      have H1 := Lib.hid h1
      have H2 := Lib.hid h2
      have HK := Lib.hid hk
      clear h1 h2 hq2 hu2 hk
      have hc : p = 0 ∨ p = 1 ∨ p = 2 ∨ p = 3 ∨ p = 4 ∨ p = 5 := by omega
      rcases hc with rfl | rfl | rfl | rfl | rfl | rfl
      all_goals
        go_wp2
        go_round
        case rel => exact ⟨k, by have := HK.out; omega, by rw [H1.out]; go_num, by rw [H2.out]; go_num, by rw [HK.out]; go_num⟩
        case measure => simp [intOf]
    · have e6 : p = 6 := by omega
      subst e6
      clear h1 h2
      go_wp2
      go_ret
      refine ⟨?_, rfl⟩
      have e : (-((rs n 6 : Int) % 11)) % 11 = ((chk n : Nat) : Int) := by unfold chk; rw [← H6.out]; omega
      exact congrArg (fun z => Ending.returned (.int .i64 z)) e

/-! ### Sign, Mark -/
theorem refSign_yes (n : Nat) (w : World) (hn : n ≤ 999999) :
    Calls Tryd.prog 12 #[.int .i64 n] w fun e w' => e = .returned (.tuple #[.string ⟨#[sg (chk n)]⟩, .int .i64 0]) ∧ w = w' := by
  have hk := chk_lt n
  have hcut := cut_sign (chk n) hk
  have HC := Lib.hid hcut
  clear hcut
  go_enter Tryd.func12, Tryd.ntmps12
  go_wp2_with (go_at_call 52; refine (within_yes _ _ _ _ (by omega) (by omega)).mono ?_; rintro e w' ⟨rfl, rfl⟩)
  go_wp2_with (go_at_call 53; refine (refcheck_any n _ hn).mono ?_; rintro e w' ⟨rfl, rfl⟩)
  go_ret2
  refine ⟨?_, rfl⟩
  exact congrArg (fun b => Ending.returned (.tuple #[.string b, .int .i64 0])) HC.out
theorem refSign_no (n : Int) (w : World) (h : n < 0 ∨ 999999 < n) :
    Calls Tryd.prog 12 #[.int .i64 n] w fun e w' => e = .returned (.tuple #[.string ⟨#[]⟩, .int .i64 7]) ∧ w = w' := by
  go_enter Tryd.func12, Tryd.ntmps12
  go_wp2_with (go_at_call 52; refine (within_no _ _ _ _ h).mono ?_; rintro e w' ⟨rfl, rfl⟩)
  go_ret2
  exact ⟨rfl, rfl⟩
theorem dec_million (n : Nat) (hn : n ≤ 999999) : Lib.decDigits (1000000 + n) = 49 :: six n := by
  rw [dec_ge10 (by omega), dec_ge10 (by omega), dec_ge10 (by omega), dec_ge10 (by omega), dec_ge10 (by omega), dec_ge10 (by omega), dec_lt10 (by omega)]
  have e : (1000000 + n) / 10 / 10 / 10 / 10 / 10 / 10 = 1 := by omega
  have e0 : (1000000 + n) / 10 / 10 / 10 / 10 / 10 % 10 = dig n 0 := by simp only [dig]; omega
  have e1 : (1000000 + n) / 10 / 10 / 10 / 10 % 10 = dig n 1 := by simp only [dig]; omega
  have e2 : (1000000 + n) / 10 / 10 / 10 % 10 = dig n 2 := by simp only [dig]; omega
  have e3 : (1000000 + n) / 10 / 10 % 10 = dig n 3 := by simp only [dig]; omega
  have e4 : (1000000 + n) / 10 % 10 = dig n 4 := by simp only [dig]; omega
  have e5 : (1000000 + n) % 10 = dig n 5 := by simp only [dig]; omega
  rw [e, e0, e1, e2, e3, e4, e5]
  rfl
theorem cut_million (n : Nat) : (⟨(49 :: six n).toArray⟩ : ByteArray).extract 1 7 = ⟨(six n).toArray⟩ := by
  apply ByteArray.ext
  apply Array.ext'
  rw [Lib.extract_data]
  rfl
theorem refMark_yes (n : Nat) (w : World) (hn : n ≤ 999999) (ht : Tab w) :
    Calls Tryd.prog 14 #[.int .i64 n] w fun e w' => e = .returned (.tuple #[.string ⟨(markL n).toArray⟩, .int .i64 0]) ∧ Below w.heap.size w w' := by
  have HT := Lib.hid ht
  clear ht
  have hi : Lib.itoa (1000000 + (n : Int)) = 49 :: six n := by
    unfold Lib.itoa
    rw [if_neg (by omega), show (1000000 + (n : Int)).toNat = 1000000 + n by omega, dec_million n hn]
  have hit := fun w ht => Tryd.strconv_Itoa (1000000 + (n : Int)) (by omega) (by omega) w ht
  rw [hi] at hit
  have HIT := Lib.hid hit
  have h7 : (⟨(49 :: six n).toArray⟩ : ByteArray).size = 7 := rfl
  have h6 : (⟨(six n).toArray⟩ : ByteArray).size = 6 := rfl
  have HC := Lib.hid (cut_million n)
  have HJ := Lib.hid (join_mark n)
  obtain ⟨T, hT⟩ : ∃ T, (⟨(49 :: six n).toArray⟩ : ByteArray) = T := ⟨_, rfl⟩
  rw [hT] at h7 HC HIT
  have h7' : 1 ≤ T.size := by omega
  have h7'' : T.size ≤ 7 := by omega
  have HZ := Lib.hid h7
  clear hit hi h7 hT
  go_enter Tryd.func14, Tryd.ntmps14
  go_wp2_with (go_at_call 12; refine (refSign_yes n _ hn).mono ?_; rintro e w' ⟨rfl, rfl⟩)
  go_wp2_with fail
  refine (HIT.out _ HT.out).mono ?_
  rintro e w' ⟨rfl, k, os, rfl⟩
  go_wp2
  go_ret2
  refine ⟨?_, Lib.below_grow _ w (Nat.le_refl _) k os⟩
  have e : T.extract 1 T.size ++ ⟨#[45]⟩ ++ ⟨#[sg (chk n)]⟩ = ⟨(markL n).toArray⟩ := by rw [HZ.out, HC.out, HJ.out]
  exact congrArg (fun b => Ending.returned (.tuple #[.string b, .int .i64 0])) e
theorem refMark_no (n : Int) (w : World) (h : n < 0 ∨ 999999 < n) :
    Calls Tryd.prog 14 #[.int .i64 n] w fun e w' => e = .returned (.tuple #[.string ⟨#[]⟩, .int .i64 7]) ∧ w = w' := by
  go_enter Tryd.func14, Tryd.ntmps14
  go_wp2_with (go_at_call 12; refine (refSign_no _ _ h).mono ?_; rintro e w' ⟨rfl, rfl⟩)
  go_ret2
  exact ⟨rfl, rfl⟩

/-! ### read, Number -/
def RefRead (l : List UInt8) (w : World) (e : Ending) (w' : World) : Prop :=
  (∃ a b : Int, e = .returned (.tuple #[.int .i64 a, .int .i64 b, .bool (form l)]) ∧ (form l = true → a = (numOf l : Nat) ∧ b = (signOf l : Nat))) ∧ w = w'
theorem refRead_no {l : List UInt8} {w w' : World} {e : Ending} {a b : Int} (h : form l = false) (he : e = .returned (.tuple #[.int .i64 a, .int .i64 b, .bool false])) (hw : w = w') : RefRead l w e w' :=
  ⟨⟨a, b, by rw [he, h], fun h2 => by rw [h] at h2; cases h2⟩, hw⟩
theorem refRead_yes {l : List UInt8} {w w' : World} {e : Ending} (h : form l = true) (he : e = .returned (.tuple #[.int .i64 (dval (l.take 6) : Nat), .int .i64 (idx (l.getD 7 0)), .bool true])) (hw : w = w') : RefRead l w e w' := by
  have hs : 0 ≤ idx (l.getD 7 0) := by
    simp only [form, Bool.and_eq_true, decide_eq_true_eq] at h
    exact h.2
  refine ⟨⟨_, _, by rw [he, h], fun _ => ?_⟩, hw⟩
  unfold numOf signOf
  rw [h, if_pos rfl, if_pos rfl, Int.toNat_of_nonneg hs]
  exact ⟨rfl, rfl⟩
theorem refread_len (s : ByteArray) (w : World) (_hs : s.size ≤ maxLen) (h : s.size ≠ 8) :
    Calls Tryd.prog 57 #[.string s] w (RefRead s.data.toList w) := by
  have hf : form s.data.toList = false := form_len (by simpa using h)
  unfold maxLen at _hs
  have hd : ((s.size : Int) != 8) = true := by rw [bne_iff_ne]; omega
  have hd' : ((s.size : Int) == 8) = false := by rw [beq_eq_false_iff_ne]; omega
  have HF := Lib.hid hf
  clear hf
  go_enter Tryd.func57, Tryd.ntmps57
  go_wp2
  go_ret3
  exact refRead_no HF.out rfl rfl
theorem refread_dash (s : ByteArray) (w : World) (h8 : s.size = 8) (hl : 6 < s.size) (h : s[6]'hl ≠ 45) :
    Calls Tryd.prog 57 #[.string s] w (RefRead s.data.toList w) := by
  have hf : form s.data.toList = false := form_dash (by rw [getD_of s 6 hl]; exact h)
  have hd : ((s.size : Int) != 8) = false := by rw [h8]; rfl
  have hb : (((s[6]'hl).toNat : Int) != 45) = true := by
    rw [bne_iff_ne]; intro e; exact h (UInt8.toNat_inj.1 (by simpa using Int.ofNat.inj e))
  have HF := Lib.hid hf
  clear h8 h hf
  go_enter Tryd.func57, Tryd.ntmps57
  go_wp2
  go_ret3
  exact refRead_no HF.out rfl rfl
theorem refread_main (s : ByteArray) (w : World) (h8 : s.size = 8) (hl6 : 6 < s.size) (hl : 7 < s.size) (h : s[6]'hl6 = 45) :
    Calls Tryd.prog 57 #[.string s] w (RefRead s.data.toList w) := by
  have hd : ((s.size : Int) != 8) = false := by rw [h8]; rfl
  have hb : (((s[6]'hl6).toNat : Int) != 45) = false := by rw [h]; rfl
  have h6 : s.data.toList.getD 6 0 = 45 := by rw [getD_of s 6 (by omega)]; exact h
  have h7 : s.data.toList.getD 7 0 = s[7]'hl := getD_of s 7 hl
  have HH := Lib.hid h8
  have H6 := Lib.hid h6
  have H7 := Lib.hid h7
  clear h8 h h6 h7
  go_enter Tryd.func57, Tryd.ntmps57
  go_wp2
  go_loop [2, 5] (fun n i => ∃ pos : Nat, pos ≤ 6 ∧ i = .int .i64 pos ∧ (s.data.toList.take pos).all isDig = true ∧ n = .int .i64 (dval (s.data.toList.take pos))) (fun _ i => 6 - (intOf i).toNat)
  case atStart => exact ⟨0, by omega, rfl, rfl, rfl⟩
  case round =>
    obtain ⟨pos, hp6, rfl, hall, rfl⟩ := hrel
    by_cases hp : pos < 6
    · have hq : pos < s.size := by omega
      have hb8 : s.data.toList.take (pos + 1) = s.data.toList.take pos ++ [s[pos]] := by
        rw [List.take_succ_eq_append_getElem (by simpa using hq)]; rfl
      have hv : dval (s.data.toList.take pos) ≤ 99999 := dval_small _ hall (by simp; omega)
      obtain ⟨v, hv2⟩ : ∃ v, dval (s.data.toList.take pos) = v := ⟨_, rfl⟩
      rw [hv2] at hv ⊢
      have HV := Lib.hid hv2
      have HB := Lib.hid hb8
      have HA := Lib.hid hall
      clear hv2 hb8 hall
      by_cases hdg : isDig s[pos] = true
      · have hdg2 : 48 ≤ s[pos].toNat ∧ s[pos].toNat ≤ 57 := by simpa [isDig] using hdg
        have HD := Lib.hid hdg
        clear hdg
        obtain ⟨hc1, hc2⟩ := hdg2
        have hc3 : ¬ ((s[pos].toNat : Int) < 48) := by omega
        have hc4 : ¬ ((57 : Int) < (s[pos].toNat : Int)) := by omega
        go_wp2
        go_round
        case rel =>
          refine ⟨pos + 1, by omega, by go_num, ?_, ?_⟩
          · rw [HB.out, List.all_append, HA.out]; simp [HD.out]
          · rw [HB.out, dval_snoc, HV.out]; unfold step; go_num
        case measure => simp [intOf]; omega
      · have hdg2 : s[pos].toNat < 48 ∨ 57 < s[pos].toNat := by
          have : ¬ (48 ≤ s[pos].toNat ∧ s[pos].toNat ≤ 57) := by simpa [isDig] using hdg
          omega
        have hf : form s.data.toList = false := by
          have h8 := HH.out
          refine form_dig (p := pos) (by simpa using h8) hp ?_
          have e : s.data.toList[pos]'(by simp; omega) = s[pos] := rfl
          rw [e]
          simpa using hdg
        have HF := Lib.hid hf
        clear hf hdg
        rcases hdg2 with hc | hc
        · have hc3 : ((s[pos].toNat : Int) < 48) := by omega
          go_wp2
          go_ret3
          exact refRead_no HF.out rfl rfl
        · have hc3 : ¬ ((s[pos].toNat : Int) < 48) := by omega
          have hc4 : ((57 : Int) < (s[pos].toNat : Int)) := by omega
          go_wp2
          go_ret3
          exact refRead_no HF.out rfl rfl
    · have e6 : pos = 6 := by omega
      subst e6
      have hbd := idx_bd s[7]
      have HA := Lib.hid hall
      clear hall
      by_cases hneg : idx s[7] < 0
      · go_wp2_with (go_at_call 80; refine (index_signs _ _).mono ?_; rintro e w' ⟨rfl, rfl⟩)
        go_ret3
        have e : decide (0 ≤ idx s[7]) = false := decide_eq_false (by omega)
        exact refRead_no (a := ((dval (List.take 6 s.data.toList) : Nat) : Int)) (b := idx s[7]) (form_sign (by rw [H7.out]; exact hneg)) (by first | rfl | (rw [← e]; rfl)) rfl
      · go_wp2_with (go_at_call 80; refine (index_signs _ _).mono ?_; rintro e w' ⟨rfl, rfl⟩)
        go_ret3
        exact refRead_yes (form_yes (by have := HH.out; simpa using this) H6.out HA.out (by rw [H7.out]; omega)) (by rw [H7.out]; rfl) rfl
theorem refread_any (s : ByteArray) (w : World) (hs : s.size ≤ maxLen) :
    Calls Tryd.prog 57 #[.string s] w (RefRead s.data.toList w) := by
  by_cases h8 : s.size = 8
  · by_cases h6 : s[6]'(by omega) = 45
    · exact refread_main s w h8 (by omega) (by omega) h6
    · exact refread_dash s w h8 (by omega) h6
  · exact refread_len s w hs h8

theorem refNumber_any (s : ByteArray) (w : World) (hs : s.size ≤ maxLen) :
    Calls Tryd.prog 16 #[.string s] w fun e w' => e = .returned (.tuple #[.int .i64 ((number s.data.toList).1 : Nat), .int .i64 ((number s.data.toList).2 : Nat)]) ∧ w = w' := by
  have hlt := numOf_lt s.data.toList
  have hr := refread_any s w hs
  obtain ⟨F, hF⟩ : ∃ F, form s.data.toList = F := ⟨_, rfl⟩
  obtain ⟨N, hN⟩ : ∃ N, numOf s.data.toList = N := ⟨_, rfl⟩
  obtain ⟨K, hK⟩ : ∃ K, signOf s.data.toList = K := ⟨_, rfl⟩
  obtain ⟨V, hV⟩ : ∃ V, number s.data.toList = V := ⟨_, rfl⟩
  have hnum : V = if F then (if K = chk N then (N, 0) else (0, 12)) else (0, 2) := by
    rw [← hV]; unfold number; rw [hF, hK, hN]
  unfold RefRead at hr
  rw [hF, hN, hK] at hr
  rw [hN] at hlt
  rw [hV]
  have HR := Lib.hid hr
  have HN := Lib.hid hnum
  clear hr hnum hF hN hK hV
  go_enter Tryd.func16, Tryd.ntmps16
  go_wp2_with fail
  refine HR.out.mono ?_
  rintro e w1 ⟨⟨a, b, rfl, hab⟩, rfl⟩
  have HAB := Lib.hid hab
  clear hab
  cases F with
  | false =>
    go_wp2
    go_ret2
    exact ⟨by rw [HN.out]; rfl, rfl⟩
  | true =>
    obtain ⟨ha, hb⟩ := HAB.out rfl
    subst ha
    subst hb
    clear HAB HR
    by_cases hk : K = chk N
    · have hd : (((K : Nat) : Int) != ((chk N : Nat) : Int)) = false := by rw [hk]; simp
      have HK := Lib.hid hk
      clear hk
      go_wp2_with (go_at_call 53; refine (refcheck_any N _ hlt).mono ?_; rintro e w' ⟨rfl, rfl⟩)
      go_ret2
      exact ⟨by rw [HN.out, HK.out]; simp, rfl⟩
    · have hd : (((K : Nat) : Int) != ((chk N : Nat) : Int)) = true := by rw [bne_iff_ne]; omega
      go_wp2_with (go_at_call 53; refine (refcheck_any N _ hlt).mono ?_; rintro e w' ⟨rfl, rfl⟩)
      go_ret2
      exact ⟨by rw [HN.out]; simp [hk], rfl⟩
end Go.Proofs.YtjdcdakedoljbaaDoor.Mk
