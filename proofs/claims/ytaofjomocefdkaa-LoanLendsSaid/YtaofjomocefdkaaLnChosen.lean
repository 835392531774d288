/-
  WALKS (layer 9, loan): the reference's Of and To; SameLoans; what is chosen of valid loans is valid.
-/
import Derived.Test.YtaofjomocefdkaaLnNamed
import Derived.Test.YtaofjomocefdkaaLnRefO
namespace Go.Proofs.Ytaofjomocefdkaa.Ln
open Go Go.RowKit Go.Sort

theorem good_chk {pre l : List Loan} (h : Good (pre ++ l)) : chk rnd pre l = true := by
  induction l generalizing pre with
  | nil => rfl
  | cons x r ih =>
    rw [chk, Bool.and_eq_true]
    refine ⟨?_, ih (by rwa [List.append_assoc, List.singleton_append])⟩
    unfold rnd
    rw [Bool.and_eq_true]
    refine ⟨?_, h.1 x (by simp)⟩
    rcases List.eq_nil_or_concat pre with rfl | ⟨P, y, rfl⟩
    · rfl
    · unfold prevOk
      simp only [List.concat_eq_append, List.getLast?_append, List.getLast?_singleton, Option.some_or, decide_eq_true_eq]
      exact (List.pairwise_append.1 h.2).2.2 y (by simp) x (by simp)
theorem valid_filter (q : Loan → Bool) {l : List Loan} (h : validL l = true) : validL (l.filter q) = true := by
  have hl := validL_len h
  rw [validL_eq, Bool.and_eq_true, Option.isNone_iff_eq_none, fst_none] at h ⊢
  obtain ⟨h1, h2⟩ := h
  have hg := ordL_good h1
  have hs : (l.filter q).Sublist l := List.filter_sublist
  refine ⟨?_, h2.sublist hs⟩
  rw [ordL_rnd, good_chk (pre := []) ⟨fun a ha => hg.1 a (hs.subset ha), hg.2.sublist hs⟩, Bool.true_and]
  exact decide_eq_true (Nat.le_trans hs.length_le hl)
theorem askL_valid (q : Loan → Bool) {l : List Loan} {s : ByteArray} (h : askE l s = 0) : validL (askL q l s) = true := by
  unfold askL
  rw [if_pos h]
  exact valid_filter q (chkE_zero h).1
theorem askL_len (q : Loan → Bool) (l : List Loan) (s : ByteArray) : (askL q l s).length ≤ l.length := by
  unfold askL
  split
  · exact List.length_filter_le _ _
  · simp
theorem rAsked_any (v : Value) (l : List Loan) (s : ByteArray) (w : World) (hv : LS w v l) (hm : l.length ≤ 1000) (hs : s.size ≤ maxLen) : Calls Try.prog 65 #[v, .string s] w fun e w' => e = .returned (.int .i64 (askE l s)) ∧ Below w.heap.size w w' := by
  have HV : Kp (Calls Try.prog 22 #[v] w fun e w' => e = .returned (.bool (validL l)) ∧ Below w.heap.size w w') := ⟨rValid_any v l w hv hm⟩
  have HN : Kp (∀ W, Calls Try.prog 20 #[.string s] W fun e w' => e = .returned (.bool (nameB s)) ∧ W = w') := ⟨fun W => rName_any s W hs⟩
  unfold askE
  obtain ⟨V, hV⟩ : ∃ V, validL l = V := ⟨_, rfl⟩
  obtain ⟨n, hn⟩ : ∃ n, nameB s = n := ⟨_, rfl⟩
  rw [hV] at HV ⊢
  rw [hn] at HN ⊢
  obtain ⟨g, c, rfl⟩ := hv.shape
  obtain ⟨N, hN⟩ : ∃ N, l.length = N := ⟨_, rfl⟩
  rw [hN] at HV ⊢
  clear hv hm hs hV hn hN
  cases V with
  | false =>
    go_enter Try.func65, Try.ntmps65
    go_wp2_with fail
    refine HV.out.mono ?_
    rintro en w1 ⟨rfl, hb1⟩
    have HB1 := Kp.mk hb1
    clear hb1
    go_wp2
    go_ret
    exact ⟨rfl, HB1.out⟩
  | true =>
    cases n
    all_goals
      go_enter Try.func65, Try.ntmps65
      go_wp2_with fail
      refine HV.out.mono ?_
      rintro en w1 ⟨rfl, hb1⟩
      have HB1 := Kp.mk hb1
      clear hb1
      go_wp2_with fail
      refine (HN.out _).mono ?_
      rintro en w2 ⟨rfl, rfl⟩
      go_wp2
      go_ret
      exact ⟨rfl, HB1.out⟩
theorem filter_more {q : Loan → Bool} {l : List Loan} {k : Nat} {x : Loan} (hx : l[k]? = some x) : (l.take (k + 1)).filter q = (l.take k).filter q ++ if q x = true then [x] else [] := by
  have hk := (List.getElem?_eq_some_iff.1 hx).1
  have e : l[k] = x := (List.getElem?_eq_some_iff.1 hx).2
  rw [List.take_succ_eq_append_getElem hk, e, List.filter_append]
  congr 1
  cases h : q x <;> simp [h]
attribute [-go_sem] Builtin.append_
theorem rchosenP_no (v : Value) (l : List Loan) (s : ByteArray) (w : World) (hv : LS w v l) (hm : l.length ≤ 1000) (hs : s.size ≤ maxLen) (hE0 : askE l s ≠ 0) : Calls Try.prog 86 #[v, .string s, .bool true] w fun e w' => e = .returned (.tuple #[.slice none 0 0, .int .i64 (askE l s)]) ∧ Below w.heap.size w w' := by
  have HC : Kp (Calls Try.prog 65 #[v, .string s] w fun e w' => e = .returned (.int .i64 (askE l s)) ∧ Below w.heap.size w w') := ⟨rAsked_any v l s w hv hm hs⟩
  obtain ⟨E, hE⟩ : ∃ E, askE l s = E := ⟨_, rfl⟩
  rw [hE] at HC hE0 ⊢
  have j1 : (E == (0 : Int)) = false := by simp [hE0]
  have j2 : (E != (0 : Int)) = true := by simp [hE0]
  have j3 : decide (E = 0) = false := by simp [hE0]
  obtain ⟨g, c, rfl⟩ := hv.shape
  obtain ⟨N, hN⟩ : ∃ N, l.length = N := ⟨_, rfl⟩
  rw [hN] at HC ⊢
  clear hv hm hN hE hs
  go_enter Try.func86, Try.ntmps86
  go_wp2_with fail
  refine HC.out.mono ?_
  rintro en w3 ⟨rfl, hb3⟩
  have HB3 := Kp.mk hb3
  clear hb3
  go_wp2
  go_ret2
  exact ⟨rfl, HB3.out⟩
set_option maxRecDepth 100000 in
set_option maxHeartbeats 2000000 in
theorem rchosenP_ok (v : Value) (l : List Loan) (s : ByteArray) (w : World) (hv : LS w v l) (hm : l.length ≤ 1000) (hs : s.size ≤ maxLen) (hE0 : askE l s = 0) : Calls Try.prog 86 #[v, .string s, .bool true] w (LsPost w (l.filter fun x => eqS x.p s) 0) := by
  have HC : Kp (Calls Try.prog 65 #[v, .string s] w fun e w' => e = .returned (.int .i64 0) ∧ Below w.heap.size w w') := ⟨hE0 ▸ rAsked_any v l s w hv hm hs⟩
  have HWF := Kp.mk hv.wfs
  obtain ⟨g, c, rfl, -, hi⟩ := hv
  have HS := Kp.mk hi
  obtain ⟨N, hN⟩ : ∃ N, l.length = N := ⟨_, rfl⟩
  have HN := Kp.mk hN
  have HM : Kp (N ≤ 1000) := ⟨hN ▸ hm⟩
  rw [hN] at HC ⊢
  clear hi hm hN hs hE0
  go_enter Try.func86, Try.ntmps86
  go_wp2_with fail
  refine HC.out.mono ?_
  rintro en w1 ⟨rfl, hb1⟩
  have HB1 := Kp.mk hb1
  have HO0 : Kp (OwnL w1 w.heap.size (.slice none 0 0) ((l.take 0).filter fun x => eqS x.p s)) := ⟨OwnL.nil _ _⟩
  clear hb1
  go_wp2
  go_loopw [9, 20] (fun r i wr => ∃ k : Nat, k ≤ N ∧ i = .int .i64 k ∧ Kp (OwnL wr w.heap.size r ((l.take k).filter fun x => eqS x.p s)) ∧ Kp (Below w.heap.size w wr)) (fun _ i _ => N - (intOf i).toNat)
  case atStart => exact ⟨0, Nat.zero_le _, rfl, HO0, HB1⟩
  case round =>
    clear HO0
    obtain ⟨k, hk, rfl, HO, HB⟩ := hrel
    by_cases hlt : k < N
    · obtain ⟨x, hx⟩ : ∃ x, l[k]? = some x := ⟨_, List.getElem?_eq_getElem (by rw [HN.out]; exact hlt)⟩
      obtain ⟨b, o, hg, hat, -⟩ := HS.out k x hx
      subst hg
      obtain ⟨d0, d1, d2, d3, d4⟩ := hat.on HB.out
      have o1 : (k : Int) < (N : Int) := by omega
      have o4 : k ≤ 1000 := by have := HM.out; omega
      have hmo := filter_more (q := fun x => eqS x.p s) hx
      obtain ⟨P, hP⟩ : ∃ P, eqS x.p s = P := ⟨_, rfl⟩
      have i1 : (x.p.toList == s.toList) = P := hP
      simp only [hP] at hmo
      have HMO := Kp.mk hmo
      have hpl : ((l.take k).filter fun x => eqS x.p s).length ≤ 100000 := by
        have := List.length_filter_le (fun x => eqS x.p s) (l.take k)
        rw [List.length_take] at this
        omega
      obtain ⟨L, hL⟩ : ∃ L, ((l.take k).filter fun x => eqS x.p s) = L := ⟨_, rfl⟩
      rw [hL] at HO HMO hpl
      obtain ⟨xp, xt, xo, xd, xb⟩ := x
      simp only at d0 d1 d2 d3 d4 i1
      clear hmo hP hx hat hL
      cases P with
      | false =>
        have HO2 : Kp (OwnL (wr.alloc (.cells #[.string xp, .string xt, .int .i64 xo, .int .i64 xd, .int .i64 xb] 26)) w.heap.size u9 ((l.take (k + 1)).filter fun x => eqS x.p s)) := ⟨by rw [HMO.out, if_neg (by decide), List.append_nil]; exact HO.out.on (by repeat (first | exact Below.refl _ _ | refine Below.alloc ?_ (by simp <;> omega) _ | refine bDrewN ?_ _ | refine Below.drew ?_))⟩
        have HB2 : Kp (Below w.heap.size w (wr.alloc (.cells #[.string xp, .string xt, .int .i64 xo, .int .i64 xd, .int .i64 xb] 26))) := ⟨HB.out.alloc HB.out.size _⟩
        go_wp2
        go_roundw
        case rel => exact ⟨k + 1, by omega, by go_num, HO2, HB2⟩
        case measure => simp [intOf]; omega
      | true =>
        obtain ⟨X2, hX2⟩ : ∃ X2, (wr.alloc (.cells #[.string xp, .string xt, .int .i64 xo, .int .i64 xd, .int .i64 xb] 26)).alloc (.cells #[.string xp, .string xt, .int .i64 xo, .int .i64 xd, .int .i64 xb] 26) = X2 := ⟨_, rfl⟩
        have hbz : Below wr.heap.size wr X2 := by rw [← hX2]; exact by repeat (first | exact Below.refl _ _ | refine Below.alloc ?_ (by simp <;> omega) _ | refine bDrewN ?_ _ | refine Below.drew ?_)
        have hx3 : LAt X2 (wr.heap.size + 1) 0 ⟨xp, xt, xo, xd, xb⟩ := by subst hX2; exact ⟨by go_simp, by go_simp, by go_simp, by go_simp, by go_simp⟩
        have ho2 := HO.out.on hbz
        obtain ⟨g6, c6, rfl⟩ := ho2.shape
        obtain ⟨g5, c5, w5, hrun, hown, hgrow, hat⟩ := ho2.next hx3 hpl (by have := HB.out.size; have := hbz.size; omega)
        have hbw : Below w.heap.size w X2 := HB.out.trans (hbz.mono HB.out.size)
        have HB5 : Kp (Below w.heap.size w w5) := ⟨hbw.grown hgrow hbw.size (fun j hj => (ho2.block hj).1)⟩
        have HO5 : Kp (OwnL w5 w.heap.size (.slice g5 (L.length + 1) c5) ((l.take (k + 1)).filter fun x => eqS x.p s)) := ⟨by rw [HMO.out, if_pos rfl]; exact hown⟩
        obtain ⟨m, hm⟩ : ∃ m, L.length = m := ⟨_, rfl⟩
        rw [hm] at hrun HO5 HO ⊢
        rw [← hX2] at hrun
        clear hown hgrow hat hbz hx3 hbw ho2 hX2 hm hpl HMO
        go_wp2
        go_roundw
        case rel => exact ⟨k + 1, by omega, by go_num, HO5, HB5⟩
        case measure => simp [intOf]; omega
    · have hkn : k = N := by omega
      have HO2 : Kp (LS wr u9 (l.filter fun x => eqS x.p s)) := ⟨by
        have h := HO.out
        rw [List.take_of_length_le (by rw [HN.out]; omega)] at h
        exact h.ls fun x hx => HWF.out x (List.mem_filter.1 hx).1⟩
      have o1 : ¬ (k : Int) < (N : Int) := by omega
      clear hkn
      go_wp2
      go_ret2
      exact ⟨_, rfl, HO2.out, HB.out⟩
theorem rOf_any (v : Value) (l : List Loan) (s : ByteArray) (w : World) (hv : LS w v l) (hm : l.length ≤ 1000) (hs : s.size ≤ maxLen) : Calls Try.prog 46 #[v, .string s] w (LsPost w (askL (fun x => eqS x.p s) l s) (askE l s)) := by
  have HN : Kp (Calls Try.prog 86 #[v, .string s, .bool true] w (LsPost w (askL (fun x => eqS x.p s) l s) (askE l s))) := ⟨by
    unfold askL
    by_cases h : askE l s = 0
    · rw [if_pos h, h]
      exact rchosenP_ok v l s w hv hm hs h
    · rw [if_neg h]
      exact (rchosenP_no v l s w hv hm hs h).mono fun e w' ⟨h1, h2⟩ => ⟨_, h1, ⟨none, 0, rfl, Nat.le_refl _, fun i x hx => by simp at hx⟩, h2⟩⟩
  obtain ⟨g, c, rfl⟩ := hv.shape
  obtain ⟨N, hN⟩ : ∃ N, l.length = N := ⟨_, rfl⟩
  rw [hN] at HN ⊢
  clear hv hm hs hN
  go_enter Try.func46, Try.ntmps46
  go_wp2_with fail
  refine HN.out.mono ?_
  rintro en w1 ⟨u, rfl, hl, hb⟩
  have HR := Kp.mk (And.intro hl hb)
  clear hl hb
  go_wp2
  go_ret2
  exact ⟨_, rfl, HR.out.1, HR.out.2⟩
theorem rchosenT_no (v : Value) (l : List Loan) (s : ByteArray) (w : World) (hv : LS w v l) (hm : l.length ≤ 1000) (hs : s.size ≤ maxLen) (hE0 : askE l s ≠ 0) : Calls Try.prog 86 #[v, .string s, .bool false] w fun e w' => e = .returned (.tuple #[.slice none 0 0, .int .i64 (askE l s)]) ∧ Below w.heap.size w w' := by
  have HC : Kp (Calls Try.prog 65 #[v, .string s] w fun e w' => e = .returned (.int .i64 (askE l s)) ∧ Below w.heap.size w w') := ⟨rAsked_any v l s w hv hm hs⟩
  obtain ⟨E, hE⟩ : ∃ E, askE l s = E := ⟨_, rfl⟩
  rw [hE] at HC hE0 ⊢
  have j1 : (E == (0 : Int)) = false := by simp [hE0]
  have j2 : (E != (0 : Int)) = true := by simp [hE0]
  have j3 : decide (E = 0) = false := by simp [hE0]
  obtain ⟨g, c, rfl⟩ := hv.shape
  obtain ⟨N, hN⟩ : ∃ N, l.length = N := ⟨_, rfl⟩
  rw [hN] at HC ⊢
  clear hv hm hN hE hs
  go_enter Try.func86, Try.ntmps86
  go_wp2_with fail
  refine HC.out.mono ?_
  rintro en w3 ⟨rfl, hb3⟩
  have HB3 := Kp.mk hb3
  clear hb3
  go_wp2
  go_ret2
  exact ⟨rfl, HB3.out⟩
set_option maxRecDepth 100000 in
set_option maxHeartbeats 2000000 in
theorem rchosenT_ok (v : Value) (l : List Loan) (s : ByteArray) (w : World) (hv : LS w v l) (hm : l.length ≤ 1000) (hs : s.size ≤ maxLen) (hE0 : askE l s = 0) : Calls Try.prog 86 #[v, .string s, .bool false] w (LsPost w (l.filter fun x => eqS x.t s) 0) := by
  have HC : Kp (Calls Try.prog 65 #[v, .string s] w fun e w' => e = .returned (.int .i64 0) ∧ Below w.heap.size w w') := ⟨hE0 ▸ rAsked_any v l s w hv hm hs⟩
  have HWF := Kp.mk hv.wfs
  obtain ⟨g, c, rfl, -, hi⟩ := hv
  have HS := Kp.mk hi
  obtain ⟨N, hN⟩ : ∃ N, l.length = N := ⟨_, rfl⟩
  have HN := Kp.mk hN
  have HM : Kp (N ≤ 1000) := ⟨hN ▸ hm⟩
  rw [hN] at HC ⊢
  clear hi hm hN hs hE0
  go_enter Try.func86, Try.ntmps86
  go_wp2_with fail
  refine HC.out.mono ?_
  rintro en w1 ⟨rfl, hb1⟩
  have HB1 := Kp.mk hb1
  have HO0 : Kp (OwnL w1 w.heap.size (.slice none 0 0) ((l.take 0).filter fun x => eqS x.t s)) := ⟨OwnL.nil _ _⟩
  clear hb1
  go_wp2
  go_loopw [9, 20] (fun r i wr => ∃ k : Nat, k ≤ N ∧ i = .int .i64 k ∧ Kp (OwnL wr w.heap.size r ((l.take k).filter fun x => eqS x.t s)) ∧ Kp (Below w.heap.size w wr)) (fun _ i _ => N - (intOf i).toNat)
  case atStart => exact ⟨0, Nat.zero_le _, rfl, HO0, HB1⟩
  case round =>
    clear HO0
    obtain ⟨k, hk, rfl, HO, HB⟩ := hrel
    by_cases hlt : k < N
    · obtain ⟨x, hx⟩ : ∃ x, l[k]? = some x := ⟨_, List.getElem?_eq_getElem (by rw [HN.out]; exact hlt)⟩
      obtain ⟨b, o, hg, hat, -⟩ := HS.out k x hx
      subst hg
      obtain ⟨d0, d1, d2, d3, d4⟩ := hat.on HB.out
      have o1 : (k : Int) < (N : Int) := by omega
      have o4 : k ≤ 1000 := by have := HM.out; omega
      have hmo := filter_more (q := fun x => eqS x.t s) hx
      obtain ⟨P, hP⟩ : ∃ P, eqS x.t s = P := ⟨_, rfl⟩
      have i1 : (x.t.toList == s.toList) = P := hP
      simp only [hP] at hmo
      have HMO := Kp.mk hmo
      have hpl : ((l.take k).filter fun x => eqS x.t s).length ≤ 100000 := by
        have := List.length_filter_le (fun x => eqS x.t s) (l.take k)
        rw [List.length_take] at this
        omega
      obtain ⟨L, hL⟩ : ∃ L, ((l.take k).filter fun x => eqS x.t s) = L := ⟨_, rfl⟩
      rw [hL] at HO HMO hpl
      obtain ⟨xp, xt, xo, xd, xb⟩ := x
      simp only at d0 d1 d2 d3 d4 i1
      clear hmo hP hx hat hL
      cases P with
      | false =>
        have HO2 : Kp (OwnL (wr.alloc (.cells #[.string xp, .string xt, .int .i64 xo, .int .i64 xd, .int .i64 xb] 26)) w.heap.size u9 ((l.take (k + 1)).filter fun x => eqS x.t s)) := ⟨by rw [HMO.out, if_neg (by decide), List.append_nil]; exact HO.out.on (by repeat (first | exact Below.refl _ _ | refine Below.alloc ?_ (by simp <;> omega) _ | refine bDrewN ?_ _ | refine Below.drew ?_))⟩
        have HB2 : Kp (Below w.heap.size w (wr.alloc (.cells #[.string xp, .string xt, .int .i64 xo, .int .i64 xd, .int .i64 xb] 26))) := ⟨HB.out.alloc HB.out.size _⟩
        go_wp2
        go_roundw
        case rel => exact ⟨k + 1, by omega, by go_num, HO2, HB2⟩
        case measure => simp [intOf]; omega
      | true =>
        obtain ⟨X2, hX2⟩ : ∃ X2, (wr.alloc (.cells #[.string xp, .string xt, .int .i64 xo, .int .i64 xd, .int .i64 xb] 26)).alloc (.cells #[.string xp, .string xt, .int .i64 xo, .int .i64 xd, .int .i64 xb] 26) = X2 := ⟨_, rfl⟩
        have hbz : Below wr.heap.size wr X2 := by rw [← hX2]; exact by repeat (first | exact Below.refl _ _ | refine Below.alloc ?_ (by simp <;> omega) _ | refine bDrewN ?_ _ | refine Below.drew ?_)
        have hx3 : LAt X2 (wr.heap.size + 1) 0 ⟨xp, xt, xo, xd, xb⟩ := by subst hX2; exact ⟨by go_simp, by go_simp, by go_simp, by go_simp, by go_simp⟩
        have ho2 := HO.out.on hbz
        obtain ⟨g6, c6, rfl⟩ := ho2.shape
        obtain ⟨g5, c5, w5, hrun, hown, hgrow, hat⟩ := ho2.next hx3 hpl (by have := HB.out.size; have := hbz.size; omega)
        have hbw : Below w.heap.size w X2 := HB.out.trans (hbz.mono HB.out.size)
        have HB5 : Kp (Below w.heap.size w w5) := ⟨hbw.grown hgrow hbw.size (fun j hj => (ho2.block hj).1)⟩
        have HO5 : Kp (OwnL w5 w.heap.size (.slice g5 (L.length + 1) c5) ((l.take (k + 1)).filter fun x => eqS x.t s)) := ⟨by rw [HMO.out, if_pos rfl]; exact hown⟩
        obtain ⟨m, hm⟩ : ∃ m, L.length = m := ⟨_, rfl⟩
        rw [hm] at hrun HO5 HO ⊢
        rw [← hX2] at hrun
        clear hown hgrow hat hbz hx3 hbw ho2 hX2 hm hpl HMO
        go_wp2
        go_roundw
        case rel => exact ⟨k + 1, by omega, by go_num, HO5, HB5⟩
        case measure => simp [intOf]; omega
    · have hkn : k = N := by omega
      have HO2 : Kp (LS wr u9 (l.filter fun x => eqS x.t s)) := ⟨by
        have h := HO.out
        rw [List.take_of_length_le (by rw [HN.out]; omega)] at h
        exact h.ls fun x hx => HWF.out x (List.mem_filter.1 hx).1⟩
      have o1 : ¬ (k : Int) < (N : Int) := by omega
      clear hkn
      go_wp2
      go_ret2
      exact ⟨_, rfl, HO2.out, HB.out⟩
theorem rTo_any (v : Value) (l : List Loan) (s : ByteArray) (w : World) (hv : LS w v l) (hm : l.length ≤ 1000) (hs : s.size ≤ maxLen) : Calls Try.prog 48 #[v, .string s] w (LsPost w (askL (fun x => eqS x.t s) l s) (askE l s)) := by
  have HN : Kp (Calls Try.prog 86 #[v, .string s, .bool false] w (LsPost w (askL (fun x => eqS x.t s) l s) (askE l s))) := ⟨by
    unfold askL
    by_cases h : askE l s = 0
    · rw [if_pos h, h]
      exact rchosenT_ok v l s w hv hm hs h
    · rw [if_neg h]
      exact (rchosenT_no v l s w hv hm hs h).mono fun e w' ⟨h1, h2⟩ => ⟨_, h1, ⟨none, 0, rfl, Nat.le_refl _, fun i x hx => by simp at hx⟩, h2⟩⟩
  obtain ⟨g, c, rfl⟩ := hv.shape
  obtain ⟨N, hN⟩ : ∃ N, l.length = N := ⟨_, rfl⟩
  rw [hN] at HN ⊢
  clear hv hm hs hN
  go_enter Try.func48, Try.ntmps48
  go_wp2_with fail
  refine HN.out.mono ?_
  rintro en w1 ⟨u, rfl, hl, hb⟩
  have HR := Kp.mk (And.intro hl hb)
  clear hl hb
  go_wp2
  go_ret2
  exact ⟨_, rfl, HR.out.1, HR.out.2⟩
set_option maxHeartbeats 1000000 in
theorem same_loans (v u : Value) (L : List Loan) (w : World) (hl : L.length ≤ 1000) (h1 : LS w v L) (h2 : LS w u L) : Calls Try.prog 32 #[v, u] w fun e w' => e = .returned (.bool true) ∧ Below w.heap.size w w' := by
  obtain ⟨g, cap, rfl, -, hc1⟩ := h1
  obtain ⟨g', cap', rfl, -, hc2⟩ := h2
  have H1 := Lib.hid hc1
  have H2 := Lib.hid hc2
  clear hc1 hc2
  have hlen : ((L.length : Int) != (L.length : Int)) = false := by simp
  go_enter Try.func32, Try.ntmps32
  go_wp2
  go_loopw [13] (fun i wr => ∃ k : Nat, k ≤ L.length ∧ i = .int .i64 (k : Int) ∧ Kp (Below w.heap.size w wr)) (fun i _ => L.length - (intOf i).toNat)
  case atStart => exact ⟨0, Nat.zero_le _, rfl, ⟨Below.refl _ _⟩⟩
  case round =>
    obtain ⟨k, hk, rfl, HB⟩ := hrel
    by_cases hlt : k < L.length
    · obtain ⟨x, hx⟩ : ∃ x, L[k]? = some x := ⟨L[k], List.getElem?_eq_getElem hlt⟩
      obtain ⟨b, o, hg, hat, -⟩ := H1.out k x hx
      obtain ⟨b', o', hg', hat', -⟩ := H2.out k x hx
      subst hg
      subst hg'
      obtain ⟨d0, d1, d2, d3, d4⟩ := hat.on HB.out
      obtain ⟨f0, f1, f2, f3, f4⟩ := hat'.on HB.out
      have o1 : (k : Int) < (L.length : Int) := by omega
      obtain ⟨xp, xt, xo, xd, xb⟩ := x
      simp only at d0 d1 d2 d3 d4 f0 f1 f2 f3 f4
      clear hx hat hat'
      have rg_d0 := fun d os => cell_regrown d0 d os
      have rg_d1 := fun d os => cell_regrown d1 d os
      have rg_d2 := fun d os => cell_regrown d2 d os
      have rg_d3 := fun d os => cell_regrown d3 d os
      have rg_d4 := fun d os => cell_regrown d4 d os
      have rg_f0 := fun d os => cell_regrown f0 d os
      have rg_f1 := fun d os => cell_regrown f1 d os
      have rg_f2 := fun d os => cell_regrown f2 d os
      have rg_f3 := fun d os => cell_regrown f3 d os
      have rg_f4 := fun d os => cell_regrown f4 d os
      clear d0 d1 d2 d3 d4 f0 f1 f2 f3 f4
      go_wp2
      refine wp_region_quiet_below (by kernel_rfl) (by kernel_rfl) ?_
      repeat (any_goals (first | go_big_quiet_step (fail) | quiet_step (fail)))
      refine wpQuiet_nil ?_
      intro _ hqw
      obtain ⟨⟨dq, osq⟩, hqv⟩ := hqw
      subst hqv
      obtain ⟨wq, hqwq⟩ : ∃ wq, grow (redrawn (wr) dq) osq = wq := ⟨_, rfl⟩
      have hbwq : Below (wr).heap.size (wr) wq := by rw [← hqwq]; exact below_regrown _ dq osq
      rw [hqwq]
      clear hqwq
      have HBQ := Kp.mk (HB.out.trans (hbwq.mono HB.out.size))
      clear hbwq
      go_wp2
      go_roundw
      case rel => exact ⟨k + 1, by omega, by go_num, HBQ⟩
      case measure => simp [intOf]; omega
    · have o1 : ¬ (k : Int) < (L.length : Int) := by omega
      go_wp2
      go_ret
      exact ⟨rfl, HB.out⟩
end Go.Proofs.Ytaofjomocefdkaa.Ln
