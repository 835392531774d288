/-
  WALKS (layer 9, loan): the reference's listed, Out and Overdue.
-/
import Derived.Test.YtaofjomocefdkaaLnRWhere
namespace Go.Proofs.Ytaofjomocefdkaa.Ln
open Go Go.RowKit Go.Sort
attribute [-go_sem] Builtin.append_

/-- A loan is out, and late if this is asked. -/
def rlB (late : Bool) (x : Loan) (d : Int) : Bool := rOutB x d && ((!late) || decide (x.due ≤ d))
theorem idP_succ {q : Loan → Bool} {l : List Loan} {k : Nat} {x : Loan} (hx : l[k]? = some x) : idL (ixP q l (k + 1)) = idL (ixP q l k) ++ if q x = true then [(k : Int)] else [] := by
  rw [ixP_succ hx]
  unfold idL
  rw [List.map_append]
  cases q x <;> rfl
theorem onE_not {l : List Loan} {d : Int} (hv : validL l = false) : onE l d = 1 := by rw [onE_ask, hv]; rfl
theorem onE_bad {l : List Loan} {d : Int} (hv : validL l = true) (hd : dayB d = false) : onE l d = 7 := by rw [onE_ask, hv, hd]; rfl
theorem onE_ok {l : List Loan} {d : Int} (hv : validL l = true) (hd : dayB d = true) : onE l d = 0 := by rw [onE_ask, hv, hd]; rfl
theorem onL_no {q : Loan → Bool} {l : List Loan} {d : Int} (h : onE l d ≠ 0) : onL q l d = [] := by unfold onL; rw [if_neg h]
theorem onL_yes {q : Loan → Bool} {l : List Loan} {d : Int} (h : onE l d = 0) : onL q l d = idL (ixL q l) := by unfold onL; rw [if_pos h]
theorem rListed_no (v : Value) (l : List Loan) (d : Int) (late : Bool) (w : World) (hv : LS w v l) (hm : l.length ≤ 1000) (hE0 : onE l d ≠ 0) : Calls Try.prog 69 #[v, .int .i64 d, .bool late] w fun e w' => e = .returned (.tuple #[.slice none 0 0, .int .i64 (onE l d)]) ∧ Below w.heap.size w w' := by
  have HA : Kp (Calls Try.prog 22 #[v] w fun e w' => e = .returned (.bool (validL l)) ∧ Below w.heap.size w w') := ⟨rValid_any v l w hv hm⟩
  have HD : Kp (∀ W, Calls Try.prog 66 #[.int .i64 d] W fun e w' => e = .returned (.bool (dayB d)) ∧ Below W.heap.size W w') := ⟨fun W => rDay_any d W⟩
  rw [onE_ask] at hE0 ⊢
  obtain ⟨V, hV⟩ : ∃ V, validL l = V := ⟨_, rfl⟩
  obtain ⟨B, hB⟩ : ∃ B, dayB d = B := ⟨_, rfl⟩
  rw [hV] at HA hE0 ⊢
  rw [hB] at HD hE0 ⊢
  obtain ⟨g, c, rfl⟩ := hv.shape
  obtain ⟨N, hN⟩ : ∃ N, l.length = N := ⟨_, rfl⟩
  rw [hN] at HA ⊢
  clear hv hm hV hB hN
  cases V with
  | false =>
    go_enter Try.func69, Try.ntmps69
    go_wp2_with fail
    refine HA.out.mono ?_
    rintro en w1 ⟨rfl, hb1⟩
    have HB1 := Kp.mk hb1
    clear hb1
    go_wp2
    go_ret2
    exact ⟨rfl, HB1.out⟩
  | true =>
    cases B with
    | true => exact absurd rfl hE0
    | false =>
      go_enter Try.func69, Try.ntmps69
      go_wp2_with fail
      refine HA.out.mono ?_
      rintro en w1 ⟨rfl, hb1⟩
      have HB1 := Kp.mk hb1
      clear hb1
      go_wp2_with fail
      refine (HD.out _).mono ?_
      rintro en w2 ⟨rfl, hb2⟩
      have HB2 := Kp.mk (HB1.out.trans (hb2.mono HB1.out.size))
      clear hb2
      go_wp2
      go_ret2
      exact ⟨rfl, HB2.out⟩
set_option maxRecDepth 100000 in
set_option maxHeartbeats 2000000 in
theorem rListed_ok (v : Value) (l : List Loan) (d : Int) (late : Bool) (w : World) (hv : LS w v l) (hm : l.length ≤ 1000) (hva : validL l = true) (hda : dayB d = true) : Calls Try.prog 69 #[v, .int .i64 d, .bool late] w (IsPost w (idL (ixL (fun x => rlB late x d) l)) 0) := by
  have HA : Kp (Calls Try.prog 22 #[v] w fun e w' => e = .returned (.bool true) ∧ Below w.heap.size w w') := ⟨hva ▸ rValid_any v l w hv hm⟩
  have HD : Kp (∀ W, Calls Try.prog 66 #[.int .i64 d] W fun e w' => e = .returned (.bool true) ∧ Below W.heap.size W w') := ⟨fun W => hda ▸ rDay_any d W⟩
  obtain ⟨g, c, rfl, -, hi⟩ := hv
  have HS := Kp.mk hi
  obtain ⟨N, hN⟩ : ∃ N, l.length = N := ⟨_, rfl⟩
  have HN := Kp.mk hN
  have HM : Kp (N ≤ 1000) := ⟨hN ▸ hm⟩
  rw [hN] at HA ⊢
  clear hi hm hN hva hda
  obtain ⟨q, hq⟩ : ∃ q : Loan → Bool, (fun x => rlB late x d) = q := ⟨_, rfl⟩
  have HQ : Kp (∀ x, q x = (rOutB x d && ((!late) || decide (x.due ≤ d)))) := ⟨fun x => by rw [← hq]; rfl⟩
  rw [hq]
  clear hq
  go_enter Try.func69, Try.ntmps69
  go_wp2_with fail
  refine HA.out.mono ?_
  rintro en w0 ⟨rfl, hb0⟩
  have HB0 := Kp.mk hb0
  clear hb0
  go_wp2_with fail
  refine (HD.out _).mono ?_
  rintro en w1 ⟨rfl, hb1⟩
  have HB1 := Kp.mk (HB0.out.trans (hb1.mono HB0.out.size))
  have HO0 : Kp (OwnI w1 w.heap.size (.slice none 0 0) (idL (ixP q l 0))) := ⟨by rw [ixP_zero]; exact OwnI.nil _ _⟩
  clear hb1
  go_wp2
  go_loopw [8, 19] (fun r i wr => ∃ k : Nat, k ≤ N ∧ i = .int .i64 k ∧ Kp (OwnI wr w.heap.size r (idL (ixP q l k))) ∧ Kp (Below w.heap.size w wr)) (fun _ i _ => N - (intOf i).toNat)
  case atStart => exact ⟨0, Nat.zero_le _, rfl, HO0, HB1⟩
  case round =>
    clear HO0
    obtain ⟨k, hk, rfl, HO, HB⟩ := hrel
    by_cases hlt : k < N
    · obtain ⟨x, hx⟩ : ∃ x, l[k]? = some x := ⟨_, List.getElem?_eq_getElem (by rw [HN.out]; exact hlt)⟩
      obtain ⟨b, o, hg, hat, -⟩ := HS.out k x hx
      subst hg
      obtain ⟨d0, d1, d2, d3, d4⟩ := hat.on HB.out
      have o1 : (k : Int) < (N : Int) := by omega
      have o4 : k ≤ 1000 := by have := HM.out; omega
      have hmo := idP_succ (q := q) hx
      rw [HQ.out x] at hmo
      have HCO : Kp (∀ W, Calls Try.prog 84 #[.agg #[.string x.p, .string x.t, .int .i64 x.out, .int .i64 x.due, .int .i64 x.back], .int .i64 d] W fun e w' => e = .returned (.bool (rOutB x d)) ∧ Below W.heap.size W w') := ⟨fun W => rOut1_any x d W⟩
      have hpl : (idL (ixP q l k)).length ≤ 100000 := by rw [idL_len]; have := ixP_len q l k; omega
      obtain ⟨P, hP⟩ : ∃ P, rOutB x d = P := ⟨_, rfl⟩
      obtain ⟨R, hR⟩ : ∃ R, decide (x.due ≤ d) = R := ⟨_, rfl⟩
      rw [hP, hR] at hmo
      rw [hP] at HCO
      have HMO := Kp.mk hmo
      obtain ⟨L, hL⟩ : ∃ L, idL (ixP q l k) = L := ⟨_, rfl⟩
      rw [hL] at HO HMO hpl
      have i1 : decide (x.due ≤ d) = R := hR
      obtain ⟨xp, xt, xo, xd, xb⟩ := x
      simp only at d0 d1 d2 d3 d4 i1 HCO
      have HB2 : Kp (Below w.heap.size w (wr.alloc (.cells #[.string xp, .string xt, .int .i64 xo, .int .i64 xd, .int .i64 xb] 26))) := ⟨HB.out.alloc HB.out.size _⟩
      have hla : LAt (wr.alloc (.cells #[.string xp, .string xt, .int .i64 xo, .int .i64 xd, .int .i64 xb] 26)) wr.heap.size 0 ⟨xp, xt, xo, xd, xb⟩ := ⟨by go_simp, by go_simp, by go_simp, by go_simp, by go_simp⟩
      have HLA := Kp.mk hla
      have HOB : Kp (OwnI (wr.alloc (.cells #[.string xp, .string xt, .int .i64 xo, .int .i64 xd, .int .i64 xb] 26)) w.heap.size u8 L) := ⟨HO.out.on (by repeat (first | exact Below.refl _ _ | refine Below.alloc ?_ (by simp <;> omega) _ | refine bDrewN ?_ _ | refine Below.drew ?_))⟩
      clear hmo hP hx hat hL hR hla
      go_wp2_with fail
      refine (HCO.out _).mono ?_
      rintro en w2 ⟨rfl, hb2⟩
      have HB3 : Kp (Below w.heap.size w w2) := ⟨HB2.out.trans (hb2.mono HB2.out.size)⟩
      have HO3 := Kp.mk (HOB.out.on hb2)
      obtain ⟨p0, p1, p2, p3, p4⟩ := HLA.out.on hb2
      simp only [Nat.zero_add] at p0 p1 p2 p3 p4
      clear hb2
      obtain ⟨K, hK⟩ : ∃ K, (P && ((!late) || R)) = K := ⟨_, rfl⟩
      have HMK : Kp (idL (ixP q l (k + 1)) = L ++ if K = true then [(k : Int)] else []) := ⟨by rw [← hK]; exact HMO.out⟩
      clear HMO
      cases K with
      | false =>
        have HO4 : Kp (OwnI w2 w.heap.size u8 (idL (ixP q l (k + 1)))) := ⟨by rw [HMK.out, if_neg (by decide), List.append_nil]; exact HO3.out⟩
        cases P <;> cases late <;> cases R <;> first | (exfalso; revert hK; decide) | skip
        all_goals
          clear hK
          go_wp2
          go_roundw
          case rel => exact ⟨k + 1, by omega, by go_num, HO4, HB3⟩
          case measure => simp [intOf]; omega
      | true =>
        obtain ⟨X2, hX2⟩ : ∃ X2, w2.alloc (.cells #[.int .i64 k] 3) = X2 := ⟨_, rfl⟩
        have hbz : Below w2.heap.size w2 X2 := by rw [← hX2]; exact by repeat (first | exact Below.refl _ _ | refine Below.alloc ?_ (by simp <;> omega) _ | refine bDrewN ?_ _ | refine Below.drew ?_)
        have hx3 : X2.cell? ⟨w2.heap.size, 0, none⟩ = some (.int .i64 k) := by subst hX2; go_simp
        have ho2 := HO3.out.on hbz
        obtain ⟨g6, c6, rfl⟩ := ho2.shape
        obtain ⟨g5, c5, w5, hrun, hown, hgrow, hat⟩ := ho2.next hx3 hpl (by have := HB3.out.size; have := hbz.size; omega)
        have hbw : Below w.heap.size w X2 := HB3.out.trans (hbz.mono HB3.out.size)
        have HB5 : Kp (Below w.heap.size w w5) := ⟨hbw.grown hgrow hbw.size (fun j hj => (ho2.block hj).1)⟩
        have HO5 : Kp (OwnI w5 w.heap.size (.slice g5 (L.length + 1) c5) (idL (ixP q l (k + 1)))) := ⟨by rw [HMK.out, if_pos rfl]; exact hown⟩
        obtain ⟨m, hm⟩ : ∃ m, L.length = m := ⟨_, rfl⟩
        rw [hm] at hrun HO5 HO ⊢
        rw [← hX2] at hrun
        clear hown hgrow hat hbz hx3 hbw ho2 hX2 hm hpl HMK HOB HO3
        cases P <;> cases late <;> cases R <;> first | (exfalso; revert hK; decide) | skip
        all_goals
          clear hK
          go_wp2
          go_roundw
          case rel => exact ⟨k + 1, by omega, by go_num, HO5, HB5⟩
          case measure => simp [intOf]; omega
    · have hkn : k = N := by omega
      have HO2 : Kp (RI wr u8 (idL (ixL q l))) := ⟨by
        have h := HO.out
        rw [hkn, ← HN.out] at h
        exact h.ri⟩
      have o1 : ¬ (k : Int) < (N : Int) := by omega
      clear hkn
      go_wp2
      go_ret2
      exact ⟨_, rfl, HO2.out, HB.out⟩
theorem ixP_congr {q q' : Loan → Bool} {l : List Loan} {k : Nat} (h : ∀ x ∈ l, q x = q' x) : ixP q l k = ixP q' l k := by
  unfold ixP
  congr 1
  refine List.filter_congr fun p hp => h p.1 ?_
  have := List.mem_of_mem_take hp
  obtain ⟨i, hi, he⟩ := List.mem_iff_getElem.1 this
  rw [List.getElem_zipIdx] at he
  subst he
  exact List.getElem_mem _
theorem late_eq {x : Loan} {d : Int} (hx : okB x = true) (hd : d ≤ 100000) : rlB true x d = lateB x d := by
  unfold rlB lateB
  rw [rOut_eq hd]
  unfold outB
  unfold okB at hx
  simp only [Bool.and_eq_true, decide_eq_true_eq] at hx
  by_cases h : x.due ≤ d
  · rw [decide_eq_true h, decide_eq_true (show x.out ≤ d by omega)]
    simp
  · rw [decide_eq_false h]
    simp
theorem dayB_le {d : Int} (h : dayB d = true) : d ≤ 100000 := by
  unfold dayB at h
  simp only [Bool.and_eq_true, decide_eq_true_eq] at h
  exact h.2
theorem rListed_any (v : Value) (l : List Loan) (d : Int) (late : Bool) (q : Loan → Bool) (w : World) (hv : LS w v l) (hm : l.length ≤ 1000) (hq : validL l = true → dayB d = true → ∀ x ∈ l, rlB late x d = q x) : Calls Try.prog 69 #[v, .int .i64 d, .bool late] w (IsPost w (onL q l d) (onE l d)) := by
  by_cases hva : validL l = true
  · by_cases hda : dayB d = true
    · have e := onE_ok hva hda
      rw [e, onL_yes e]
      have := rListed_ok v l d late w hv hm hva hda
      unfold ixL at this ⊢
      rwa [ixP_congr (hq hva hda)] at this
    · have e := onE_bad hva (by simpa using hda)
      rw [onL_no (by rw [e]; decide)]
      refine (rListed_no v l d late w hv hm (by rw [e]; decide)).mono ?_
      rintro en w1 ⟨rfl, hb⟩
      exact ⟨_, rfl, ⟨none, 0, rfl, fun i x hx => by simp at hx⟩, hb⟩
  · have e := onE_not (d := d) (by simpa using hva)
    rw [onL_no (by rw [e]; decide)]
    refine (rListed_no v l d late w hv hm (by rw [e]; decide)).mono ?_
    rintro en w1 ⟨rfl, hb⟩
    exact ⟨_, rfl, ⟨none, 0, rfl, fun i x hx => by simp at hx⟩, hb⟩
theorem rOut_any (v : Value) (l : List Loan) (d : Int) (w : World) (hv : LS w v l) (hm : l.length ≤ 1000) : Calls Try.prog 26 #[v, .int .i64 d] w (IsPost w (onL (fun x => outB x d) l d) (onE l d)) := by
  have HN : Kp (Calls Try.prog 69 #[v, .int .i64 d, .bool false] w (IsPost w (onL (fun x => outB x d) l d) (onE l d))) := ⟨rListed_any v l d false _ w hv hm fun _ h x _ => by unfold rlB; rw [rOut_eq (dayB_le h)]; simp⟩
  obtain ⟨g, c, rfl⟩ := hv.shape
  obtain ⟨N, hN⟩ : ∃ N, l.length = N := ⟨_, rfl⟩
  rw [hN] at HN ⊢
  clear hv hm hN
  go_enter Try.func26, Try.ntmps26
  go_wp2_with fail
  refine HN.out.mono ?_
  rintro en w1 ⟨u, rfl, hl, hb⟩
  have HR := Kp.mk (And.intro hl hb)
  clear hl hb
  go_wp2
  go_ret2
  exact ⟨_, rfl, HR.out.1, HR.out.2⟩
theorem rOverdue_any (v : Value) (l : List Loan) (d : Int) (w : World) (hv : LS w v l) (hm : l.length ≤ 1000) : Calls Try.prog 28 #[v, .int .i64 d] w (IsPost w (onL (fun x => lateB x d) l d) (onE l d)) := by
  have HN : Kp (Calls Try.prog 69 #[v, .int .i64 d, .bool true] w (IsPost w (onL (fun x => lateB x d) l d) (onE l d))) := ⟨rListed_any v l d true _ w hv hm fun h1 h x hx => late_eq (validL_ok h1 hx) (dayB_le h)⟩
  obtain ⟨g, c, rfl⟩ := hv.shape
  obtain ⟨N, hN⟩ : ∃ N, l.length = N := ⟨_, rfl⟩
  rw [hN] at HN ⊢
  clear hv hm hN
  go_enter Try.func28, Try.ntmps28
  go_wp2_with fail
  refine HN.out.mono ?_
  rintro en w1 ⟨u, rfl, hl, hb⟩
  have HR := Kp.mk (And.intro hl hb)
  clear hl hb
  go_wp2
  go_ret2
  exact ⟨_, rfl, HR.out.1, HR.out.2⟩
end Go.Proofs.Ytaofjomocefdkaa.Ln
