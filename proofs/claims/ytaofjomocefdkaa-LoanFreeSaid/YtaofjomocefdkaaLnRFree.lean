/-
  WALKS (layer 9, loan): the first day from which a piece is at home, by the reference.
-/
import Derived.Test.YtaofjomocefdkaaLnFree
import Derived.Test.YtaofjomocefdkaaLnRList
namespace Go.Proofs.Ytaofjomocefdkaa.Ln
open Go Go.RowKit Go.Sort
attribute [-go_sem] Builtin.append_

theorem OwnI.made (w : World) (B0 : Nat) (x : Int) (hB : B0 ≤ w.heap.size) : OwnI (w.alloc (.cells #[.int .i64 x] 3)) B0 (.slice (some ⟨w.heap.size, 0, none⟩) 1 1) [x] :=
  ⟨rfl, .inr ⟨w.heap.size, 1, #[.int .i64 x], rfl, hB, World.alloc_heap_new w _, Nat.le_refl _, by unfold maxLen; decide, rfl, rfl⟩⟩
theorem tries_more {l : List Loan} {k : Nat} {x : Loan} {fr : Int} (hx : l[k]? = some x) : triesL (l.take (k + 1)) fr = triesL (l.take k) fr ++ [x.back] := by
  have hk := (List.getElem?_eq_some_iff.1 hx).1
  have e : l[k] = x := (List.getElem?_eq_some_iff.1 hx).2
  unfold triesL
  rw [List.take_succ_eq_append_getElem hk, e]
  simp
theorem bestF_take {c : Int → Bool} {T : List Int} {m : Nat} {d b : Int} (h : T[m]? = some d) : bestF c (T.take (m + 1)) b = if c d = true ∧ (bestF c (T.take m) b < 0 ∨ d < bestF c (T.take m) b) then d else bestF c (T.take m) b := by
  have hk := (List.getElem?_eq_some_iff.1 h).1
  have e : T[m] = d := (List.getElem?_eq_some_iff.1 h).2
  rw [List.take_succ_eq_append_getElem hk, e, bestF_snoc]
theorem all_more {p : Loan → Bool} {l : List Loan} {k : Nat} {x : Loan} (hx : l[k]? = some x) : (l.take (k + 1)).all p = ((l.take k).all p && p x) := by
  have hk := (List.getElem?_eq_some_iff.1 hx).1
  have e : l[k] = x := (List.getElem?_eq_some_iff.1 hx).2
  rw [List.take_succ_eq_append_getElem hk, e, List.all_append]
  simp
theorem frC_ask (l : List Loan) (s : ByteArray) (fr n : Int) : frC l s fr n = if askE l s = 0 then (if (dayB fr && (decide (1 ≤ n) && decide (n ≤ 10000))) = true then 0 else 7) else askE l s := by
  have e : (allIn 0 100000 [fr] && allIn 1 10000 [n]) = (dayB fr && (decide (1 ≤ n) && decide (n ≤ 10000))) := by rw [allIn_uno, allIn_uno]; rfl
  unfold frC askE
  rw [e]
  generalize validL l = V
  generalize nameB s = m
  generalize (dayB fr && (decide (1 ≤ n) && decide (n ≤ 10000))) = R
  cases V <;> cases m <;> cases R <;> rfl
set_option maxHeartbeats 1000000 in
theorem rFree_no (v : Value) (l : List Loan) (s : ByteArray) (fr n : Int) (w : World) (hv : LS w v l) (hm : l.length ≤ 1000) (hs : s.size ≤ maxLen) (hE0 : frC l s fr n ≠ 0) :
    Calls Try.prog 44 #[v, .string s, .int .i64 fr, .int .i64 n] w fun e w' => e = .returned (.tuple #[.int .i64 0, .int .i64 (frC l s fr n)]) ∧ Below w.heap.size w w' := by
  have HA : Kp (Calls Try.prog 65 #[v, .string s] w fun e w' => e = .returned (.int .i64 (askE l s)) ∧ Below w.heap.size w w') := ⟨rAsked_any v l s w hv hm hs⟩
  have HD : Kp (∀ W, Calls Try.prog 66 #[.int .i64 fr] W fun e w' => e = .returned (.bool (dayB fr)) ∧ Below W.heap.size W w') := ⟨fun W => rDay_any fr W⟩
  rw [frC_ask] at hE0 ⊢
  obtain ⟨E, hE⟩ : ∃ E, askE l s = E := ⟨_, rfl⟩
  obtain ⟨A, hA⟩ : ∃ A, dayB fr = A := ⟨_, rfl⟩
  obtain ⟨P, hP⟩ : ∃ P, decide (1 ≤ n) = P := ⟨_, rfl⟩
  obtain ⟨Q, hQ⟩ : ∃ Q, decide (n ≤ 10000) = Q := ⟨_, rfl⟩
  have i8 : decide (n < 1) = !P := by rw [← hP, Bool.eq_iff_iff]; simp
  have i9 : decide (10000 < n) = !Q := by rw [← hQ, Bool.eq_iff_iff]; simp
  rw [hE] at HA hE0 ⊢
  rw [hA] at HD hE0 ⊢
  rw [hP, hQ] at hE0 ⊢
  obtain ⟨g, c, rfl⟩ := hv.shape
  obtain ⟨N, hN⟩ : ∃ N, l.length = N := ⟨_, rfl⟩
  rw [hN] at HA ⊢
  clear hv hm hs hE hA hP hQ hN
  by_cases h0 : E = 0
  · subst h0
    rw [if_pos rfl] at hE0 ⊢
    cases A <;> cases P <;> cases Q <;> first | (exfalso; exact hE0 rfl) | skip
    all_goals
      go_enter Try.func44, Try.ntmps44
      go_wp2_with fail
      refine HA.out.mono ?_
      rintro en w1 ⟨rfl, hb1⟩
      have HB1 := Kp.mk hb1
      clear hb1
      go_wp2_with fail
      refine (HD.out _).mono ?_
      rintro en w2 ⟨rfl, hb2⟩
      have HB2 := Kp.mk (HB1.out.trans (hb2.mono HB1.out.size))
      clear hb2
      go_wp2
      go_ret2
      exact ⟨rfl, HB2.out⟩
  · rw [if_neg h0]
    have j1 : (E == (0 : Int)) = false := by simp [h0]
    have j2 : (E != (0 : Int)) = true := by simp [h0]
    clear h0 hE0
    go_enter Try.func44, Try.ntmps44
    go_wp2_with fail
    refine HA.out.mono ?_
    rintro en w1 ⟨rfl, hb1⟩
    have HB1 := Kp.mk hb1
    clear hb1
    go_wp2
    go_ret2
    exact ⟨rfl, HB1.out⟩
set_option maxRecDepth 100000 in
set_option maxHeartbeats 4000000 in
theorem rFree_ok (v : Value) (l : List Loan) (s : ByteArray) (fr n : Int) (w : World) (hv : LS w v l) (hm : l.length ≤ 1000) (hs : s.size ≤ maxLen) (hE0 : frC l s fr n = 0) :
    Calls Try.prog 44 #[v, .string s, .int .i64 fr, .int .i64 n] w fun e w' => e = .returned (.tuple #[.int .i64 (if frL l s fr n + n ≤ 100001 then frL l s fr n else 0), .int .i64 (if frL l s fr n + n ≤ 100001 then 0 else 8)]) ∧ Below w.heap.size w w' := by
  obtain ⟨hva, hnm, hfr, hn⟩ := frC_zero hE0
  have hask : askE l s = 0 := by unfold askE chkE; rw [hva, hnm]; rfl
  have hday : dayB fr = true := by unfold dayB; rw [decide_eq_true hfr.1, decide_eq_true hfr.2]; rfl
  have HA : Kp (Calls Try.prog 65 #[v, .string s] w fun e w' => e = .returned (.int .i64 0) ∧ Below w.heap.size w w') := ⟨hask ▸ rAsked_any v l s w hv hm hs⟩
  have HD : Kp (∀ W, Calls Try.prog 66 #[.int .i64 fr] W fun e w' => e = .returned (.bool true) ∧ Below W.heap.size W w') := ⟨fun W => hday ▸ rDay_any fr W⟩
  have HOK : Kp (∀ x ∈ l, ((0 ≤ x.out ∧ x.out ≤ 100000) ∧ (0 ≤ home x ∧ home x ≤ 100001)) ∧ 0 ≤ x.back ∧ x.back ≤ 100000) := ⟨fun x hx => by
    have h1 := validL_ok hva hx
    have h2 := okB_days h1
    refine ⟨⟨h2.1, h2.2.2⟩, ?_⟩
    unfold okB at h1
    simp only [Bool.and_eq_true, decide_eq_true_eq] at h1
    omega⟩
  have HBF := Kp.mk (best_free (l := l) (s := s) hva hn.1 hfr.1)
  obtain ⟨cd, hcd⟩ : ∃ cd : Int → Bool, candB l s fr n = cd := ⟨_, rfl⟩
  have HCD : Kp (∀ d, cd d = (decide (fr ≤ d) && (decide (d + n ≤ 100001) && freeB l s d n))) := ⟨fun d => by rw [← hcd]; rfl⟩
  rw [hcd] at HBF
  obtain ⟨F, hF⟩ : ∃ F, frL l s fr n = F := ⟨_, rfl⟩
  have HF0 : Kp (0 ≤ F) := ⟨by rw [← hF]; exact (frF_bd _ _ (fun q hq => (cal_bd hva s q hq).2) hfr.1 (by omega)).1⟩
  rw [hF] at HBF ⊢
  obtain ⟨vF, hvF⟩ : ∃ x, (if F + n ≤ 100001 then F else 0) = x := ⟨_, rfl⟩
  obtain ⟨vE, hvE⟩ : ∃ x : Int, (if F + n ≤ 100001 then 0 else 8) = x := ⟨_, rfl⟩
  rw [hvF, hvE]
  have HVF := Kp.mk hvF
  have HVE := Kp.mk hvE
  clear hvF hvE
  have hwf := hv.wfs
  obtain ⟨g, c, rfl, -, hi⟩ := hv
  have HS := Kp.mk hi
  obtain ⟨N, hN⟩ : ∃ N, l.length = N := ⟨_, rfl⟩
  have HN := Kp.mk hN
  have HM : Kp (N ≤ 1000) := ⟨hN ▸ hm⟩
  have HNN := Kp.mk hn
  have HFR := Kp.mk hfr
  rw [hN] at HA ⊢
  have k1 : ¬ n < 1 := by omega
  have k2 : ¬ (10000 : Int) < n := by omega
  clear hi hm hs hE0 hva hnm hask hday hcd hF hN hn hfr hwf
  go_enter Try.func44, Try.ntmps44
  go_wp2_with fail
  refine HA.out.mono ?_
  rintro en w1 ⟨rfl, hb1⟩
  have HB1 := Kp.mk hb1
  clear hb1
  go_wp2_with fail
  refine (HD.out _).mono ?_
  rintro en w2 ⟨rfl, hb2⟩
  have HB2 := Kp.mk (HB1.out.trans (hb2.mono HB1.out.size))
  clear hb2
  go_wp2
  obtain ⟨w3, hw3⟩ : ∃ w3, w2.alloc (.cells #[.int .i64 fr] 3) = w3 := ⟨_, rfl⟩
  have HB3 : Kp (Below w.heap.size w w3) := ⟨by rw [← hw3]; exact HB2.out.alloc HB2.out.size _⟩
  have HO0 : Kp (OwnI w3 w.heap.size (.slice (some ⟨w2.heap.size, 0, none⟩) 1 1) (triesL (l.take 0) fr)) := ⟨by rw [← hw3]; exact OwnI.made w2 _ fr HB2.out.size⟩
  try rw [hw3]
  clear hw3
  go_loopw [12, 41] (fun r i wr => ∃ k : Nat, k ≤ N ∧ i = .int .i64 k ∧ Kp (OwnI wr w.heap.size r (triesL (l.take k) fr)) ∧ Kp (Below w.heap.size w wr)) (fun _ i _ => N - (intOf i).toNat)
  case atStart => exact ⟨0, Nat.zero_le _, rfl, HO0, HB3⟩
  case round =>
    clear HO0
    obtain ⟨k, hk, rfl, HO, HB⟩ := hrel
    by_cases hlt : k < N
    · obtain ⟨x, hx⟩ : ∃ x, l[k]? = some x := ⟨_, List.getElem?_eq_getElem (by rw [HN.out]; exact hlt)⟩
      obtain ⟨b, o, hg, hat, -⟩ := HS.out k x hx
      subst hg
      obtain ⟨d0, d1, d2, d3, d4⟩ := hat.on HB.out
      have o1 : (k : Int) < (N : Int) := by omega
      have o4 : k ≤ 1000 := by have := HM.out; omega
      have HMO : Kp (triesL (l.take (k + 1)) fr = triesL (l.take k) fr ++ [x.back]) := ⟨tries_more hx⟩
      have hpl : (triesL (l.take k) fr).length ≤ 100000 := by unfold triesL; rw [List.length_cons, List.length_map, List.length_take]; omega
      obtain ⟨L, hL⟩ : ∃ L, triesL (l.take k) fr = L := ⟨_, rfl⟩
      rw [hL] at HO HMO hpl
      obtain ⟨xp, xt, xo, xd, xb⟩ := x
      simp only at d0 d1 d2 d3 d4 HMO
      clear hx hat hL
      obtain ⟨X2, hX2⟩ : ∃ X2, (wr.alloc (.cells #[.string xp, .string xt, .int .i64 xo, .int .i64 xd, .int .i64 xb] 26)).alloc (.cells #[.int .i64 xb] 3) = X2 := ⟨_, rfl⟩
      have hbz : Below wr.heap.size wr X2 := by rw [← hX2]; exact by repeat (first | exact Below.refl _ _ | refine Below.alloc ?_ (by simp <;> omega) _ | refine bDrewN ?_ _ | refine Below.drew ?_)
      have hx3 : X2.cell? ⟨wr.heap.size + 1, 0, none⟩ = some (.int .i64 xb) := by subst hX2; go_simp
      have ho2 := HO.out.on hbz
      obtain ⟨g6, c6, rfl⟩ := ho2.shape
      obtain ⟨g5, c5, w5, hrun, hown, hgrow, hat⟩ := ho2.next hx3 hpl (by have := HB.out.size; have := hbz.size; omega)
      have hbw : Below w.heap.size w X2 := HB.out.trans (hbz.mono HB.out.size)
      have HB5 : Kp (Below w.heap.size w w5) := ⟨hbw.grown hgrow hbw.size (fun j hj => (ho2.block hj).1)⟩
      have HO5 : Kp (OwnI w5 w.heap.size (.slice g5 (L.length + 1) c5) (triesL (l.take (k + 1)) fr)) := ⟨by rw [HMO.out]; exact hown⟩
      obtain ⟨m, hm⟩ : ∃ m, L.length = m := ⟨_, rfl⟩
      rw [hm] at hrun HO5 HO ⊢
      rw [← hX2] at hrun
      clear hown hgrow hat hbz hx3 hbw ho2 hX2 hm hpl HMO
      go_wp2
      go_roundw
      case rel => exact ⟨k + 1, by omega, by go_num, HO5, HB5⟩
      case measure => simp [intOf]; omega
    · have hkn : k = N := by omega
      have htr : triesL (l.take k) fr = triesL l fr := by rw [List.take_of_length_le (by rw [HN.out]; omega)]
      have hri := HO.out.ri
      rw [htr] at hri
      obtain ⟨gT, cT, e9, hcl⟩ := hri
      subst e9
      have HCL := Kp.mk hcl
      have HTB : Kp (∀ d ∈ triesL l fr, 0 ≤ d ∧ d ≤ 100000) := ⟨fun d hd => by
        unfold triesL at hd
        rcases List.mem_cons.1 hd with rfl | hd
        · exact HFR.out
        · obtain ⟨x, hx, rfl⟩ := List.mem_map.1 hd
          exact (HOK.out x hx).2⟩
      obtain ⟨T, hT⟩ : ∃ T, triesL l fr = T := ⟨_, rfl⟩
      have hTL : T.length ≤ 1001 := by
        rw [← hT]
        unfold triesL
        rw [List.length_cons, List.length_map, HN.out]
        have := HM.out
        omega
      rw [hT] at HCL HTB HBF
      obtain ⟨K, hK⟩ : ∃ K, (triesL l fr).length = K := ⟨_, rfl⟩
      rw [hK]
      rw [hT] at hK
      have HK := Kp.mk hK
      have HKL : Kp (K ≤ 1001) := ⟨hK ▸ hTL⟩
      have HW2 := Kp.mk HB.out
      have o1 : ¬ (k : Int) < (N : Int) := by omega
      clear htr hcl hT hK hTL hkn HO
      obtain ⟨WA, rfl⟩ : ∃ WA, WA = wr := ⟨_, rfl⟩
      go_wp2
      go_loopw [11, 53] (fun b i wr2 => ∃ m : Nat, m ≤ K ∧ i = .int .i64 m ∧ b = .int .i64 (bestF cd (T.take m) (-1)) ∧ Kp (Below WA.heap.size WA wr2)) (fun _ i _ => K - (intOf i).toNat)
      case atStart => exact ⟨0, Nat.zero_le _, rfl, rfl, ⟨Below.refl _ _⟩⟩
      case round =>
        obtain ⟨m, hmK, rfl, rfl, HBB⟩ := hrel
        by_cases hlm : m < K
        · obtain ⟨d, hd⟩ : ∃ d, T[m]? = some d := ⟨_, List.getElem?_eq_getElem (by rw [HK.out]; exact hlm)⟩
          obtain ⟨bT, hgT, hcT⟩ := HCL.out m d hd
          subst hgT
          have r0 := (HBB.out.cell (p := ⟨bT, m, none⟩) (World.block_lt_of_cell? _ _ hcT)).trans hcT
          have hdb := HTB.out d (List.mem_of_getElem? hd)
          have hsu := bestF_take (c := cd) (b := -1) hd
          rw [HCD.out d] at hsu
          have hnn := HNN.out
          have w1 : IntKind.i64.wrap (d + n) = d + n := IntWalk.i64_in _ (by omega)
          have o2 : (m : Int) < (K : Int) := by omega
          have o5 : m ≤ 1001 := by have := HKL.out; omega
          obtain ⟨b, hb⟩ : ∃ b, bestF cd (T.take m) (-1) = b := ⟨_, rfl⟩
          rw [hb] at hsu ⊢
          have HSU := Kp.mk hsu
          have HDB := Kp.mk hdb
          clear hd hcT hsu hb hdb
          by_cases c1 : d < fr
          · have HS2 : Kp (bestF cd (T.take (m + 1)) (-1) = b) := ⟨by rw [HSU.out, decide_eq_false (show ¬ fr ≤ d by omega)]; simp⟩
            clear hnn
            go_wp2
            go_roundw
            case rel => exact ⟨m + 1, by omega, by go_num, by rw [HS2.out], HBB⟩
            case measure => simp [intOf]; omega
          · by_cases c2 : 100001 < d + n
            · have HS2 : Kp (bestF cd (T.take (m + 1)) (-1) = b) := ⟨by rw [HSU.out, decide_eq_false (show ¬ d + n ≤ 100001 by omega)]; simp⟩
              clear hnn
              go_wp2
              go_roundw
              case rel => exact ⟨m + 1, by omega, by go_num, by rw [HS2.out], HBB⟩
              case measure => simp [intOf]; omega
            · by_cases c3 : 0 ≤ b ∧ b ≤ d
              · have c4 := c3.1
                have c5 := c3.2
                have HS2 : Kp (bestF cd (T.take (m + 1)) (-1) = b) := ⟨by rw [HSU.out, if_neg]; rintro ⟨-, h⟩; omega⟩
                clear hnn c3
                go_wp2
                go_roundw
                case rel => exact ⟨m + 1, by omega, by go_num, by rw [HS2.out], HBB⟩
                case measure => simp [intOf]; omega
              · have HS2 : Kp (bestF cd (T.take (m + 1)) (-1) = if freeB l s d n = true then d else b) := ⟨by
                  rw [HSU.out, decide_eq_true (show fr ≤ d by omega), decide_eq_true (show d + n ≤ 100001 by omega), Bool.true_and, Bool.true_and]
                  have : b < 0 ∨ d < b := by omega
                  simp only [this, and_true]⟩
                have HALL : Kp (freeB l s d n = (l.take N).all (fun x => !meetB s d n x)) := ⟨by unfold freeB; rw [List.take_of_length_le (by rw [HN.out]; exact Nat.le_refl _)]⟩
                have HXC : Kp (b < 0 ∨ (0 ≤ b ∧ d < b)) := ⟨by omega⟩
                clear hnn HSU
                rcases HXC.out with c4 | ⟨c4, c5⟩
                all_goals
                  clear c3
                  obtain ⟨WB, rfl⟩ : ∃ WB, WB = wr := ⟨_, rfl⟩
                  go_wp2
                  go_loopw [17, 77] (fun fb i wr3 => ∃ j : Nat, j ≤ N ∧ i = .int .i64 j ∧ fb = .bool ((l.take j).all (fun x => !meetB s d n x)) ∧ Kp (Below WB.heap.size WB wr3)) (fun _ i _ => N - (intOf i).toNat)
                  case atStart => exact ⟨0, Nat.zero_le _, rfl, rfl, ⟨Below.refl _ _⟩⟩
                  case round =>
                    obtain ⟨j, hjN, rfl, rfl, HB3B⟩ := hrel
                    by_cases hlj : j < N
                    · obtain ⟨x, hx⟩ : ∃ x, l[j]? = some x := ⟨_, List.getElem?_eq_getElem (by rw [HN.out]; exact hlj)⟩
                      obtain ⟨bx, ox, hg, hat, -⟩ := HS.out j x hx
                      subst hg
                      obtain ⟨d0, d1, d2, d3, d4⟩ := ((hat.on HW2.out).on HBB.out).on HB3B.out
                      have o6 : (j : Int) < (N : Int) := by omega
                      have o7 : j ≤ 1000 := by have := HM.out; omega
                      have hmo := all_more (p := fun x => !meetB s d n x) hx
                      have hok := (HOK.out x (List.mem_of_getElem? hx)).1
                      have hdb := HDB.out
                      have hnn := HNN.out
                      have hme : meetB s d n x = (eqS x.p s && decide (comI d (d + n) x.out (home x) ≠ 0)) := rfl
                      rw [hme] at hmo
                      have HEK : Kp (∀ W, Calls Try.prog 82 #[.agg #[.string x.p, .string x.t, .int .i64 x.out, .int .i64 x.due, .int .i64 x.back]] W fun e w' => e = .returned (.int .i64 (home x)) ∧ Below W.heap.size W w') := ⟨fun W => rEnd_any x W⟩
                      have HSK : Kp (∀ W, Calls Try.prog 81 #[.int .i64 d, .int .i64 (d + n), .int .i64 x.out, .int .i64 (home x)] W fun e w' => e = .returned (.int .i64 (comI d (d + n) x.out (home x))) ∧ Below W.heap.size W w') := ⟨fun W => rSpan_any d (d + n) x.out (home x) W (by omega) (by omega) (by omega) (by omega)⟩
                      obtain ⟨P, i1⟩ : ∃ P, (x.p.toList != s.toList) = P := ⟨_, rfl⟩
                      have hP : eqS x.p s = !P := by rw [← i1]; unfold eqS bne; rw [Bool.not_not]
                      obtain ⟨R, hR⟩ : ∃ R, comI d (d + n) x.out (home x) = R := ⟨_, rfl⟩
                      obtain ⟨Q, i2⟩ : ∃ Q, (R == (0 : Int)) = Q := ⟨_, rfl⟩
                      have hQ : decide (R ≠ 0) = !Q := by rw [← i2, Bool.eq_iff_iff]; simp
                      obtain ⟨H, hH⟩ : ∃ H, home x = H := ⟨_, rfl⟩
                      obtain ⟨fb, hfb⟩ : ∃ fb, (l.take j).all (fun x => !meetB s d n x) = fb := ⟨_, rfl⟩
                      rw [hP, hR, hQ, hfb] at hmo
                      rw [hR] at HSK
                      rw [hH] at HEK HSK
                      rw [hfb]
                      have HMO := Kp.mk hmo
                      obtain ⟨xp, xt, xo, xd, xb⟩ := x
                      simp only at d0 d1 d2 d3 d4 i1 HEK HSK
                      clear hx hat hP hR hQ hH hfb hmo hok hdb hnn hme
                      cases fb
                      all_goals cases P
                      all_goals
                        first
                          | have i3 : xp.toList = s.toList := by simpa using i1
                          | have i3 : ¬ xp.toList = s.toList := by simpa using i1
                        clear i1
                        go_wp2
                        obtain ⟨W1, hW1⟩ : ∃ W1, wr.alloc (.cells #[.string xp, .string xt, .int .i64 xo, .int .i64 xd, .int .i64 xb] 26) = W1 := ⟨_, rfl⟩
                        rw [hW1]
                        obtain ⟨hb1, ⟨e0, e1, e2, e3, e4⟩⟩ := bx_start (x := ⟨xp, xt, xo, xd, xb⟩) hW1
                        simp only [Nat.zero_add] at e0 e1 e2 e3 e4
                        have HBW : Kp (Below WB.heap.size WB W1) := ⟨HB3B.out.trans (hb1.mono HB3B.out.size)⟩
                        have HEQ : Kp (∀ d os, Calls Try.prog 82 #[.agg #[.string xp, .string xt, .int .i64 xo, .int .i64 xd, .int .i64 xb]] (grow (redrawn W1 d) os) fun e w' => e = .returned (.int .i64 H) ∧ Below (grow (redrawn W1 d) os).heap.size (grow (redrawn W1 d) os) w') := ⟨fun d os => HEK.out _⟩
                        have HSQ : Kp (∀ d' os, Calls Try.prog 81 #[.int .i64 d, .int .i64 (d + n), .int .i64 xo, .int .i64 H] (grow (redrawn W1 d') os) fun e w' => e = .returned (.int .i64 R) ∧ Below (grow (redrawn W1 d') os).heap.size (grow (redrawn W1 d') os) w') := ⟨fun d' os => HSK.out _⟩
                        have rg_e0 := fun d os => cell_regrown e0 d os
                        have rg_e1 := fun d os => cell_regrown e1 d os
                        have rg_e2 := fun d os => cell_regrown e2 d os
                        have rg_e3 := fun d os => cell_regrown e3 d os
                        have rg_e4 := fun d os => cell_regrown e4 d os
                        clear hW1 hb1 e0 e1 e2 e3 e4 d0 d1 d2 d3 d4 HEK HSK
                        refine wp_region_quiet_below (by kernel_rfl) (by kernel_rfl) ?_
                        repeat (any_goals (first | go_big_quiet_step (first | (with_reducible exact Calls.regrown_of (HEQ.out _ _)) | (with_reducible exact Calls.regrown_of (HSQ.out _ _))) | quiet_step (first | (with_reducible exact Calls.regrown_of (HEQ.out _ _)) | (with_reducible exact Calls.regrown_of (HSQ.out _ _)))))
                        refine wpQuiet_nil ?_
                        intro _ hqw
                        obtain ⟨⟨dq, osq⟩, hqv⟩ := hqw
                        subst hqv
                        obtain ⟨wq, hqwq⟩ : ∃ wq, grow (redrawn (W1) dq) osq = wq := ⟨_, rfl⟩
                        have hbwq : Below (W1).heap.size (W1) wq := by rw [← hqwq]; exact below_regrown _ dq osq
                        rw [hqwq]
                        clear hqwq
                        have HBQ := Kp.mk (HBW.out.trans (hbwq.mono HBW.out.size))
                        clear hbwq
                        go_wp2
                        go_roundw
                        case rel => exact ⟨j + 1, by omega, by go_num, by rw [HMO.out]; simp, HBQ⟩
                        case measure => simp [intOf]; omega
                    · have hjn : j = N := by omega
                      subst hjn
                      have o6 : ¬ (j : Int) < (j : Int) := by omega
                      have HB4 : Kp (Below WA.heap.size WA wr) := ⟨HBB.out.trans (HB3B.out.mono HBB.out.size)⟩
                      obtain ⟨fb, hfb⟩ : ∃ fb, (l.take j).all (fun x => !meetB s d n x) = fb := ⟨_, rfl⟩
                      have HS3 : Kp (bestF cd (T.take (m + 1)) (-1) = if fb = true then d else b) := ⟨by rw [HS2.out, HALL.out, hfb]⟩
                      rw [hfb]
                      clear hfb
                      cases fb with
                      | false =>
                        go_wp2
                        go_roundw
                        case rel => exact ⟨m + 1, by omega, by go_num, by rw [HS3.out]; rfl, HB4⟩
                        case measure => simp [intOf]; omega
                      | true =>
                        go_wp2
                        go_roundw
                        case rel => exact ⟨m + 1, by omega, by go_num, by rw [HS3.out]; rfl, HB4⟩
                        case measure => simp [intOf]; omega
        · have hmk : m = K := by omega
          have hall : bestF cd (T.take m) (-1) = if F + n ≤ 100001 then F else -1 := by
            rw [List.take_of_length_le (by rw [HK.out]; omega)]
            exact HBF.out
          rw [hall]
          have HBE : Kp (Below w.heap.size w wr) := ⟨HW2.out.trans (HBB.out.mono HW2.out.size)⟩
          have o2 : ¬ (m : Int) < (K : Int) := by omega
          clear hall hmk
          by_cases hle : F + n ≤ 100001
          · rw [if_pos hle]
            have k3 : ¬ F < 0 := by have := HF0.out; omega
            have HV2 : Kp (vF = F ∧ vE = 0) := ⟨by rw [← HVF.out, ← HVE.out, if_pos hle, if_pos hle]; exact ⟨rfl, rfl⟩⟩
            clear hle
            go_wp2
            go_ret2
            exact ⟨by rw [HV2.out.1, HV2.out.2]; rfl, HBE.out⟩
          · rw [if_neg hle]
            have HV2 : Kp (vF = 0 ∧ vE = 8) := ⟨by rw [← HVF.out, ← HVE.out, if_neg hle, if_neg hle]; exact ⟨rfl, rfl⟩⟩
            clear hle
            go_wp2
            go_ret2
            exact ⟨by rw [HV2.out.1, HV2.out.2]; rfl, HBE.out⟩
theorem rFree_any (v : Value) (l : List Loan) (s : ByteArray) (fr n : Int) (w : World) (hv : LS w v l) (hm : l.length ≤ 1000) (hs : s.size ≤ maxLen) :
    Calls Try.prog 44 #[v, .string s, .int .i64 fr, .int .i64 n] w fun e w' => e = .returned (.tuple #[.int .i64 (frV l s fr n), .int .i64 (frE l s fr n)]) ∧ Below w.heap.size w w' := by
  unfold frV frE
  by_cases h : frC l s fr n = 0
  · rw [if_pos h, if_pos h]
    exact rFree_ok v l s fr n w hv hm hs h
  · rw [if_neg h, if_neg h]
    exact rFree_no v l s fr n w hv hm hs h
end Go.Proofs.Ytaofjomocefdkaa.Ln
