/-
  THE WALK of the law LoanWhere.
-/
import Derived.Test.YtaofjomocefdkaaLnSeen
import Derived.Test.YtaofjomocefdkaaLnRList
import Derived.Test.YtaofjomocefdkaaLnBusyP
import Derived.Test.YtaofjomocefdkaaLnFit
import Derived.Test.YtaofjomocefdkaaLnAwake
namespace Go.Proofs.Ytaofjomocefdkaa.Ln
open Go Go.RowKit Go.Sort

theorem RI.shape {w : World} {v : Value} {L : List Int} (h : RI w v L) : ∃ g c, v = .slice g L.length c := by
  obtain ⟨g, c, e, -⟩ := h
  exact ⟨g, c, e⟩
theorem onE_zero {l : List Loan} {d : Int} (h : onE l d = 0) : validL l = true := (chkE_zero h).1
set_option maxRecDepth 100000 in
set_option maxHeartbeats 4000000 in
theorem lawWhere_small (v : Value) (l : List Loan) (s : ByteArray) (d : Int) (w : World) (hv : LS w v l) (hm : l.length ≤ 9223372036854775807) (hsm : fitB l = false ∨ 100 < s.size) :
    Calls Try.prog 4 #[v, .string s, .int .i64 d] w fun e w' => e = .returned (.bool true) ∧ Below w.heap.size w w' := by
  have HF : Kp (Calls Try.prog 13 #[v] w fun e w' => e = .returned (.bool (fitB l)) ∧ Below w.heap.size w w') := ⟨fit_any v l w hv hm⟩
  have HAW : Kp (∀ W, Calls Try.prog 14 #[] W fun e w' => e = .returned (.bool true) ∧ Below W.heap.size W w') := ⟨fun W => awake_any W⟩
  obtain ⟨g, c, rfl⟩ := hv.shape
  obtain ⟨N, hN⟩ : ∃ N, l.length = N := ⟨_, rfl⟩
  rw [hN] at HF ⊢
  obtain ⟨P, hP⟩ : ∃ P, decide (100 < s.size) = P := ⟨_, rfl⟩
  have i1 : decide ((100 : Int) < (s.size : Int)) = P := by rw [← hP]; exact decide_eq_decide.2 (by omega)
  have hPT : fitB l = false ∨ P = true := hsm.imp id fun h => by rw [← hP]; exact decide_eq_true h
  cases hfit : fitB l
  all_goals
    rw [hfit] at HF hPT
    first
      | (have hp2 : P = true := by simpa using hPT
         subst hp2)
      | skip
    clear hv hm hN hP hfit hsm hPT
    go_enter Try.func4, Try.ntmps4
    go_wp2_with fail
    refine HF.out.mono ?_
    rintro en w1 ⟨rfl, hb1⟩
    have HB1 := Kp.mk hb1
    clear hb1
    go_wp2_with fail
    refine (HAW.out _).mono ?_
    rintro en w2 ⟨rfl, hb2⟩
    have HB2 := Kp.mk (HB1.out.trans (hb2.mono HB1.out.size))
    clear hb2
    go_wp2
    go_ret
    exact ⟨rfl, HB2.out⟩
set_option maxRecDepth 100000 in
set_option maxHeartbeats 4000000 in
theorem lawWhere_big (v : Value) (l : List Loan) (s : ByteArray) (d : Int) (w : World) (hv : LS w v l) (hm : l.length ≤ 9223372036854775807) (hs : s.size ≤ maxLen) (hfit : fitB l = true) (hsz : ¬ 100 < s.size) :
    Calls Try.prog 4 #[v, .string s, .int .i64 d] w fun e w' => e = .returned (.bool true) ∧ Below w.heap.size w w' := by
  have HF : Kp (Calls Try.prog 13 #[v] w fun e w' => e = .returned (.bool (fitB l)) ∧ Below w.heap.size w w') := ⟨fit_any v l w hv hm⟩
  have HAW : Kp (∀ W, Calls Try.prog 14 #[] W fun e w' => e = .returned (.bool true) ∧ Below W.heap.size W w') := ⟨fun W => awake_any W⟩
  rw [hfit] at HF
  have hlen := fit_len hfit
  have hW : Kp (∀ W, Below w.heap.size w W → Calls Try.prog 23 #[v, .string s, .int .i64 d] W fun e w' => e = .returned (.tuple #[.string (whV l s d), .int .i64 (whE l s d)]) ∧ Below w.heap.size w w') := ⟨fun W hW => (WhereV_any _ l s d W (hv.below hW) (by omega) hs).mono fun e w' ⟨h1, h2⟩ => ⟨h1, hW.trans (h2.mono hW.size)⟩⟩
  have hRW : Kp (∀ W, Below w.heap.size w W → Calls Try.prog 24 #[v, .string s, .int .i64 d] W fun e w' => e = .returned (.tuple #[.string (whV l s d), .int .i64 (whE l s d)]) ∧ Below w.heap.size w w') := ⟨fun W hW => (rWhere_any _ l s d W (hv.below hW) (by omega) hs).mono fun e w' ⟨h1, h2⟩ => ⟨h1, hW.trans (h2.mono hW.size)⟩⟩
  have hO : Kp (∀ W, Below w.heap.size w W → Calls Try.prog 25 #[v, .int .i64 d] W (IsPost W (onL (fun x => outB x d) l d) (onE l d))) := ⟨fun W hW => Out_any _ l d W (hv.below hW) (by omega)⟩
  have hRO : Kp (∀ W, Below w.heap.size w W → Calls Try.prog 26 #[v, .int .i64 d] W (IsPost W (onL (fun x => outB x d) l d) (onE l d))) := ⟨fun W hW => rOut_any _ l d W (hv.below hW) (by omega)⟩
  have hV : Kp (∀ W, Below w.heap.size w W → Calls Try.prog 27 #[v, .int .i64 d] W (IsPost W (onL (fun x => lateB x d) l d) (onE l d))) := ⟨fun W hW => Overdue_any _ l d W (hv.below hW) (by omega)⟩
  have hRV : Kp (∀ W, Below w.heap.size w W → Calls Try.prog 28 #[v, .int .i64 d] W (IsPost W (onL (fun x => lateB x d) l d) (onE l d))) := ⟨fun W hW => rOverdue_any _ l d W (hv.below hW) (by omega)⟩
  have hol : ∀ q : Loan → Bool, (onL q l d).length ≤ 1000 := fun q => by
    by_cases h : onE l d = 0
    · rw [onL_yes h, idL_len]
      exact Nat.le_trans (ixP_len _ _ _) (by omega)
    · rw [onL_no h]; simp
  have HL1 := Kp.mk (hol (fun x => outB x d))
  have HL2 := Kp.mk (hol (fun x => lateB x d))
  have HAT : Kp (onE l d = 0 → ∀ m k, (onL (fun x => outB x d) l d)[m]? = some k → ∃ (j : Nat) (x : Loan), k = (j : Int) ∧ l[j]? = some x ∧ (l.filter fun x => outB x d)[m]? = some x) := ⟨fun h m k hk => by
    rw [onL_yes h] at hk
    obtain ⟨j, x, h1, h2, h3, -⟩ := idL_at hk
    exact ⟨j, x, h1, h2, h3⟩⟩
  have HAP : Kp (onE l d = 0 → (l.filter fun x => outB x d).Pairwise (fun a b => a.p ≠ b.p)) := ⟨fun h => out_apart (onE_zero h) d⟩
  have HWV : Kp (whE l s d = 0 → whV l s d = seenF (l.filter fun x => outB x d) s) := ⟨fun h => whV_seen h⟩
  have HOL : Kp (onE l d = 0 → (onL (fun x => outB x d) l d).length = (l.filter fun x => outB x d).length) := ⟨fun h => by rw [onL_yes h, idL_cnt]; rfl⟩
  have HLV := Kp.mk hv
  have HWF := Kp.mk hv.wfs
  obtain ⟨C, hC⟩ : ∃ C, onL (fun x => outB x d) l d = C := ⟨_, rfl⟩
  obtain ⟨M, hM⟩ : ∃ M, onL (fun x => lateB x d) l d = M := ⟨_, rfl⟩
  obtain ⟨O, hO2⟩ : ∃ O, (l.filter fun x => outB x d) = O := ⟨_, rfl⟩
  obtain ⟨G, hG⟩ : ∃ G, onE l d = G := ⟨_, rfl⟩
  obtain ⟨E, hE⟩ : ∃ E, whE l s d = E := ⟨_, rfl⟩
  obtain ⟨A, hA⟩ : ∃ A, whV l s d = A := ⟨_, rfl⟩
  rw [hA, hE] at hW hRW HWV
  rw [hC, hG] at hO hRO
  rw [hM, hG] at hV hRV
  rw [hC, hG] at HOL HAT
  rw [hG] at HAP
  rw [hO2] at HAT HAP HWV HOL
  rw [hC] at HL1
  rw [hM] at HL2
  have i1 : decide ((100 : Int) < (s.size : Int)) = false := decide_eq_false (by omega)
  have i2 : (E == E) = true := by simp
  have i3 : (G == G) = true := by simp
  have i4 : (A.toList == A.toList) = true := by simp
  have i5 : (A.toList != A.toList) = false := by simp
  have hss : Kp (s.size ≤ maxLen) := ⟨hs⟩
  have hmm := @run_makeMap Try.prog
  obtain ⟨g, c, rfl⟩ := hv.shape
  obtain ⟨N, hN⟩ : ∃ N, l.length = N := ⟨_, rfl⟩
  have HN := Kp.mk hN
  have HNL : Kp (N ≤ 203) := ⟨hN ▸ hlen⟩
  rw [hN] at HF hW hRW hO hRO hV hRV HLV ⊢
  clear hv hm hs hfit hsz hlen hol hC hM hO2 hG hE hA hN
  by_cases hG0 : G = 0
  · have hG : (0 : Int) = 0 := rfl
    subst hG0
    go_enter Try.func4, Try.ntmps4
    go_wp2_with fail
    refine (HF.out).mono ?_
    rintro en w1 ⟨rfl, hb1⟩
    have HB1 := Kp.mk hb1
    clear hb1
    go_wp2_with fail
    refine (hW.out _ HB1.out).mono ?_
    rintro en w2 ⟨rfl, hb2⟩
    have HB2 := Kp.mk hb2
    clear hb2
    go_wp2_with fail
    refine (hRW.out _ HB2.out).mono ?_
    rintro en w3 ⟨rfl, hb3⟩
    have HB3 := Kp.mk hb3
    clear hb3
    go_wp2_with fail
    refine (hO.out _ HB3.out).mono ?_
    rintro en w4 ⟨u1, rfl, hu, hb⟩
    have HB4 : Kp (Below w.heap.size w w4) := ⟨HB3.out.trans (hb.mono HB3.out.size)⟩
    obtain ⟨g1, c1, rfl⟩ := hu.shape
    have HU1_4 := Kp.mk hu
    clear hu hb
    go_wp2_with fail
    refine (hRO.out _ HB4.out).mono ?_
    rintro en w5 ⟨u2, rfl, hu, hb⟩
    have HB5 : Kp (Below w.heap.size w w5) := ⟨HB4.out.trans (hb.mono HB4.out.size)⟩
    have HU1_5 : Kp (RI w5 (.slice g1 C.length c1) C) := ⟨HU1_4.out.below hb⟩
    obtain ⟨g2, c2, rfl⟩ := hu.shape
    have HU2_5 := Kp.mk hu
    clear hu hb
    go_wp2_with fail
    refine (hV.out _ HB5.out).mono ?_
    rintro en w6 ⟨u3, rfl, hu, hb⟩
    have HB6 : Kp (Below w.heap.size w w6) := ⟨HB5.out.trans (hb.mono HB5.out.size)⟩
    have HU1_6 : Kp (RI w6 (.slice g1 C.length c1) C) := ⟨HU1_5.out.below hb⟩
    have HU2_6 : Kp (RI w6 (.slice g2 C.length c2) C) := ⟨HU2_5.out.below hb⟩
    obtain ⟨g3, c3, rfl⟩ := hu.shape
    have HU3_6 := Kp.mk hu
    clear hu hb
    go_wp2_with fail
    refine (hRV.out _ HB6.out).mono ?_
    rintro en w7 ⟨u4, rfl, hu, hb⟩
    have HB7 : Kp (Below w.heap.size w w7) := ⟨HB6.out.trans (hb.mono HB6.out.size)⟩
    have HU1_7 : Kp (RI w7 (.slice g1 C.length c1) C) := ⟨HU1_6.out.below hb⟩
    have HU2_7 : Kp (RI w7 (.slice g2 C.length c2) C) := ⟨HU2_6.out.below hb⟩
    have HU3_7 : Kp (RI w7 (.slice g3 M.length c3) M) := ⟨HU3_6.out.below hb⟩
    obtain ⟨g4, c4, rfl⟩ := hu.shape
    have HU4_7 := Kp.mk hu
    clear hu hb
    go_wp2_with fail
    refine (same_ints _ _ C _ HL1.out HU1_7.out HU2_7.out).mono ?_
    rintro en w8 ⟨rfl, hb⟩
    have HB8 : Kp (Below w.heap.size w w8) := ⟨HB7.out.trans (hb.mono HB7.out.size)⟩
    have HU1_8 : Kp (RI w8 (.slice g1 C.length c1) C) := ⟨HU1_7.out.below hb⟩
    have HU2_8 : Kp (RI w8 (.slice g2 C.length c2) C) := ⟨HU2_7.out.below hb⟩
    have HU3_8 : Kp (RI w8 (.slice g3 M.length c3) M) := ⟨HU3_7.out.below hb⟩
    have HU4_8 : Kp (RI w8 (.slice g4 M.length c4) M) := ⟨HU4_7.out.below hb⟩
    clear hb
    go_wp2_with fail
    refine (same_ints _ _ M _ HL2.out HU3_8.out HU4_8.out).mono ?_
    rintro en w9 ⟨rfl, hb⟩
    have HB9 : Kp (Below w.heap.size w w9) := ⟨HB8.out.trans (hb.mono HB8.out.size)⟩
    have HU1_9 : Kp (RI w9 (.slice g1 C.length c1) C) := ⟨HU1_8.out.below hb⟩
    have HU2_9 : Kp (RI w9 (.slice g2 C.length c2) C) := ⟨HU2_8.out.below hb⟩
    have HU3_9 : Kp (RI w9 (.slice g3 M.length c3) M) := ⟨HU3_8.out.below hb⟩
    have HU4_9 : Kp (RI w9 (.slice g4 M.length c4) M) := ⟨HU4_8.out.below hb⟩
    clear hb
    go_wp2
    obtain ⟨B, hB⟩ : ∃ B, w9.heap.size = B := ⟨_, rfl⟩
    have HBZ := Kp.mk hB
    obtain ⟨X0, hX0⟩ : ∃ X0, w9.alloc (.map #[] 0) = X0 := ⟨_, rfl⟩
    have HT0 : Kp (TM X0 B 0 (seenF (O.take 0))) := ⟨by rw [← hX0, ← hB]; exact TM.made w9⟩
    have HB0 : Kp (Below w9.heap.size w9 X0) := ⟨by rw [← hX0]; exact by repeat (first | exact Below.refl _ _ | refine Below.alloc ?_ (by simp <;> omega) _ | refine bDrewN ?_ _ | refine Below.drew ?_)⟩
    try rw [hX0]
    try rw [hB]
    clear hX0 hB
    go_loopw [105] (fun i wr => ∃ k : Nat, k ≤ C.length ∧ i = .int .i64 k ∧ Kp (TM wr B k (seenF (O.take k))) ∧ Kp (Below w9.heap.size w9 wr)) (fun i _ => C.length - (intOf i).toNat)
    case atStart => exact ⟨0, Nat.zero_le _, rfl, HT0, HB0⟩
    case round =>
      clear HT0 HB0
      obtain ⟨m, hm, rfl, HT, HB⟩ := hrel
      by_cases hlt : m < C.length
      · obtain ⟨q, hq⟩ : ∃ q, C[m]? = some q := ⟨_, List.getElem?_eq_getElem hlt⟩
        obtain ⟨j, x, rfl, hx, hox⟩ := HAT.out hG m q hq
        obtain ⟨gg, cc, e9, hcl⟩ := HU1_9.out
        simp only [Value.slice.injEq] at e9
        obtain ⟨rfl, -, rfl⟩ := e9
        obtain ⟨bq, hgq, hcq⟩ := hcl m _ hq
        subst hgq
        have r0 := (HB.out.cell (p := ⟨bq, m, none⟩) (World.block_lt_of_cell? _ _ hcq)).trans hcq
        obtain ⟨g', c', e', -, hi⟩ := (HLV.out.below HB9.out).below HB.out
        simp only [Value.slice.injEq] at e'
        obtain ⟨rfl, -, rfl⟩ := e'
        obtain ⟨b, o, hg, hat, hwf⟩ := hi j x hx
        subst hg
        obtain ⟨d0, d1, d2, d3, d4⟩ := hat
        have hjN : j < N := by have := (List.getElem?_eq_some_iff.1 hx).1; have := HN.out; omega
        have o1 : (m : Int) < (C.length : Int) := by omega
        have o2 : (j : Int) < (N : Int) := by omega
        have o3 : m ≤ 1000 := by have := HL1.out; omega
        have o4 : j ≤ 1000 := by have := HNL.out; omega
        have hlook := HT.out.at hwf.1
        rw [seen_new (HAP.out hG) hox] at hlook
        have hup := fun X (hX : Below wr.heap.size wr X) => (HT.out.on hX).put (by unfold maxLen; omega) hwf.1 hwf.2
        have HSN : Kp (seenF (O.take (m + 1)) = fun u => if u = x.p then x.t else seenF (O.take m) u) := ⟨seen_next hox⟩
        have i6 : ((⟨#[]⟩ : ByteArray).toList != (⟨#[]⟩ : ByteArray).toList) = false := by simp
        have HUP := Kp.mk hup
        obtain ⟨xp, xt, xo, xd, xb⟩ := x
        simp only at d0 d1 d2 d3 d4 hlook HUP HSN hwf
        clear hup hq hx hox hcq hcl hi hwf
        obtain ⟨W2, hrun2, htm2, hgr2⟩ := HUP.out wr.drew (Below.drew (Below.refl _ _))
        have HT2 : Kp (TM W2 B (m + 1) (seenF (O.take (m + 1)))) := ⟨by rw [HSN.out]; exact htm2⟩
        have HB2 : Kp (Below w9.heap.size w9 W2) := ⟨(Below.drew HB.out).grown hgr2 HB.out.size (fun j hj => by cases hj; rw [HBZ.out]; exact Nat.le_refl _)⟩
        clear htm2 hgr2 HUP HSN
        go_wp2
        go_region_with (fail)
        all_goals
          first
            | (go_wp2
               go_roundw
               case rel => exact ⟨m + 1, by omega, by go_num, HT2, HB2⟩
               case measure => simp [intOf]; omega)
            | exact ⟨⟨m + 1, by omega, by go_num, HT2, HB2⟩, by simp [intOf]; omega⟩
      · have hmc : m = O.length := by have := HOL.out hG; omega
        have HTE : Kp (TM wr B m (seenF O)) := ⟨by have h := HT.out; rwa [hmc, List.take_length, ← hmc] at h⟩
        have o1 : ¬ (m : Int) < (C.length : Int) := by omega
        have hlook := HTE.out.at hss.out
        have HBW : Kp (Below w.heap.size w wr) := ⟨HB9.out.trans (HB.out.mono HB9.out.size)⟩
        clear hmc
        by_cases h1 : E = 0
        · subst h1
          rw [← HWV.out rfl] at hlook
          go_wp2_with fail
          refine (HAW.out _).mono ?_
          rintro en w10 ⟨rfl, hb⟩
          have HBE : Kp (Below w.heap.size w w10) := ⟨HBW.out.trans (hb.mono HBW.out.size)⟩
          clear hb
          go_wp2
          go_ret
          exact ⟨rfl, HBE.out⟩
        · have j1 : (E == (0 : Int)) = false := by simp [h1]
          have j2 : (E != (0 : Int)) = true := by simp [h1]
          clear h1
          go_wp2_with fail
          refine (HAW.out _).mono ?_
          rintro en w10 ⟨rfl, hb⟩
          have HBE : Kp (Below w.heap.size w w10) := ⟨HBW.out.trans (hb.mono HBW.out.size)⟩
          clear hb
          go_wp2
          go_ret
          exact ⟨rfl, HBE.out⟩
  · have j1 : (G == (0 : Int)) = false := by simp [hG0]
    have j2 : (G != (0 : Int)) = true := by simp [hG0]
    clear hG0
    go_enter Try.func4, Try.ntmps4
    go_wp2_with fail
    refine (HF.out).mono ?_
    rintro en w1 ⟨rfl, hb1⟩
    have HB1 := Kp.mk hb1
    clear hb1
    go_wp2_with fail
    refine (hW.out _ HB1.out).mono ?_
    rintro en w2 ⟨rfl, hb2⟩
    have HB2 := Kp.mk hb2
    clear hb2
    go_wp2_with fail
    refine (hRW.out _ HB2.out).mono ?_
    rintro en w3 ⟨rfl, hb3⟩
    have HB3 := Kp.mk hb3
    clear hb3
    go_wp2_with fail
    refine (hO.out _ HB3.out).mono ?_
    rintro en w4 ⟨u1, rfl, hu, hb⟩
    have HB4 : Kp (Below w.heap.size w w4) := ⟨HB3.out.trans (hb.mono HB3.out.size)⟩
    obtain ⟨g1, c1, rfl⟩ := hu.shape
    have HU1_4 := Kp.mk hu
    clear hu hb
    go_wp2_with fail
    refine (hRO.out _ HB4.out).mono ?_
    rintro en w5 ⟨u2, rfl, hu, hb⟩
    have HB5 : Kp (Below w.heap.size w w5) := ⟨HB4.out.trans (hb.mono HB4.out.size)⟩
    have HU1_5 : Kp (RI w5 (.slice g1 C.length c1) C) := ⟨HU1_4.out.below hb⟩
    obtain ⟨g2, c2, rfl⟩ := hu.shape
    have HU2_5 := Kp.mk hu
    clear hu hb
    go_wp2_with fail
    refine (hV.out _ HB5.out).mono ?_
    rintro en w6 ⟨u3, rfl, hu, hb⟩
    have HB6 : Kp (Below w.heap.size w w6) := ⟨HB5.out.trans (hb.mono HB5.out.size)⟩
    have HU1_6 : Kp (RI w6 (.slice g1 C.length c1) C) := ⟨HU1_5.out.below hb⟩
    have HU2_6 : Kp (RI w6 (.slice g2 C.length c2) C) := ⟨HU2_5.out.below hb⟩
    obtain ⟨g3, c3, rfl⟩ := hu.shape
    have HU3_6 := Kp.mk hu
    clear hu hb
    go_wp2_with fail
    refine (hRV.out _ HB6.out).mono ?_
    rintro en w7 ⟨u4, rfl, hu, hb⟩
    have HB7 : Kp (Below w.heap.size w w7) := ⟨HB6.out.trans (hb.mono HB6.out.size)⟩
    have HU1_7 : Kp (RI w7 (.slice g1 C.length c1) C) := ⟨HU1_6.out.below hb⟩
    have HU2_7 : Kp (RI w7 (.slice g2 C.length c2) C) := ⟨HU2_6.out.below hb⟩
    have HU3_7 : Kp (RI w7 (.slice g3 M.length c3) M) := ⟨HU3_6.out.below hb⟩
    obtain ⟨g4, c4, rfl⟩ := hu.shape
    have HU4_7 := Kp.mk hu
    clear hu hb
    go_wp2_with fail
    refine (same_ints _ _ C _ HL1.out HU1_7.out HU2_7.out).mono ?_
    rintro en w8 ⟨rfl, hb⟩
    have HB8 : Kp (Below w.heap.size w w8) := ⟨HB7.out.trans (hb.mono HB7.out.size)⟩
    have HU1_8 : Kp (RI w8 (.slice g1 C.length c1) C) := ⟨HU1_7.out.below hb⟩
    have HU2_8 : Kp (RI w8 (.slice g2 C.length c2) C) := ⟨HU2_7.out.below hb⟩
    have HU3_8 : Kp (RI w8 (.slice g3 M.length c3) M) := ⟨HU3_7.out.below hb⟩
    have HU4_8 : Kp (RI w8 (.slice g4 M.length c4) M) := ⟨HU4_7.out.below hb⟩
    clear hb
    go_wp2_with fail
    refine (same_ints _ _ M _ HL2.out HU3_8.out HU4_8.out).mono ?_
    rintro en w9 ⟨rfl, hb⟩
    have HB9 : Kp (Below w.heap.size w w9) := ⟨HB8.out.trans (hb.mono HB8.out.size)⟩
    have HU1_9 : Kp (RI w9 (.slice g1 C.length c1) C) := ⟨HU1_8.out.below hb⟩
    have HU2_9 : Kp (RI w9 (.slice g2 C.length c2) C) := ⟨HU2_8.out.below hb⟩
    have HU3_9 : Kp (RI w9 (.slice g3 M.length c3) M) := ⟨HU3_8.out.below hb⟩
    have HU4_9 : Kp (RI w9 (.slice g4 M.length c4) M) := ⟨HU4_8.out.below hb⟩
    clear hb
    go_wp2_with fail
    refine (HAW.out _).mono ?_
    rintro en w10 ⟨rfl, hb⟩
    have HBE : Kp (Below w.heap.size w w10) := ⟨HB9.out.trans (hb.mono HB9.out.size)⟩
    clear hb
    go_wp2
    go_ret
    exact ⟨rfl, HBE.out⟩
theorem lawWhere_any (v : Value) (l : List Loan) (s : ByteArray) (d : Int) (w : World) (hv : LS w v l) (hm : l.length ≤ 9223372036854775807) (hs : s.size ≤ maxLen) :
    Calls Try.prog 4 #[v, .string s, .int .i64 d] w fun e w' => e = .returned (.bool true) ∧ Below w.heap.size w w' := by
  by_cases h1 : fitB l = true
  · by_cases h2 : 100 < s.size
    · exact lawWhere_small v l s d w hv hm (.inr h2)
    · exact lawWhere_big v l s d w hv hm hs h1 h2
  · exact lawWhere_small v l s d w hv hm (.inl (by simpa using h1))
end Go.Proofs.Ytaofjomocefdkaa.Ln
