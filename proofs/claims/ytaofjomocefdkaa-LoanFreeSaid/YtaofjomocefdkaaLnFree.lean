/-
  WALKS (layer 9, loan): the first day from which a piece is at home, by the program.
-/
import Derived.Test.YtaofjomocefdkaaLnFreeP
namespace Go.Proofs.Ytaofjomocefdkaa.Ln
open Go Go.RowKit Go.Sort

def frC (l : List Loan) (s : ByteArray) (fr n : Int) : Int := chkE (validL l) (nameB s) (allIn 0 100000 [fr] && allIn 1 10000 [n])
def frE (l : List Loan) (s : ByteArray) (fr n : Int) : Int := if frC l s fr n = 0 then (if frL l s fr n + n ≤ 100001 then 0 else 8) else frC l s fr n
def frV (l : List Loan) (s : ByteArray) (fr n : Int) : Int := if frC l s fr n = 0 then (if frL l s fr n + n ≤ 100001 then frL l s fr n else 0) else 0
theorem allIn_uno {lo hi a : Int} : allIn lo hi [a] = (decide (lo ≤ a) && decide (a ≤ hi)) := by unfold allIn; simp
theorem frC_zero {l : List Loan} {s : ByteArray} {fr n : Int} (h : frC l s fr n = 0) : validL l = true ∧ nameB s = true ∧ (0 ≤ fr ∧ fr ≤ 100000) ∧ (1 ≤ n ∧ n ≤ 10000) := by
  obtain ⟨h1, h2, h3⟩ := chkE_zero h
  rw [allIn_uno, allIn_uno] at h3
  simp only [Bool.and_eq_true, decide_eq_true_eq] at h3
  exact ⟨h1, h2, h3.1, h3.2⟩
theorem Free_no (v : Value) (l : List Loan) (s : ByteArray) (fr n : Int) (w : World) (hv : LS w v l) (hm : l.length ≤ 1000) (hs : s.size ≤ maxLen) (hE0 : frC l s fr n ≠ 0) :
    Calls Try.prog 43 #[v, .string s, .int .i64 fr, .int .i64 n] w fun e w' => e = .returned (.tuple #[.int .i64 0, .int .i64 (frC l s fr n)]) ∧ Below w.heap.size w w' := by
  have HN : Kp (∀ W, Calls Try.prog 19 #[.string s] W (NamePost s W)) := ⟨fun W => Name_any s W hs⟩
  have HA : Kp (∀ W v, RI W v [fr] → Calls Try.prog 53 #[v] W fun e w' => e = .returned (.bool (allIn 0 100000 [fr])) ∧ W = w') := ⟨fun W v hv => areDays_any v _ W hv (by simp)⟩
  have HI : Kp (∀ W v, RI W v [n] → Calls Try.prog 59 #[.int .i64 1, .int .i64 10000, v] W fun e w' => e = .returned (.bool (allIn 1 10000 [n])) ∧ W = w') := ⟨fun W v hv => within_any 1 10000 v _ W hv (by simp)⟩
  have HC : Kp (∀ W, Below w.heap.size w W → Calls Try.prog 61 #[v, .bool (nameB s), .bool (allIn 0 100000 [fr] && allIn 1 10000 [n])] W fun e w' => e = .returned (.int .i64 (frC l s fr n)) ∧ Below w.heap.size w w') := ⟨fun W hW => (checked_any v l (nameB s) _ W (hv.below hW) (by omega)).mono fun e w' ⟨h1, h2⟩ => ⟨h1, hW.trans (h2.mono hW.size)⟩⟩
  obtain ⟨E, hE⟩ : ∃ E, frC l s fr n = E := ⟨_, rfl⟩
  obtain ⟨A, hA⟩ : ∃ A, allIn 0 100000 [fr] = A := ⟨_, rfl⟩
  obtain ⟨Q, hQ⟩ : ∃ Q, allIn 1 10000 [n] = Q := ⟨_, rfl⟩
  rw [hE] at HC hE0 ⊢
  rw [hA] at HA HC
  rw [hQ] at HI HC
  have j1 : (E == (0 : Int)) = false := by simp [hE0]
  have j2 : (E != (0 : Int)) = true := by simp [hE0]
  obtain ⟨g, c, rfl⟩ := hv.shape
  obtain ⟨N, hN⟩ : ∃ N, l.length = N := ⟨_, rfl⟩
  rw [hN] at HC ⊢
  clear hv hm hs hE hA hQ hN hE0
  cases A with
  | false =>
    go_enter Try.func43, Try.ntmps43
    go_wp2_with fail
    refine (HN.out _).mono ?_
    rintro en w1 ⟨rfl, hb1⟩
    have HB1 := Kp.mk hb1
    clear hb1
    go_wp2_with fail
    refine (HA.out _ _ (ri_new1 _ _ _)).mono ?_
    rintro en w2 ⟨rfl, rfl⟩
    have HB2 : Kp (Below w.heap.size w (w1.alloc (.cells #[.int .i64 fr] 3))) := ⟨HB1.out.alloc HB1.out.size _⟩
    go_wp2_with fail
    refine (HC.out _ HB2.out).mono ?_
    rintro en w3 ⟨rfl, hb3⟩
    have HB3 := Kp.mk hb3
    clear hb3
    go_wp2
    go_ret2
    exact ⟨rfl, HB3.out⟩
  | true =>
    go_enter Try.func43, Try.ntmps43
    go_wp2_with fail
    refine (HN.out _).mono ?_
    rintro en w1 ⟨rfl, hb1⟩
    have HB1 := Kp.mk hb1
    clear hb1
    go_wp2_with fail
    refine (HA.out _ _ (ri_new1 _ _ _)).mono ?_
    rintro en w2 ⟨rfl, rfl⟩
    have HB2 : Kp (Below w.heap.size w (w1.alloc (.cells #[.int .i64 fr] 3))) := ⟨HB1.out.alloc HB1.out.size _⟩
    obtain ⟨W2, hW2⟩ : ∃ W2, w1.alloc (.cells #[.int .i64 fr] 3) = W2 := ⟨_, rfl⟩
    rw [hW2] at HB2 ⊢
    clear hW2
    go_wp2_with fail
    refine (HI.out _ _ (ri_new1 _ _ _)).mono ?_
    rintro en w3 ⟨rfl, rfl⟩
    have HB3 : Kp (Below w.heap.size w (W2.alloc (.cells #[.int .i64 n] 3))) := ⟨HB2.out.alloc HB2.out.size _⟩
    go_wp2_with fail
    refine (HC.out _ HB3.out).mono ?_
    rintro en w4 ⟨rfl, hb4⟩
    have HB4 := Kp.mk hb4
    clear hb4
    go_wp2
    go_ret2
    exact ⟨rfl, HB4.out⟩
set_option maxRecDepth 100000 in
set_option maxHeartbeats 2000000 in
theorem Free_ok (v : Value) (l : List Loan) (s : ByteArray) (fr n : Int) (w : World) (hv : LS w v l) (hm : l.length ≤ 1000) (hs : s.size ≤ maxLen) (hE0 : frC l s fr n = 0) :
    Calls Try.prog 43 #[v, .string s, .int .i64 fr, .int .i64 n] w fun e w' => e = .returned (.tuple #[.int .i64 (if frL l s fr n + n ≤ 100001 then frL l s fr n else 0), .int .i64 (if frL l s fr n + n ≤ 100001 then 0 else 8)]) ∧ Below w.heap.size w w' := by
  obtain ⟨hva, hnm, hfr, hn⟩ := frC_zero hE0
  have HN : Kp (∀ W, Calls Try.prog 19 #[.string s] W fun e w' => e = .returned (.bool true) ∧ Below W.heap.size W w') := ⟨fun W => hnm ▸ Name_any s W hs⟩
  have hA : allIn 0 100000 [fr] = true := by rw [allIn_uno, decide_eq_true hfr.1, decide_eq_true hfr.2]; rfl
  have hQ : allIn 1 10000 [n] = true := by rw [allIn_uno, decide_eq_true hn.1, decide_eq_true hn.2]; rfl
  have HA : Kp (∀ W v, RI W v [fr] → Calls Try.prog 53 #[v] W fun e w' => e = .returned (.bool true) ∧ W = w') := ⟨fun W v hv => hA ▸ areDays_any v _ W hv (by simp)⟩
  have HI : Kp (∀ W v, RI W v [n] → Calls Try.prog 59 #[.int .i64 1, .int .i64 10000, v] W fun e w' => e = .returned (.bool true) ∧ W = w') := ⟨fun W v hv => hQ ▸ within_any 1 10000 v _ W hv (by simp)⟩
  have HC : Kp (∀ W, Below w.heap.size w W → Calls Try.prog 61 #[v, .bool true, .bool true] W fun e w' => e = .returned (.int .i64 0) ∧ Below w.heap.size w w') := ⟨fun W hW => (checked_any v l true true W (hv.below hW) (by omega)).mono fun e w' ⟨h1, h2⟩ => ⟨by rw [h1, hva]; rfl, hW.trans (h2.mono hW.size)⟩⟩
  have HE : Kp (∀ W, Below w.heap.size w W → Calls Try.prog 60 #[v] W (EntPost l W)) := ⟨fun W hW => entered_any v l W (hv.below hW) (by omega)⟩
  have HS := Kp.mk hs
  have HVA := Kp.mk hva
  have HBD := Kp.mk (cal_bd hva s)
  have HSL : Kp ((calL l s).length ≤ 200) := ⟨Nat.le_trans (calL_len l s) (validL_len hva)⟩
  have HFB : Kp (∀ k, 0 ≤ frF n ((calL l s).take k) fr ∧ frF n ((calL l s).take k) fr ≤ 100001) := ⟨fun k => frF_bd _ _ (fun q hq => (cal_bd hva s q (List.mem_of_mem_take hq)).2) hfr.1 (by omega)⟩
  have HNN := Kp.mk hn
  obtain ⟨F, hF⟩ : ∃ F, frL l s fr n = F := ⟨_, rfl⟩
  have HF := Kp.mk hF
  rw [hF]
  obtain ⟨vF, hvF⟩ : ∃ x, (if F + n ≤ 100001 then F else 0) = x := ⟨_, rfl⟩
  obtain ⟨vE, hvE⟩ : ∃ x : Int, (if F + n ≤ 100001 then 0 else 8) = x := ⟨_, rfl⟩
  rw [hvF, hvE]
  have HVF := Kp.mk hvF
  have HVE := Kp.mk hvE
  clear hvF hvE
  obtain ⟨g, c, rfl⟩ := hv.shape
  obtain ⟨N, hN⟩ : ∃ N, l.length = N := ⟨_, rfl⟩
  rw [hN] at HC HE ⊢
  clear hv hm hs hE0 hva hnm hA hQ hF hN hfr hn
  go_enter Try.func43, Try.ntmps43
  go_wp2_with fail
  refine (HN.out _).mono ?_
  rintro en w1 ⟨rfl, hb1⟩
  have HB1 := Kp.mk hb1
  clear hb1
  go_wp2_with fail
  refine (HA.out _ _ (ri_new1 _ _ _)).mono ?_
  rintro en w2 ⟨rfl, rfl⟩
  have HB2 : Kp (Below w.heap.size w (w1.alloc (.cells #[.int .i64 fr] 3))) := ⟨HB1.out.alloc HB1.out.size _⟩
  obtain ⟨W2, hW2⟩ : ∃ W2, w1.alloc (.cells #[.int .i64 fr] 3) = W2 := ⟨_, rfl⟩
  rw [hW2] at HB2 ⊢
  clear hW2
  go_wp2_with fail
  refine (HI.out _ _ (ri_new1 _ _ _)).mono ?_
  rintro en w3 ⟨rfl, rfl⟩
  have HB3 : Kp (Below w.heap.size w (W2.alloc (.cells #[.int .i64 n] 3))) := ⟨HB2.out.alloc HB2.out.size _⟩
  obtain ⟨W3, hW3⟩ : ∃ W3, W2.alloc (.cells #[.int .i64 n] 3) = W3 := ⟨_, rfl⟩
  rw [hW3] at HB3 ⊢
  clear hW3
  go_wp2_with fail
  refine (HC.out _ HB3.out).mono ?_
  rintro en w4 ⟨rfl, hb4⟩
  have HB4 := Kp.mk hb4
  clear hb4
  go_wp2_with fail
  refine (HE.out _ HB4.out).mono ?_
  rintro en w5 ⟨hb5, h | h⟩
  · obtain ⟨-, b, rfl, -, -, hcal⟩ := h
    have hl2 := validL_len HVA.out
    obtain ⟨u, hlook, hown, -⟩ := hcal.at HS.out (by unfold maxLen; omega)
    obtain ⟨g2, c2, rfl, hcell⟩ := hown.at
    have HB5 : Kp (Below w.heap.size w w5) := ⟨HB4.out.trans (hb5.mono HB4.out.size)⟩
    have HCELL := Kp.mk hcell
    obtain ⟨K, hK⟩ : ∃ K, (calL l s).length = K := ⟨_, rfl⟩
    have HK := Kp.mk hK
    rw [hK] at hlook
    clear hb5 hcal hown hcell hl2
    try rw [hK]
    clear hK
    go_wp2
    go_loopw [2, 39] (fun f i wr => ∃ k : Nat, k ≤ K ∧ i = .int .i64 k ∧ f = .int .i64 (frF n ((calL l s).take k) fr) ∧ Kp (Below w5.heap.size w5 wr)) (fun _ i _ => K - (intOf i).toNat)
    case atStart => exact ⟨0, Nat.zero_le _, rfl, rfl, ⟨Below.refl _ _⟩⟩
    case round =>
      obtain ⟨k, hk, rfl, rfl, HB⟩ := hrel
      by_cases hlt : k < K
      · obtain ⟨q, hq⟩ : ∃ q, (calL l s)[k]? = some q := ⟨_, List.getElem?_eq_getElem (by rw [HK.out]; exact hlt)⟩
        obtain ⟨b2, hg2, hc0, hc1⟩ := HCELL.out k q hq
        subst hg2
        have r0 := (HB.out.cell (p := ⟨b2, k * 2, none⟩) (World.block_lt_of_cell? _ _ hc0)).trans hc0
        have r1 := (HB.out.cell (p := ⟨b2, k * 2 + 1, none⟩) (World.block_lt_of_cell? _ _ hc1)).trans hc1
        have o1 : (k : Int) < (K : Int) := by omega
        have o4 : k ≤ 200 := by have := HSL.out; have := HK.out; omega
        have hbd := HBD.out q (List.mem_of_getElem? hq)
        have hfb := HFB.out k
        have hsu := frF_take (n := n) (f := fr) hq
        have hnn := HNN.out
        obtain ⟨f, hf⟩ : ∃ f, frF n ((calL l s).take k) fr = f := ⟨_, rfl⟩
        rw [hf] at hfb hsu ⊢
        have w1 : IntKind.i64.wrap (f + n) = f + n := IntWalk.i64_in _ (by omega)
        have HCM : Kp (∀ W, Calls Try.prog 79 #[.agg #[.int .i64 q.1, .int .i64 q.2], .agg #[.int .i64 f, .int .i64 (f + n)]] W fun e w' => e = .returned (.int .i64 (comI q.1 q.2 f (f + n))) ∧ Below W.heap.size W w') := ⟨fun W => common_any q.1 q.2 f (f + n) W (by omega) (by omega) (by omega) (by omega)⟩
        obtain ⟨R, hR⟩ : ∃ R, comI q.1 q.2 f (f + n) = R := ⟨_, rfl⟩
        rw [hR] at HCM hsu
        have HSU := Kp.mk hsu
        obtain ⟨qa, qb⟩ := q
        simp only at r0 r1 HCM HSU
        have HB2 : Kp (Below w5.heap.size w5 (wr.alloc (.cells #[.int .i64 qa, .int .i64 qb] 86))) := ⟨HB.out.alloc HB.out.size _⟩
        have hz1 : (wr.alloc (.cells #[.int .i64 qa, .int .i64 qb] 86)).cell? ⟨wr.heap.size, 1, none⟩ = some (.int .i64 qb) := by go_simp
        have HZ1 := Kp.mk hz1
        clear hq hc0 hc1 hf hR hsu hbd hfb hnn hz1
        go_wp2_with fail
        refine (HCM.out _).mono ?_
        rintro en w6 ⟨rfl, hb6⟩
        have HB6 : Kp (Below w5.heap.size w5 w6) := ⟨HB2.out.trans (hb6.mono HB2.out.size)⟩
        have z1 : w6.cell? ⟨wr.heap.size, 1, none⟩ = some (.int .i64 qb) := (hb6.cell (p := ⟨wr.heap.size, 1, none⟩) (by simp)).trans HZ1.out
        clear hb6 HCM HZ1
        by_cases hpos : 0 < R
        · have HS2 : Kp (frF n ((calL l s).take (k + 1)) fr = qb) := ⟨by rw [HSU.out, if_pos hpos]⟩
          go_wp2
          go_roundw
          case rel => exact ⟨k + 1, by omega, by go_num, by rw [HS2.out], HB6⟩
          case measure => simp [intOf]; omega
        · have HS2 : Kp (frF n ((calL l s).take (k + 1)) fr = f) := ⟨by rw [HSU.out, if_neg hpos]⟩
          go_wp2
          go_roundw
          case rel => exact ⟨k + 1, by omega, by go_num, by rw [HS2.out], HB6⟩
          case measure => simp [intOf]; omega
      · have hkn : k = K := by omega
        have hall : frF n ((calL l s).take k) fr = F := by
          rw [List.take_of_length_le (by rw [HK.out]; omega)]
          exact HF.out
        have hfb := HFB.out k
        rw [hall] at hfb ⊢
        have hnn := HNN.out
        have w1 : IntKind.i64.wrap (F + n) = F + n := IntWalk.i64_in _ (by omega)
        have o1 : ¬ (k : Int) < (K : Int) := by omega
        have HBE : Kp (Below w.heap.size w wr) := ⟨HB5.out.trans (HB.out.mono HB5.out.size)⟩
        clear hall hfb hnn hkn
        by_cases hle : F + n ≤ 100001
        · have k1 : ¬ (100001 : Int) < F + n := by omega
          have HV2 : Kp (vF = F ∧ vE = 0) := ⟨by rw [← HVF.out, ← HVE.out, if_pos hle, if_pos hle]; exact ⟨rfl, rfl⟩⟩
          clear hle
          go_wp2
          go_ret2
          exact ⟨by rw [HV2.out.1, HV2.out.2]; rfl, HBE.out⟩
        · have k1 : (100001 : Int) < F + n := by omega
          have HV2 : Kp (vF = 0 ∧ vE = 8) := ⟨by rw [← HVF.out, ← HVE.out, if_neg hle, if_neg hle]; exact ⟨rfl, rfl⟩⟩
          clear hle
          go_wp2
          go_ret2
          exact ⟨by rw [HV2.out.1, HV2.out.2]; rfl, HBE.out⟩
  · exact absurd HVA.out (by rw [h.1]; decide)
theorem Free_any (v : Value) (l : List Loan) (s : ByteArray) (fr n : Int) (w : World) (hv : LS w v l) (hm : l.length ≤ 1000) (hs : s.size ≤ maxLen) :
    Calls Try.prog 43 #[v, .string s, .int .i64 fr, .int .i64 n] w fun e w' => e = .returned (.tuple #[.int .i64 (frV l s fr n), .int .i64 (frE l s fr n)]) ∧ Below w.heap.size w w' := by
  unfold frV frE
  by_cases h : frC l s fr n = 0
  · rw [if_pos h, if_pos h]
    exact Free_ok v l s fr n w hv hm hs h
  · rw [if_neg h, if_neg h]
    exact Free_no v l s fr n w hv hm hs h
end Go.Proofs.Ytaofjomocefdkaa.Ln
