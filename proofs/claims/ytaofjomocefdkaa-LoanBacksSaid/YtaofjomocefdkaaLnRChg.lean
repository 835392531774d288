/-
  WALKS (layer 9, loan): the reference's changed, Back and Renew.
-/
import Derived.Test.YtaofjomocefdkaaLnRBack
namespace Go.Proofs.Ytaofjomocefdkaa.Ln
open Go Go.RowKit Go.Sort
attribute [-go_sem] Builtin.append_

theorem Row.one {w : World} {G n i f : Nat} {v u : Value} {l : List Loan} {x x' : Loan} (h : Row w G n v l) (hx : l[i]? = some x) (hw : x'.wf) (hf : f < 5)
    (hat : LAt (w.setCell ⟨G, i * 5 + f, none⟩ u) G (i * 5) x') : Row (w.setCell ⟨G, i * 5 + f, none⟩ u) G n v (l.set i x') := by
  obtain ⟨c, rfl, hn, hc, hfz, hl⟩ := h
  refine ⟨c, rfl, by rw [List.length_set]; exact hn, hc, fun j => by simp [go_sem, hfz], fun j y hy => ?_⟩
  rcases set_cases hy with ⟨rfl, rfl⟩ | ⟨hne, hy⟩
  · exact ⟨hat, hw⟩
  · obtain ⟨hat2, hw2⟩ := hl j y hy
    refine ⟨?_, hw2⟩
    have key : ∀ f', f' < 5 → ∀ u', w.cell? ⟨G, j * 5 + f', none⟩ = some u' → (w.setCell ⟨G, i * 5 + f, none⟩ u).cell? ⟨G, j * 5 + f', none⟩ = some u' := by
      intro f' hf5 u' hu
      exact (World.cell?_setCell_other _ _ _ _ (fun e => by simp only [Addr.mk.injEq, and_true, true_and] at e; omega)).trans hu
    exact ⟨key 0 (by omega) _ hat2.c0, key 1 (by omega) _ hat2.c1, key 2 (by omega) _ hat2.c2, key 3 (by omega) _ hat2.c3, key 4 (by omega) _ hat2.c4⟩
theorem Row.at {w : World} {G n i : Nat} {v : Value} {l : List Loan} {x : Loan} (h : Row w G n v l) (hx : l[i]? = some x) : LAt w G (i * 5) x ∧ x.wf := by
  obtain ⟨c, -, -, -, -, hl⟩ := h
  exact hl i x hx
theorem Row.back {w : World} {G n i : Nat} {v : Value} {l : List Loan} {x : Loan} (d : Int) (h : Row w G n v l) (hx : l[i]? = some x) : Row (w.setCell ⟨G, i * 5 + 4, none⟩ (.int .i64 d)) G n v (l.set i (backL d x)) := by
  obtain ⟨⟨c0, c1, c2, c3, c4⟩, hw⟩ := h.at hx
  exact h.one hx (x' := backL d x) hw (by omega) ⟨by simp [go_sem, c0, backL], by simp [go_sem, c1, backL], by simp [go_sem, c2, backL], by simp [go_sem, c3, backL], by simp [go_sem, c4, backL]⟩
theorem Row.due {w : World} {G n i : Nat} {v : Value} {l : List Loan} {x : Loan} (d : Int) (h : Row w G n v l) (hx : l[i]? = some x) : Row (w.setCell ⟨G, i * 5 + 3, none⟩ (.int .i64 d)) G n v (l.set i (dueL d x)) := by
  obtain ⟨⟨c0, c1, c2, c3, c4⟩, hw⟩ := h.at hx
  exact h.one hx (x' := dueL d x) hw (by omega) ⟨by simp [go_sem, c0, dueL], by simp [go_sem, c1, dueL], by simp [go_sem, c2, dueL], by simp [go_sem, c3, dueL], by simp [go_sem, c4, dueL]⟩
theorem Row.frz {w : World} {G n : Nat} {v : Value} {l : List Loan} (h : Row w G n v l) : ∀ j, w.frozen? ⟨G, j, none⟩ = false := by
  obtain ⟨c, -, -, -, hf, -⟩ := h
  exact hf
set_option maxRecDepth 100000 in
set_option maxHeartbeats 2000000 in
theorem rChangedB_any (v : Value) (l : List Loan) (s : ByteArray) (d : Int) (w : World) (hv : LS w v l) (hm : l.length ≤ 1000) (hs : s.size ≤ maxLen) : Calls Try.prog 75 #[v, .string s, .int .i64 d, .bool true] w (LsPost w (chgL l s d (backOk d) (backL d)) (chgE l s d (backOk d))) := by
  have HA : Kp (Calls Try.prog 65 #[v, .string s] w fun e w' => e = .returned (.int .i64 (askE l s)) ∧ Below w.heap.size w w') := ⟨rAsked_any v l s w hv hm hs⟩
  have HD : Kp (∀ W, Calls Try.prog 66 #[.int .i64 d] W fun e w' => e = .returned (.bool (dayB d)) ∧ Below W.heap.size W w') := ⟨fun W => rDay_any d W⟩
  have HC : Kp (∀ W, Below w.heap.size w W → Calls Try.prog 101 #[v, .string s] W fun e w' => e = .returned (.int .i64 (curI l s)) ∧ Below w.heap.size w w') := ⟨fun W hW => (rCurrent_any v l s W (hv.below hW) hm).mono fun e w' ⟨h1, h2⟩ => ⟨h1, hW.trans (h2.mono hW.size)⟩⟩
  have hwe := whE_ask l s d
  have HLV := Kp.mk hv
  obtain ⟨g, c, rfl⟩ := hv.shape
  obtain ⟨N, hN⟩ : ∃ N, l.length = N := ⟨_, rfl⟩
  have HN := Kp.mk hN
  have HM : Kp (N ≤ 1000) := ⟨hN ▸ hm⟩
  rw [hN] at HA HC HLV ⊢
  by_cases hE0 : askE l s = 0
  · rw [hE0] at HA
    rw [if_pos hE0] at hwe
    cases hB : dayB d with
    | false =>
      rw [hB] at HD
      rw [hB, if_neg (by decide)] at hwe
      obtain ⟨e1, e2⟩ := chg_err (ok := backOk d) (ch := backL d) (show whE l s d ≠ 0 by rw [hwe]; decide)
      rw [e1, e2, hwe]
      clear hv hm hs hN hE0 hB hwe e1 e2
      go_enter Try.func75, Try.ntmps75
      go_wp2_with fail
      refine HA.out.mono ?_
      rintro en w1 ⟨rfl, hb1⟩
      have HB1 := Kp.mk hb1
      clear hb1
      go_wp2_with fail
      refine (HD.out _).mono ?_
      rintro en w2 ⟨rfl, hb2⟩
      have HB2 := Kp.mk (HB1.out.trans (hb2.mono HB1.out.size))
      clear hb2
      go_wp2
      go_ret2
      exact ⟨_, rfl, ⟨none, 0, rfl, Nat.le_refl _, fun i x hx => by simp at hx⟩, HB2.out⟩
    | true =>
      rw [hB] at HD
      rw [hB, if_pos rfl] at hwe
      cases hf : l.findIdx? (openB s) with
      | none =>
        rw [curI_none hf] at HC
        obtain ⟨e1, e2⟩ := chg_none (ok := backOk d) (ch := backL d) hwe hf
        rw [e1, e2]
        clear hv hm hs hN hE0 hB hwe e1 e2 hf
        go_enter Try.func75, Try.ntmps75
        go_wp2_with fail
        refine HA.out.mono ?_
        rintro en w1 ⟨rfl, hb1⟩
        have HB1 := Kp.mk hb1
        clear hb1
        go_wp2_with fail
        refine (HD.out _).mono ?_
        rintro en w2 ⟨rfl, hb2⟩
        have HB2 := Kp.mk (HB1.out.trans (hb2.mono HB1.out.size))
        clear hb2
        go_wp2_with fail
        refine (HC.out _ HB2.out).mono ?_
        rintro en w3 ⟨rfl, hb3⟩
        have HB3 := Kp.mk hb3
        clear hb3
        go_wp2
        go_ret2
        exact ⟨_, rfl, ⟨none, 0, rfl, Nat.le_refl _, fun i x hx => by simp at hx⟩, HB3.out⟩
      | some i =>
        rw [curI_some hf] at HC
        obtain ⟨hi, hq, -⟩ := List.findIdx?_eq_some_iff_getElem.1 hf
        obtain ⟨x, hx⟩ : ∃ x, l[i]? = some x := ⟨_, List.getElem?_eq_getElem hi⟩
        obtain ⟨g', c', e', -, hat0⟩ := HLV.out
        simp only [Value.slice.injEq] at e'
        obtain ⟨rfl, -, rfl⟩ := e'
        obtain ⟨b, o, hg, hat, -⟩ := hat0 i x hx
        subst hg
        have HAT := Kp.mk hat
        have o1 : (i : Int) < (N : Int) := by omega
        have o2 : i ≤ 1000 := by have := HM.out; omega
        have o3 : ¬ (i : Int) < 0 := by omega
        have HX := Kp.mk hx
        cases hk : backOk d x with
        | false =>
          obtain ⟨e1, e2⟩ := chg_no (ch := backL d) hwe hf hx hk
          rw [e1, e2]
          have k1 : d ≤ x.out := by have := of_decide_eq_false hk; omega
          clear hv hm hs hN hE0 hB hwe e1 e2 hf hi hq hx hk hat0 hat
          go_enter Try.func75, Try.ntmps75
          go_wp2_with fail
          refine HA.out.mono ?_
          rintro en w1 ⟨rfl, hb1⟩
          have HB1 := Kp.mk hb1
          clear hb1
          go_wp2_with fail
          refine (HD.out _).mono ?_
          rintro en w2 ⟨rfl, hb2⟩
          have HB2 := Kp.mk (HB1.out.trans (hb2.mono HB1.out.size))
          clear hb2
          go_wp2_with fail
          refine (HC.out _ HB2.out).mono ?_
          rintro en w3 ⟨rfl, hb3⟩
          have HB3 := Kp.mk hb3
          obtain ⟨d0, d1, d2, d3, d4⟩ := HAT.out.on hb3
          clear hb3
          go_wp2
          go_ret2
          exact ⟨_, rfl, ⟨none, 0, rfl, Nat.le_refl _, fun i x hx => by simp at hx⟩, HB3.out⟩
        | true =>
          obtain ⟨e1, e2⟩ := chg_yes (ch := backL d) hwe hf hx hk
          rw [e1, e2]
          have k1 : ¬ d ≤ x.out := by have := of_decide_eq_true hk; omega
          have hl0 : 0 < l.length := by omega
          have HL0 := Kp.mk hl0
          clear hv hm hs hE0 hB hwe e1 e2 hf hi hq hx hk hat0 hat hl0 hN
          go_enter Try.func75, Try.ntmps75
          go_wp2_with fail
          refine HA.out.mono ?_
          rintro en w1 ⟨rfl, hb1⟩
          have HB1 := Kp.mk hb1
          clear hb1
          go_wp2_with fail
          refine (HD.out _).mono ?_
          rintro en w2 ⟨rfl, hb2⟩
          have HB2 := Kp.mk (HB1.out.trans (hb2.mono HB1.out.size))
          clear hb2
          go_wp2_with fail
          refine (HC.out _ HB2.out).mono ?_
          rintro en w3 ⟨rfl, hb3⟩
          have HB3 := Kp.mk hb3
          obtain ⟨d0, d1, d2, d3, d4⟩ := HAT.out.on hb3
          obtain ⟨W1, hW1⟩ : ∃ W1, w3.alloc (.cells #[] 26) = W1 := ⟨_, rfl⟩
          have hbw : Below w3.heap.size w3 W1 := by rw [← hW1]; exact by repeat (first | exact Below.refl _ _ | refine Below.alloc ?_ (by simp <;> omega) _ | refine bDrewN ?_ _ | refine Below.drew ?_)
          have hls := (HLV.out.below hb3).below hbw
          rw [← HN.out] at hls
          obtain ⟨cap, W2, hrun, hrow, hb4, hz4⟩ := run_appL W1 w3.heap.size b o c l HL0.out (by have := HM.out; have := HN.out; omega) hls
          have hz1 : W1.heap.size = w3.heap.size + 1 := by rw [← hW1]; simp
          rw [HN.out] at hrun hrow
          rw [hz1] at hrun hrow
          rw [← hW1] at hrun
          have HR := Kp.mk hrow
          have hfz := hrow.frz
          obtain ⟨⟨p0, p1, p2, p3, p4⟩, -⟩ := hrow.at HX.out
          have HB4 : Kp (Below w.heap.size w W2) := ⟨hb3.trans ((hbw.trans (hb4.mono hbw.size)).mono hb3.size)⟩
          have HG : Kp (w.heap.size ≤ w3.heap.size + 1) := ⟨Nat.le_succ_of_le hb3.size⟩
          clear hb3 hW1 hbw hls hb4 hz1 hrow hz4
          go_wp2
          go_ret2
          exact ⟨_, rfl, (HR.out.back d HX.out).ls, HB4.out.setCell HG.out _⟩
  · have h1 : whE l s d ≠ 0 := by rw [hwe, if_neg hE0]; exact hE0
    obtain ⟨e1, e2⟩ := chg_err (ok := backOk d) (ch := backL d) h1
    rw [if_neg hE0] at hwe
    rw [e1, e2, hwe]
    obtain ⟨E, hE⟩ : ∃ E, askE l s = E := ⟨_, rfl⟩
    rw [hE] at HA hE0 ⊢
    have j1 : (E == (0 : Int)) = false := by simp [hE0]
    have j2 : (E != (0 : Int)) = true := by simp [hE0]
    clear hv hm hs hN hE0 hwe h1 e1 e2 hE
    go_enter Try.func75, Try.ntmps75
    go_wp2_with fail
    refine HA.out.mono ?_
    rintro en w1 ⟨rfl, hb1⟩
    have HB1 := Kp.mk hb1
    clear hb1
    go_wp2
    go_ret2
    exact ⟨_, rfl, ⟨none, 0, rfl, Nat.le_refl _, fun i x hx => by simp at hx⟩, HB1.out⟩
theorem rBack_any (v : Value) (l : List Loan) (s : ByteArray) (d : Int) (w : World) (hv : LS w v l) (hm : l.length ≤ 1000) (hs : s.size ≤ maxLen) : Calls Try.prog 34 #[v, .string s, .int .i64 d] w (LsPost w (chgL l s d (backOk d) (backL d)) (chgE l s d (backOk d))) := by
  have HN := Kp.mk (rChangedB_any v l s d w hv hm hs)
  obtain ⟨g, c, rfl⟩ := hv.shape
  obtain ⟨N, hN⟩ : ∃ N, l.length = N := ⟨_, rfl⟩
  rw [hN] at HN ⊢
  clear hv hm hs hN
  go_enter Try.func34, Try.ntmps34
  go_wp2_with fail
  refine HN.out.mono ?_
  rintro en w1 ⟨u, rfl, hl, hb⟩
  have HR := Kp.mk (And.intro hl hb)
  clear hl hb
  go_wp2
  go_ret2
  exact ⟨_, rfl, HR.out.1, HR.out.2⟩
set_option maxRecDepth 100000 in
set_option maxHeartbeats 2000000 in
theorem rChangedD_any (v : Value) (l : List Loan) (s : ByteArray) (d : Int) (w : World) (hv : LS w v l) (hm : l.length ≤ 1000) (hs : s.size ≤ maxLen) : Calls Try.prog 75 #[v, .string s, .int .i64 d, .bool false] w (LsPost w (chgL l s d (dueOk d) (dueL d)) (chgE l s d (dueOk d))) := by
  have HA : Kp (Calls Try.prog 65 #[v, .string s] w fun e w' => e = .returned (.int .i64 (askE l s)) ∧ Below w.heap.size w w') := ⟨rAsked_any v l s w hv hm hs⟩
  have HD : Kp (∀ W, Calls Try.prog 66 #[.int .i64 d] W fun e w' => e = .returned (.bool (dayB d)) ∧ Below W.heap.size W w') := ⟨fun W => rDay_any d W⟩
  have HC : Kp (∀ W, Below w.heap.size w W → Calls Try.prog 101 #[v, .string s] W fun e w' => e = .returned (.int .i64 (curI l s)) ∧ Below w.heap.size w w') := ⟨fun W hW => (rCurrent_any v l s W (hv.below hW) hm).mono fun e w' ⟨h1, h2⟩ => ⟨h1, hW.trans (h2.mono hW.size)⟩⟩
  have hwe := whE_ask l s d
  have HLV := Kp.mk hv
  obtain ⟨g, c, rfl⟩ := hv.shape
  obtain ⟨N, hN⟩ : ∃ N, l.length = N := ⟨_, rfl⟩
  have HN := Kp.mk hN
  have HM : Kp (N ≤ 1000) := ⟨hN ▸ hm⟩
  rw [hN] at HA HC HLV ⊢
  by_cases hE0 : askE l s = 0
  · rw [hE0] at HA
    rw [if_pos hE0] at hwe
    cases hB : dayB d with
    | false =>
      rw [hB] at HD
      rw [hB, if_neg (by decide)] at hwe
      obtain ⟨e1, e2⟩ := chg_err (ok := dueOk d) (ch := dueL d) (show whE l s d ≠ 0 by rw [hwe]; decide)
      rw [e1, e2, hwe]
      clear hv hm hs hN hE0 hB hwe e1 e2
      go_enter Try.func75, Try.ntmps75
      go_wp2_with fail
      refine HA.out.mono ?_
      rintro en w1 ⟨rfl, hb1⟩
      have HB1 := Kp.mk hb1
      clear hb1
      go_wp2_with fail
      refine (HD.out _).mono ?_
      rintro en w2 ⟨rfl, hb2⟩
      have HB2 := Kp.mk (HB1.out.trans (hb2.mono HB1.out.size))
      clear hb2
      go_wp2
      go_ret2
      exact ⟨_, rfl, ⟨none, 0, rfl, Nat.le_refl _, fun i x hx => by simp at hx⟩, HB2.out⟩
    | true =>
      rw [hB] at HD
      rw [hB, if_pos rfl] at hwe
      cases hf : l.findIdx? (openB s) with
      | none =>
        rw [curI_none hf] at HC
        obtain ⟨e1, e2⟩ := chg_none (ok := dueOk d) (ch := dueL d) hwe hf
        rw [e1, e2]
        clear hv hm hs hN hE0 hB hwe e1 e2 hf
        go_enter Try.func75, Try.ntmps75
        go_wp2_with fail
        refine HA.out.mono ?_
        rintro en w1 ⟨rfl, hb1⟩
        have HB1 := Kp.mk hb1
        clear hb1
        go_wp2_with fail
        refine (HD.out _).mono ?_
        rintro en w2 ⟨rfl, hb2⟩
        have HB2 := Kp.mk (HB1.out.trans (hb2.mono HB1.out.size))
        clear hb2
        go_wp2_with fail
        refine (HC.out _ HB2.out).mono ?_
        rintro en w3 ⟨rfl, hb3⟩
        have HB3 := Kp.mk hb3
        clear hb3
        go_wp2
        go_ret2
        exact ⟨_, rfl, ⟨none, 0, rfl, Nat.le_refl _, fun i x hx => by simp at hx⟩, HB3.out⟩
      | some i =>
        rw [curI_some hf] at HC
        obtain ⟨hi, hq, -⟩ := List.findIdx?_eq_some_iff_getElem.1 hf
        obtain ⟨x, hx⟩ : ∃ x, l[i]? = some x := ⟨_, List.getElem?_eq_getElem hi⟩
        obtain ⟨g', c', e', -, hat0⟩ := HLV.out
        simp only [Value.slice.injEq] at e'
        obtain ⟨rfl, -, rfl⟩ := e'
        obtain ⟨b, o, hg, hat, -⟩ := hat0 i x hx
        subst hg
        have HAT := Kp.mk hat
        have o1 : (i : Int) < (N : Int) := by omega
        have o2 : i ≤ 1000 := by have := HM.out; omega
        have o3 : ¬ (i : Int) < 0 := by omega
        have HX := Kp.mk hx
        cases hk : dueOk d x with
        | false =>
          obtain ⟨e1, e2⟩ := chg_no (ch := dueL d) hwe hf hx hk
          rw [e1, e2]
          have k1 : d ≤ x.due := by have := of_decide_eq_false hk; omega
          clear hv hm hs hN hE0 hB hwe e1 e2 hf hi hq hx hk hat0 hat
          go_enter Try.func75, Try.ntmps75
          go_wp2_with fail
          refine HA.out.mono ?_
          rintro en w1 ⟨rfl, hb1⟩
          have HB1 := Kp.mk hb1
          clear hb1
          go_wp2_with fail
          refine (HD.out _).mono ?_
          rintro en w2 ⟨rfl, hb2⟩
          have HB2 := Kp.mk (HB1.out.trans (hb2.mono HB1.out.size))
          clear hb2
          go_wp2_with fail
          refine (HC.out _ HB2.out).mono ?_
          rintro en w3 ⟨rfl, hb3⟩
          have HB3 := Kp.mk hb3
          obtain ⟨d0, d1, d2, d3, d4⟩ := HAT.out.on hb3
          clear hb3
          go_wp2
          go_ret2
          exact ⟨_, rfl, ⟨none, 0, rfl, Nat.le_refl _, fun i x hx => by simp at hx⟩, HB3.out⟩
        | true =>
          obtain ⟨e1, e2⟩ := chg_yes (ch := dueL d) hwe hf hx hk
          rw [e1, e2]
          have k1 : ¬ d ≤ x.due := by have := of_decide_eq_true hk; omega
          have hl0 : 0 < l.length := by omega
          have HL0 := Kp.mk hl0
          clear hv hm hs hE0 hB hwe e1 e2 hf hi hq hx hk hat0 hat hl0 hN
          go_enter Try.func75, Try.ntmps75
          go_wp2_with fail
          refine HA.out.mono ?_
          rintro en w1 ⟨rfl, hb1⟩
          have HB1 := Kp.mk hb1
          clear hb1
          go_wp2_with fail
          refine (HD.out _).mono ?_
          rintro en w2 ⟨rfl, hb2⟩
          have HB2 := Kp.mk (HB1.out.trans (hb2.mono HB1.out.size))
          clear hb2
          go_wp2_with fail
          refine (HC.out _ HB2.out).mono ?_
          rintro en w3 ⟨rfl, hb3⟩
          have HB3 := Kp.mk hb3
          obtain ⟨d0, d1, d2, d3, d4⟩ := HAT.out.on hb3
          obtain ⟨W1, hW1⟩ : ∃ W1, w3.alloc (.cells #[] 26) = W1 := ⟨_, rfl⟩
          have hbw : Below w3.heap.size w3 W1 := by rw [← hW1]; exact by repeat (first | exact Below.refl _ _ | refine Below.alloc ?_ (by simp <;> omega) _ | refine bDrewN ?_ _ | refine Below.drew ?_)
          have hls := (HLV.out.below hb3).below hbw
          rw [← HN.out] at hls
          obtain ⟨cap, W2, hrun, hrow, hb4, hz4⟩ := run_appL W1 w3.heap.size b o c l HL0.out (by have := HM.out; have := HN.out; omega) hls
          have hz1 : W1.heap.size = w3.heap.size + 1 := by rw [← hW1]; simp
          rw [HN.out] at hrun hrow
          rw [hz1] at hrun hrow
          rw [← hW1] at hrun
          have HR := Kp.mk hrow
          have hfz := hrow.frz
          obtain ⟨⟨p0, p1, p2, p3, p4⟩, -⟩ := hrow.at HX.out
          have HB4 : Kp (Below w.heap.size w W2) := ⟨hb3.trans ((hbw.trans (hb4.mono hbw.size)).mono hb3.size)⟩
          have HG : Kp (w.heap.size ≤ w3.heap.size + 1) := ⟨Nat.le_succ_of_le hb3.size⟩
          clear hb3 hW1 hbw hls hb4 hz1 hrow hz4
          go_wp2
          go_ret2
          exact ⟨_, rfl, (HR.out.due d HX.out).ls, HB4.out.setCell HG.out _⟩
  · have h1 : whE l s d ≠ 0 := by rw [hwe, if_neg hE0]; exact hE0
    obtain ⟨e1, e2⟩ := chg_err (ok := dueOk d) (ch := dueL d) h1
    rw [if_neg hE0] at hwe
    rw [e1, e2, hwe]
    obtain ⟨E, hE⟩ : ∃ E, askE l s = E := ⟨_, rfl⟩
    rw [hE] at HA hE0 ⊢
    have j1 : (E == (0 : Int)) = false := by simp [hE0]
    have j2 : (E != (0 : Int)) = true := by simp [hE0]
    clear hv hm hs hN hE0 hwe h1 e1 e2 hE
    go_enter Try.func75, Try.ntmps75
    go_wp2_with fail
    refine HA.out.mono ?_
    rintro en w1 ⟨rfl, hb1⟩
    have HB1 := Kp.mk hb1
    clear hb1
    go_wp2
    go_ret2
    exact ⟨_, rfl, ⟨none, 0, rfl, Nat.le_refl _, fun i x hx => by simp at hx⟩, HB1.out⟩
theorem rRenew_any (v : Value) (l : List Loan) (s : ByteArray) (d : Int) (w : World) (hv : LS w v l) (hm : l.length ≤ 1000) (hs : s.size ≤ maxLen) : Calls Try.prog 36 #[v, .string s, .int .i64 d] w (LsPost w (chgL l s d (dueOk d) (dueL d)) (chgE l s d (dueOk d))) := by
  have HN := Kp.mk (rChangedD_any v l s d w hv hm hs)
  obtain ⟨g, c, rfl⟩ := hv.shape
  obtain ⟨N, hN⟩ : ∃ N, l.length = N := ⟨_, rfl⟩
  rw [hN] at HN ⊢
  clear hv hm hs hN
  go_enter Try.func36, Try.ntmps36
  go_wp2_with fail
  refine HN.out.mono ?_
  rintro en w1 ⟨u, rfl, hl, hb⟩
  have HR := Kp.mk (And.intro hl hb)
  clear hl hb
  go_wp2
  go_ret2
  exact ⟨_, rfl, HR.out.1, HR.out.2⟩
end Go.Proofs.Ytaofjomocefdkaa.Ln
