/-
  WALKS (layer 9, loan): the reference's Lend, at every input.
-/
import Derived.Test.YtaofjomocefdkaaLnRLend
namespace Go.Proofs.Ytaofjomocefdkaa.Ln
open Go Go.RowKit Go.Sort
attribute [-go_sem] Builtin.append_

/-- One more loan behind a copy of all, whatever was laid between. -/
theorem copy_one {w W : World} {base Z c0 : Nat} {l : List Loan} {g : Option Addr} {c : Nat} {x : Loan} (hb : Below base w W) (h : OwnL W base (.slice (some ⟨Z, 0, none⟩) 0 c0) []) (hl : LS W (.slice g l.length c) l) (hm : l.length ≤ 1000) (hbz : base ≤ W.heap.size) :
    ∃ g' c' W', (Builtin.append_ #[22, 22] 22 #[.slice (some ⟨Z, 0, none⟩) 0 c0, .slice g l.length c]).run Try.prog W = .ok (.slice (some ⟨g', 0, none⟩) l.length c') W' ∧ Below base w W' ∧ (∀ j, j < W.heap.size → j ≠ Z → W'.heap[j]? = W.heap[j]?) ∧ W.heap.size ≤ W'.heap.size ∧
      (∀ (Y : Nat) (W2 : World), (W2 = W' ∨ ∃ o, W2 = W'.alloc o) → LAt W2 Y 0 x → ∃ g2 c2 W3, (Builtin.append_ #[22, 22] 22 #[.slice (some ⟨g', 0, none⟩) l.length c', .slice (some ⟨Y, 0, none⟩) 1 1]).run Try.prog W2 = .ok (.slice g2 (l.length + 1) c2) W3 ∧ OwnL W3 base (.slice g2 (l.length + 1) c2) (l ++ [x]) ∧ Below base w W3) := by
  obtain ⟨g', c', W', hrun, hown, hg⟩ := h.copy hl hm hbz
  have hZ : base ≤ Z := (h.block (j := Z) rfl).1
  have hb' : Below base w W' := hb.grown hg hbz (fun j hj => by cases hj; exact hZ)
  refine ⟨g', c', W', hrun, hb', fun j hj hne => hg.block j hj (fun e => hne (by cases e; rfl)), hg.size, fun Y W2 hW2 hx => ?_⟩
  have hb2 : Below W'.heap.size W' W2 := by
    rcases hW2 with rfl | ⟨o, rfl⟩
    · exact Below.refl _ _
    · exact (Below.refl _ _).alloc (Nat.le_refl _) _
  have hz' : base ≤ W'.heap.size := Nat.le_trans hbz hg.size
  have ho := hown.on hb2
  obtain ⟨g2, c2, W3, hr, ho3, hg3, -⟩ := ho.next hx (by omega) (Nat.le_trans hz' hb2.size)
  exact ⟨g2, c2, W3, hr, ho3, (hb'.trans (hb2.mono hz')).grown hg3 (Nat.le_trans hz' hb2.size) (fun j hj => (ho.block hj).1)⟩
theorem lat_new (W : World) (x : Loan) (t : TypeId) : LAt (W.alloc (.cells #[.string x.p, .string x.t, .int .i64 x.out, .int .i64 x.due, .int .i64 x.back] t)) W.heap.size 0 x := ⟨by go_simp, by go_simp, by go_simp, by go_simp, by go_simp⟩
def lnE (V O B : Bool) : Bool := (V && O) && B
set_option maxHeartbeats 2000000 in
theorem rLend_one (v : Value) (l : List Loan) (x : Loan) (w : World) (hv : LS w v l) (hm : l.length ≤ 1000) (hx : x.wf) (h0 : lndB l x = false) : Calls Try.prog 31 #[v, .agg #[.string x.p, .string x.t, .int .i64 x.out, .int .i64 x.due, .int .i64 x.back]] w fun e w' => e = .returned (.tuple #[.slice none 0 0, .int .i64 1]) ∧ Below w.heap.size w w' := by
  have HV : Kp (∀ W, Below w.heap.size w W → Calls Try.prog 22 #[v] W fun e w' => e = .returned (.bool (validL l)) ∧ Below W.heap.size W w') := ⟨fun W hW => rValid_any v l W (hv.below hW) hm⟩
  have HO : Kp (∀ W, Calls Try.prog 16 #[.agg #[.string x.p, .string x.t, .int .i64 x.out, .int .i64 x.due, .int .i64 x.back]] W fun e w' => e = .returned (.bool (okB x)) ∧ Below W.heap.size W w') := ⟨fun W => rValidLoan_any x W hx⟩
  have h1 : lnE (validL l) (okB x) (x.back == 0) = false := h0
  obtain ⟨V, hV⟩ : ∃ V, validL l = V := ⟨_, rfl⟩
  obtain ⟨O, hO⟩ : ∃ O, okB x = O := ⟨_, rfl⟩
  obtain ⟨B, hB⟩ : ∃ B, (x.back == (0 : Int)) = B := ⟨_, rfl⟩
  rw [hV] at HV h1
  rw [hO] at HO h1
  rw [hB] at h1
  obtain ⟨g, c, rfl⟩ := hv.shape
  obtain ⟨N, hN⟩ : ∃ N, l.length = N := ⟨_, rfl⟩
  rw [hN] at HV ⊢
  obtain ⟨xp, xt, xo, xd, xb⟩ := x
  simp only at HO hB
  have hb1 : Below w.heap.size w (w.alloc (.cells #[.string xp, .string xt, .int .i64 xo, .int .i64 xd, .int .i64 xb] 26)) := by repeat (first | exact Below.refl _ _ | refine Below.alloc ?_ (by simp <;> omega) _ | refine bDrewN ?_ _ | refine Below.drew ?_)
  have hat : LAt (w.alloc (.cells #[.string xp, .string xt, .int .i64 xo, .int .i64 xd, .int .i64 xb] 26)) w.heap.size 0 ⟨xp, xt, xo, xd, xb⟩ := ⟨by go_simp, by go_simp, by go_simp, by go_simp, by go_simp⟩
  have HB1 := Kp.mk hb1
  have HAT := Kp.mk hat
  clear hv hm hx hV hO hN hb1 hat h0
  cases V with
  | false =>
    clear h1
    go_enter Try.func31, Try.ntmps31
    go_wp2_with fail
    refine (HV.out _ HB1.out).mono ?_
    rintro en w1 ⟨rfl, hb⟩
    have HB2 := Kp.mk (HB1.out.trans (hb.mono HB1.out.size))
    clear hb
    go_wp2
    go_ret2
    exact ⟨rfl, HB2.out⟩
  | true =>
    cases O with
    | false =>
      clear h1
      go_enter Try.func31, Try.ntmps31
      go_wp2_with fail
      refine (HV.out _ HB1.out).mono ?_
      rintro en w1 ⟨rfl, hb⟩
      have HB2 := Kp.mk (HB1.out.trans (hb.mono HB1.out.size))
      obtain ⟨d0, d1, d2, d3, d4⟩ := HAT.out.on hb
      simp only [Nat.zero_add] at d0 d1 d2 d3 d4
      clear hb
      go_wp2_with fail
      refine (HO.out _).mono ?_
      rintro en w2 ⟨rfl, hb⟩
      have HB3 := Kp.mk (HB2.out.trans (hb.mono HB2.out.size))
      clear hb
      go_wp2
      go_ret2
      exact ⟨rfl, HB3.out⟩
    | true =>
      have hB2 : B = false := h1
      subst hB2
      clear h1
      go_enter Try.func31, Try.ntmps31
      go_wp2_with fail
      refine (HV.out _ HB1.out).mono ?_
      rintro en w1 ⟨rfl, hb⟩
      have HB2 := Kp.mk (HB1.out.trans (hb.mono HB1.out.size))
      have HA2 := Kp.mk (HAT.out.on hb)
      obtain ⟨d0, d1, d2, d3, d4⟩ := HA2.out
      simp only [Nat.zero_add] at d0 d1 d2 d3 d4
      clear hb
      go_wp2_with fail
      refine (HO.out _).mono ?_
      rintro en w2 ⟨rfl, hb⟩
      have HB3 := Kp.mk (HB2.out.trans (hb.mono HB2.out.size))
      clear d0 d1 d2 d3 d4
      obtain ⟨d0, d1, d2, d3, d4⟩ := HA2.out.on hb
      simp only [Nat.zero_add] at d0 d1 d2 d3 d4
      have j2 : (xb != (0 : Int)) = true := by simpa using hB
      clear hb hB
      go_wp2
      go_ret2
      exact ⟨rfl, HB3.out⟩
set_option maxRecDepth 100000 in
set_option maxHeartbeats 4000000 in
theorem rLend_go (v : Value) (l : List Loan) (x : Loan) (w : World) (hv : LS w v l) (hm : l.length ≤ 1000) (hx : x.wf) (h0 : lndB l x = true) : Calls Try.prog 31 #[v, .agg #[.string x.p, .string x.t, .int .i64 x.out, .int .i64 x.due, .int .i64 x.back]] w (LsPost w (lendL l x) (lendE l x)) := by
  have h1 := h0
  unfold lndB at h1
  simp only [Bool.and_eq_true, beq_iff_eq] at h1
  have HV : Kp (∀ W, Below w.heap.size w W → Calls Try.prog 22 #[v] W fun e w' => e = .returned (.bool true) ∧ Below W.heap.size W w') := ⟨fun W hW => h1.1.1 ▸ rValid_any v l W (hv.below hW) hm⟩
  have HO : Kp (∀ W, Calls Try.prog 16 #[.agg #[.string x.p, .string x.t, .int .i64 x.out, .int .i64 x.due, .int .i64 x.back]] W fun e w' => e = .returned (.bool true) ∧ Below W.heap.size W w') := ⟨fun W => h1.1.2 ▸ rValidLoan_any x W hx⟩
  have HLV := Kp.mk hv
  have HWF : Kp ((∀ y ∈ l, y.wf) ∧ x.wf) := ⟨hv.wfs, hx⟩
  have HMY := Kp.mk (lnd_may h0)
  have H9 : Kp (mayB l x = false → lendE l x = 9 ∧ lendL l x = []) := ⟨fun h => lend_9 h0 h⟩
  have H4 : Kp (mayB l x = true → l.length = 200 → lendE l x = 4 ∧ lendL l x = []) := ⟨fun h h' => lend_4 h0 h h'⟩
  have H00 : Kp (mayB l x = true → l.length ≠ 200 → lendE l x = 0 ∧ lendL l x = l ++ [x]) := ⟨fun h h' => lend_0 h0 h h'⟩
  obtain ⟨g, c, rfl, -, hi⟩ := hv
  have HS := Kp.mk hi
  obtain ⟨N, hN⟩ : ∃ N, l.length = N := ⟨_, rfl⟩
  have HN := Kp.mk hN
  have HM : Kp (N ≤ 1000) := ⟨hN ▸ hm⟩
  rw [hN] at HV ⊢
  have hxb : x.back = 0 := h1.2
  have HMR : Kp (∀ k y, l[k]? = some y → rmayB (l.take (k + 1)) x = (rmayB (l.take k) x && !(decide (x.out < y.out) || ovB y x))) := ⟨fun k y hy => rmay_more hy⟩
  have HMN : Kp (∀ k y, l[k]? = some y → (decide (x.out < y.out) || ovB y x) = true → rmayB l x = false) := ⟨fun k y hy h => rmay_no hy h⟩
  have HOV : Kp (∀ y W, Calls Try.prog 58 #[.agg #[.string y.p, .string y.t, .int .i64 y.out, .int .i64 y.due, .int .i64 y.back], .agg #[.string x.p, .string x.t, .int .i64 x.out, .int .i64 x.due, .int .i64 x.back]] W fun e w' => e = .returned (.bool (ovB y x)) ∧ Below W.heap.size W w') := ⟨fun y W => rOverlap2_any y x W⟩
  obtain ⟨LE, hLE⟩ : ∃ E, lendE l x = E := ⟨_, rfl⟩
  obtain ⟨LL, hLL⟩ : ∃ L, lendL l x = L := ⟨_, rfl⟩
  obtain ⟨MB, hMB⟩ : ∃ M, mayB l x = M := ⟨_, rfl⟩
  rw [hLE, hLL] at H9 H4 H00 ⊢
  rw [hMB] at HMY H9 H4 H00
  obtain ⟨xp, xt, xo, xd, xb⟩ := x
  simp only at HO hxb HMR HMN HOV
  subst hxb
  have hb1 : Below w.heap.size w (w.alloc (.cells #[.string xp, .string xt, .int .i64 xo, .int .i64 xd, .int .i64 0] 26)) := by repeat (first | exact Below.refl _ _ | refine Below.alloc ?_ (by simp <;> omega) _ | refine bDrewN ?_ _ | refine Below.drew ?_)
  have hat : LAt (w.alloc (.cells #[.string xp, .string xt, .int .i64 xo, .int .i64 xd, .int .i64 0] 26)) w.heap.size 0 ⟨xp, xt, xo, xd, 0⟩ := ⟨by go_simp, by go_simp, by go_simp, by go_simp, by go_simp⟩
  have HB1 := Kp.mk hb1
  have HAT := Kp.mk hat
  clear hi hm hN hx h1 h0 hLE hLL hMB hb1 hat
  go_enter Try.func31, Try.ntmps31
  go_wp2_with fail
  refine (HV.out _ HB1.out).mono ?_
  rintro en w1 ⟨rfl, hb⟩
  have HB2 := Kp.mk (HB1.out.trans (hb.mono HB1.out.size))
  have HA2 := Kp.mk (HAT.out.on hb)
  obtain ⟨d0, d1, d2, d3, d4⟩ := HA2.out
  simp only [Nat.zero_add] at d0 d1 d2 d3 d4
  clear hb
  go_wp2_with fail
  refine (HO.out _).mono ?_
  rintro en w2 ⟨rfl, hb⟩
  have HB3 := Kp.mk (HB2.out.trans (hb.mono HB2.out.size))
  have HA3 := Kp.mk (HA2.out.on hb)
  clear d0 d1 d2 d3 d4
  obtain ⟨d0, d1, d2, d3, d4⟩ := HA3.out
  simp only [Nat.zero_add] at d0 d1 d2 d3 d4
  clear hb
  go_wp2
  clear d0 d1 d2 d3 d4
  obtain ⟨Y, hY⟩ : ∃ Y, w.heap.size = Y := ⟨_, rfl⟩
  have HY := Kp.mk hY
  rw [hY] at HB3 HA3
  simp only [hY]
  clear hY
  go_loopw [23] (fun i wr => ∃ k : Nat, k ≤ N ∧ i = .int .i64 k ∧ Kp (rmayB (l.take k) ⟨xp, xt, xo, xd, 0⟩ = true) ∧ Kp (Below Y w wr) ∧ Kp (LAt wr Y 0 ⟨xp, xt, xo, xd, 0⟩)) (fun i _ => N - (intOf i).toNat)
  case atStart => exact ⟨0, Nat.zero_le _, rfl, ⟨rfl⟩, HB3, HA3⟩
  case round =>
    obtain ⟨k, hk, rfl, HR, HB, HA⟩ := hrel
    by_cases hlt : k < N
    · obtain ⟨y, hy⟩ : ∃ y, l[k]? = some y := ⟨_, List.getElem?_eq_getElem (by rw [HN.out]; exact hlt)⟩
      obtain ⟨b, o, hg, hat, -⟩ := HS.out k y hy
      subst hg
      obtain ⟨d0, d1, d2, d3, d4⟩ := hat.on (HY.out ▸ HB.out)
      have o1 : (k : Int) < (N : Int) := by omega
      have o4 : k ≤ 1000 := by have := HM.out; omega
      have hmr := HMR.out k y hy
      rw [HR.out, Bool.true_and] at hmr
      have HMN2 := Kp.mk (HMN.out k y hy)
      have HOY := Kp.mk (HOV.out y)
      obtain ⟨R, hR⟩ : ∃ R, ovB y ⟨xp, xt, xo, xd, 0⟩ = R := ⟨_, rfl⟩
      obtain ⟨P, hP⟩ : ∃ P, decide (xo < y.out) = P := ⟨_, rfl⟩
      rw [hR, hP] at hmr HMN2
      rw [hR] at HOY
      have HMR2 := Kp.mk hmr
      obtain ⟨yp, yt, yo, yd, yb⟩ := y
      simp only at d0 d1 d2 d3 d4 hP HOY
      have i1 : decide (xo < yo) = P := hP
      have hzl : Y < wr.heap.size := HA.out.lt
      have hba : Below wr.heap.size wr (wr.alloc (.cells #[.string yp, .string yt, .int .i64 yo, .int .i64 yd, .int .i64 yb] 26)) := by repeat (first | exact Below.refl _ _ | refine Below.alloc ?_ (by simp <;> omega) _ | refine bDrewN ?_ _ | refine Below.drew ?_)
      obtain ⟨e0, e1, e2, e3, e4⟩ := HA.out.on hba
      simp only [Nat.zero_add] at e0 e1 e2 e3 e4
      have HBA : Kp (Below Y w (wr.alloc (.cells #[.string yp, .string yt, .int .i64 yo, .int .i64 yd, .int .i64 yb] 26))) := ⟨HB.out.trans (hba.mono (Nat.le_of_lt hzl))⟩
      have HAA := Kp.mk (HA.out.on hba)
      clear hy hat hR hmr hba
      cases P with
      | true =>
        have HF := Kp.mk (HMN2.out rfl)
        have H92 := Kp.mk (H9.out (HMY.out.trans HF.out))
        go_wp2
        go_ret2
        rw [H92.out.1, H92.out.2]
        exact ⟨_, rfl, ⟨none, 0, rfl, Nat.le_refl _, fun i x hx => by simp at hx⟩, HY.out ▸ HBA.out⟩
      | false =>
        go_wp2_with fail
        refine (HOY.out _).mono ?_
        rintro en w3 ⟨rfl, hb⟩
        have HB4 : Kp (Below Y w w3) := ⟨HBA.out.trans (hb.mono (HY.out ▸ HBA.out.size))⟩
        have HA4 := Kp.mk (HAA.out.on hb)
        clear hb
        cases R with
        | true =>
          have HF := Kp.mk (HMN2.out rfl)
          have H92 := Kp.mk (H9.out (HMY.out.trans HF.out))
          go_wp2
          go_ret2
          rw [H92.out.1, H92.out.2]
          exact ⟨_, rfl, ⟨none, 0, rfl, Nat.le_refl _, fun i x hx => by simp at hx⟩, HY.out ▸ HB4.out⟩
        | false =>
          have HR2 : Kp (rmayB (l.take (k + 1)) ⟨xp, xt, xo, xd, 0⟩ = true) := ⟨HMR2.out⟩
          go_wp2
          go_roundw
          case rel => exact ⟨k + 1, by omega, by go_num, HR2, HB4, HA4⟩
          case measure => simp [intOf]; omega
    · have hr := HR.out
      rw [List.take_of_length_le (by rw [HN.out]; omega)] at hr
      have HMB : Kp (MB = true) := ⟨HMY.out.trans hr⟩
      have o1 : ¬ (k : Int) < (N : Int) := by omega
      by_cases h200 : N = 200
      · subst h200
        have H42 := Kp.mk (H4.out HMB.out HN.out)
        clear hr
        go_wp2
        go_ret2
        rw [H42.out.1, H42.out.2]
        exact ⟨_, rfl, ⟨none, 0, rfl, Nat.le_refl _, fun i x hx => by simp at hx⟩, HY.out ▸ HB.out⟩
      · have i2 : ((N : Int) == 200) = false := by simp; omega
        have H02 := Kp.mk (H00.out HMB.out (by rw [HN.out]; exact h200))
        clear hr
        obtain ⟨c0, c1, c2, c3, c4⟩ := HA.out
        simp only [Nat.zero_add] at c0 c1 c2 c3 c4
        have hzl : Y < wr.heap.size := HA.out.lt
        have hw0 : w.heap.size ≤ wr.heap.size := by have := HB.out.size; exact this
        have hm := HM.out
        have hDl : ∀ V : World, Below wr.heap.size wr V → LS V (.slice g l.length c) l := fun V hV => (HLV.out.below (HY.out ▸ HB.out)).below hV
        have hbD : ∀ V : World, Below wr.heap.size wr V → Below Y w V := fun V hV => HB.out.trans (hV.mono (Nat.le_of_lt hzl))
        obtain ⟨A0, hA0⟩ : ∃ A, (wr.alloc (.cells #[] 26)).drew = A := ⟨_, rfl⟩
        have bA : Below wr.heap.size wr A0 := by rw [← hA0]; exact Below.drew ((Below.refl _ _).alloc (Nat.le_refl _) _)
        have zA : A0.heap.size = wr.heap.size + 1 := by rw [← hA0]; simp
        have oA : OwnL A0 Y (.slice (some ⟨wr.heap.size, 0, none⟩) 0 0) [] := by rw [← hA0]; exact (OwnL.fresh wr Y (Nat.le_of_lt hzl)).on (Below.drew (Below.refl _ _))
        obtain ⟨ga, ca, A1, ra, ba1, sa1, za1, na⟩ := copy_one (w := w) (x := ⟨xp, xt, xo, xd, 0⟩) (hbD A0 bA) oA (hDl A0 bA) (by rw [HN.out]; exact hm) (by omega)
        have hA1 : LAt A1 Y 0 ⟨xp, xt, xo, xd, 0⟩ := (HA.out.on bA).same (sa1 Y (by omega) (by omega))
        obtain ⟨g2, c2a, A3, ra2, oa3, ba3⟩ := na A1.heap.size (A1.alloc (.cells #[.string xp, .string xt, .int .i64 xo, .int .i64 xd, .int .i64 0] 26)) (.inr ⟨_, rfl⟩) (lat_new A1 ⟨xp, xt, xo, xd, 0⟩ _)
        obtain ⟨a0, a1, a2, a3, a4⟩ := hA1
        obtain ⟨B0, hB0⟩ : ∃ B, ((wr.alloc (.cells #[] 26)).alloc (.cells #[.string xp, .string xt, .int .i64 xo, .int .i64 xd, .int .i64 0] 26)).drew = B := ⟨_, rfl⟩
        have bB0 : Below (wr.alloc (.cells #[] 26)).heap.size (wr.alloc (.cells #[] 26)) B0 := by rw [← hB0]; exact Below.drew ((Below.refl _ _).alloc (Nat.le_refl _) _)
        have bB : Below wr.heap.size wr B0 := by rw [← hB0]; exact Below.drew (((Below.refl _ _).alloc (Nat.le_refl _) _).alloc (by simp) _)
        have zB : B0.heap.size = wr.heap.size + 2 := by rw [← hB0]; simp
        have xB : LAt B0 (wr.heap.size + 1) 0 ⟨xp, xt, xo, xd, 0⟩ := by
          rw [← hB0]
          have := (lat_new (wr.alloc (.cells #[] 26)) ⟨xp, xt, xo, xd, 0⟩ 26).on (Below.drew (Below.refl _ _))
          rwa [World.size_alloc] at this
        have oB : OwnL B0 Y (.slice (some ⟨wr.heap.size, 0, none⟩) 0 0) [] := (OwnL.fresh wr Y (Nat.le_of_lt hzl)).on bB0
        obtain ⟨gb, cb, B1, rb, bb1, sb1, zb1, nb⟩ := copy_one (w := w) (x := ⟨xp, xt, xo, xd, 0⟩) (hbD B0 bB) oB (hDl B0 bB) (by rw [HN.out]; exact hm) (by omega)
        obtain ⟨g3, c3b, B3, rb2, ob3, bb3⟩ := nb (wr.heap.size + 1) B1 (.inl rfl) (xB.same (sb1 _ (by omega) (by omega)))
        obtain ⟨C0, hC0⟩ : ∃ C, ((wr.alloc (.cells #[.string xp, .string xt, .int .i64 xo, .int .i64 xd, .int .i64 0] 26)).alloc (.cells #[] 26)).drew = C := ⟨_, rfl⟩
        have bC0 : Below (wr.alloc (.cells #[.string xp, .string xt, .int .i64 xo, .int .i64 xd, .int .i64 0] 26)).heap.size (wr.alloc (.cells #[.string xp, .string xt, .int .i64 xo, .int .i64 xd, .int .i64 0] 26)) C0 := by rw [← hC0]; exact Below.drew ((Below.refl _ _).alloc (Nat.le_refl _) _)
        have bC : Below wr.heap.size wr C0 := by rw [← hC0]; exact Below.drew (((Below.refl _ _).alloc (Nat.le_refl _) _).alloc (by simp) _)
        have zC : C0.heap.size = wr.heap.size + 2 := by rw [← hC0]; simp
        have oC : OwnL C0 Y (.slice (some ⟨wr.heap.size + 1, 0, none⟩) 0 0) [] := by
          rw [← hC0]
          have := (OwnL.fresh (wr.alloc (.cells #[.string xp, .string xt, .int .i64 xo, .int .i64 xd, .int .i64 0] 26)) Y (by simp; omega)).on (Below.drew (Below.refl _ _))
          rwa [World.size_alloc] at this
        obtain ⟨gc, cc, C1, rc, bc1, sc1, zc1, nc⟩ := copy_one (w := w) (x := ⟨xp, xt, xo, xd, 0⟩) (hbD C0 bC) oC (hDl C0 bC) (by rw [HN.out]; exact hm) (by omega)
        obtain ⟨g4, c4c, C3, rc2, oc3, bc3⟩ := nc wr.heap.size C1 (.inl rfl) (((lat_new wr ⟨xp, xt, xo, xd, 0⟩ 26).on bC0).same (sc1 _ (by omega) (by omega)))
        have hwfs : ∀ z ∈ l ++ [(⟨xp, xt, xo, xd, 0⟩ : Loan)], z.wf := fun z hz => by
          rcases List.mem_append.1 hz with hz | hz
          · exact HWF.out.1 z hz
          · rw [List.mem_singleton.1 hz]; exact HWF.out.2
        have HFA := Kp.mk (And.intro (oa3.ls hwfs) (HY.out ▸ ba3))
        have HFB := Kp.mk (And.intro (ob3.ls hwfs) (HY.out ▸ bb3))
        have HFC := Kp.mk (And.intro (oc3.ls hwfs) (HY.out ▸ bc3))
        rw [HN.out] at ra ra2 rb rb2 rc rc2 HFA HFB HFC
        rw [← hA0] at ra
        rw [← hB0] at rb
        rw [← hC0] at rc
        clear hA0 bA zA oA ba1 sa1 za1 na oa3 ba3 hB0 bB0 bB zB xB oB bb1 sb1 zb1 nb ob3 bb3 hC0 bC0 bC oC zC bc1 sc1 zc1 nc oc3 bc3 hwfs hDl hbD hm hw0
        go_wp2
        go_region_with (fail)
        all_goals
          go_wp2
          go_ret2
          rw [H02.out.1, H02.out.2]
          first
            | exact ⟨_, rfl, HFA.out.1, HFA.out.2⟩
            | exact ⟨_, rfl, HFB.out.1, HFB.out.2⟩
            | exact ⟨_, rfl, HFC.out.1, HFC.out.2⟩
theorem rLend_any (v : Value) (l : List Loan) (x : Loan) (w : World) (hv : LS w v l) (hm : l.length ≤ 1000) (hx : x.wf) : Calls Try.prog 31 #[v, .agg #[.string x.p, .string x.t, .int .i64 x.out, .int .i64 x.due, .int .i64 x.back]] w (LsPost w (lendL l x) (lendE l x)) := by
  cases h : lndB l x with
  | true => exact rLend_go v l x w hv hm hx h
  | false =>
    obtain ⟨e1, e2⟩ := lend_1 h
    rw [e1, e2]
    exact (rLend_one v l x w hv hm hx h).mono fun e w' ⟨h1, h2⟩ => ⟨_, h1, ⟨none, 0, rfl, Nat.le_refl _, fun i x hx => by simp at hx⟩, h2⟩
end Go.Proofs.Ytaofjomocefdkaa.Ln
