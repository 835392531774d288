/-
  THE WALK of the law MarkLabels, at any two labels and any text.
-/
import Derived.Test.YtjdcdakedoljbaaDoorMkRefD
import Derived.Test.YtjdcdakedoljbaaDoorMkSmall
import Derived.Test.YtjdcdakedoljbaaDoorMkRow
namespace Go.Proofs.YtjdcdakedoljbaaDoor.Mk
open Go Go.RowKit Go.Maps

set_option maxRecDepth 100000 in
set_option maxHeartbeats 4000000 in
theorem labels_law (va vb : Value) (s : ByteArray) (A L : List FB) (w : World) (ha : RL w va A) (hb : RL w vb L) (hsA : Fits A) (hsL : Fits L) (hnA : A.length ≤ maxLen) (hnL : L.length ≤ maxLen) (hss : s.size ≤ maxLen) (ht : Tab w) :
    Calls Tryd.prog 5 #[va, vb, .string s] w (fun e w' => e = .returned (.bool true) ∧ Below w.heap.size w w') := by
  have HT := Lib.hid ht
  have hs1 : (s.size : Int) ≤ 9223372036854775807 := by unfold maxLen at hss; omega
  have H0 : Kq _ := ⟨small_two va vb A L w ha hb hnA hnL⟩
  have W1 : Kq (∀ W, Calls Tryd.prog 21 #[.string s] W fun e w' => e = .returned (.bool (wordL s.data.toList)) ∧ Below W.heap.size W w') := ⟨fun W => Word_any s W hss⟩
  have W2 : Kq (∀ W, _) := ⟨fun W => refWord_below s W hss⟩
  have V1 : Kq (∀ W, Below w.heap.size w W → _) := ⟨fun W hW => ValidLabel_any va A W (ha.below hW) hsA⟩
  have V2 : Kq (∀ W, Below w.heap.size w W → _) := ⟨fun W hW => refValid_any va A W (ha.below hW) hsA hnA⟩
  have D1 : Kq (∀ W, Below w.heap.size w W → _) := ⟨fun W hW => Has_sum va vb A L W (ha.below hW) (hb.below hW) hsA hsL⟩
  have D2 : Kq (∀ W, Below w.heap.size w W → _) := ⟨fun W hW => refHas_any va vb A L W (ha.below hW) (hb.below hW) hsA hsL hnA hnL⟩
  have G1 : Kq (∀ W, Below w.heap.size w W → Calls Tryd.prog 27 #[va, vb] W fun e w' => e = .returned (.bool (agreeB A L)) ∧ Below W.heap.size W w') := ⟨fun W hW => Agree_any va vb A L W (ha.below hW) (hb.below hW) hsA hsL⟩
  have G2 : Kq (∀ W, Below w.heap.size w W → _) := ⟨fun W hW => refAgree_any va vb A L W (ha.below hW) (hb.below hW) hsA hsL hnA hnL⟩
  have J1 : Kq (∀ W, Below w.heap.size w W → _) := ⟨fun W hW => Joined_sum va vb A L W (ha.below hW) (hb.below hW) hsA hsL⟩
  have J2 : Kq (∀ W, Below w.heap.size w W → _) := ⟨fun W hW => refJoined_any va vb A L W (ha.below hW) (hb.below hW) hsA hsL hnA hnL⟩
  have B1 : Kq (∀ W, Below w.heap.size w W → _) := ⟨fun W hW => Both_sum va vb A L W (ha.below hW) (hb.below hW) hsA hsL⟩
  have B2 : Kq (∀ W, Below w.heap.size w W → _) := ⟨fun W hW => refBoth_any va vb A L W (ha.below hW) (hb.below hW) hsA hsL hnA hnL⟩
  have hJl := joinR_len A L
  have hMl := bothR_len A L
  obtain ⟨wd, hwd⟩ : ∃ x, wordL s.data.toList = x := ⟨_, rfl⟩
  obtain ⟨vl, hvl⟩ : ∃ x, validL A = x := ⟨_, rfl⟩
  obtain ⟨hs, hhs⟩ : ∃ x, hasB A L = x := ⟨_, rfl⟩
  obtain ⟨ag, hag⟩ : ∃ x, agreeB A L = x := ⟨_, rfl⟩
  obtain ⟨E, hE⟩ : ∃ E, joinE A L = E := ⟨_, rfl⟩
  obtain ⟨J, hJ⟩ : ∃ J, joinR A L = J := ⟨_, rfl⟩
  obtain ⟨F, hF⟩ : ∃ F, bothE A L = F := ⟨_, rfl⟩
  obtain ⟨M, hM⟩ : ∃ M, bothR A L = M := ⟨_, rfl⟩
  rw [hwd] at W1 W2
  rw [hvl] at V1 V2
  rw [hhs] at D1 D2
  rw [hag] at G1 G2
  rw [hE, hJ] at J1 J2
  rw [hF, hM] at B1 B2
  rw [hJ] at hJl
  rw [hM] at hMl
  have SJ : Kq (∀ W v u, RL W v J → RL W u J → _) := ⟨fun W v u h1 h2 => sameL_yes v u J W (by omega) h1 h2⟩
  have SM : Kq (∀ W v u, RL W v M → RL W u M → _) := ⟨fun W v u h1 h2 => sameL_yes v u M W (by omega) h1 h2⟩
  have tE : (E == E) = true := by simp
  have tF : (F == F) = true := by simp
  have tw : (wd != wd) = false := by simp
  have tv : (vl != vl) = false := by simp
  have th : (hs != hs) = false := by simp
  have tg : (ag != ag) = false := by simp
  unfold LabE at J1 J2 B1 B2
  clear hwd hvl hhs hag hE hJ hF hM hJl hMl hsA hsL ht hnA hnL hss
  obtain ⟨ga, na, rfl, _⟩ := ha
  obtain ⟨gb, nb, rfl, _⟩ := hb
  go_enter Tryd.func5, Tryd.ntmps5
  go_wp2_with fail
  refine H0.out.mono ?_
  rintro e w1 ⟨⟨sm, rfl⟩, hb1⟩
  have HB1 : Kq (Below w.heap.size w w1) := ⟨hb1⟩
  clear hb1 H0
  cases sm with
  | false =>
    go_wp2_with fail
    refine Calls.mono (awake_any _ (HT.out.below HB1.out)) ?_
    rintro e w2 ⟨rfl, hb2⟩
    have HB2 : Kq (Below w.heap.size w w2) := ⟨HB1.out.trans (hb2.mono HB1.out.size)⟩
    clear hb2
    go_wp2
    go_ret
    exact ⟨rfl, HB2.out⟩
  | true =>
    by_cases hl : (1000 : Int) < (s.size : Int)
    · go_wp2_with fail
      refine Calls.mono (awake_any _ (HT.out.below HB1.out)) ?_
      rintro e w2 ⟨rfl, hb2⟩
      have HB2 : Kq (Below w.heap.size w w2) := ⟨HB1.out.trans (hb2.mono HB1.out.size)⟩
      clear hb2
      go_wp2
      go_ret
      exact ⟨rfl, HB2.out⟩
    · go_wp2_with fail
      refine Calls.mono (W1.out w1) ?_
      rintro e w2 ⟨rfl, hb2⟩
      have HB2 : Kq (Below w.heap.size w w2) := ⟨HB1.out.trans (hb2.mono HB1.out.size)⟩
      clear hb2
      go_wp2_with fail
      refine Calls.mono (W2.out w2) ?_
      rintro e w3 ⟨rfl, hb3⟩
      have HB3 : Kq (Below w.heap.size w w3) := ⟨HB2.out.trans (hb3.mono HB2.out.size)⟩
      clear hb3
      go_wp2_with fail
      refine Calls.mono (V1.out w3 HB3.out) ?_
      rintro e w4 ⟨rfl, hb4⟩
      have HB4 : Kq (Below w.heap.size w w4) := ⟨HB3.out.trans (hb4.mono HB3.out.size)⟩
      clear hb4
      go_wp2_with fail
      refine Calls.mono (V2.out w4 HB4.out) ?_
      rintro e w5 ⟨rfl, hb5⟩
      have HB5 : Kq (Below w.heap.size w w5) := ⟨HB4.out.trans (hb5.mono HB4.out.size)⟩
      clear hb5
      go_wp2_with fail
      refine Calls.mono (D1.out w5 HB5.out) ?_
      rintro e w6 ⟨rfl, hb6⟩
      have HB6 : Kq (Below w.heap.size w w6) := ⟨HB5.out.trans (hb6.mono HB5.out.size)⟩
      clear hb6
      go_wp2_with fail
      refine Calls.mono (D2.out w6 HB6.out) ?_
      rintro e w7 ⟨rfl, hb7⟩
      have HB7 : Kq (Below w.heap.size w w7) := ⟨HB6.out.trans (hb7.mono HB6.out.size)⟩
      clear hb7
      go_wp2_with fail
      refine Calls.mono (G1.out w7 HB7.out) ?_
      rintro e w8 ⟨rfl, hb8⟩
      have HB8 : Kq (Below w.heap.size w w8) := ⟨HB7.out.trans (hb8.mono HB7.out.size)⟩
      clear hb8
      go_wp2_with fail
      refine Calls.mono (G2.out w8 HB8.out) ?_
      rintro e w9 ⟨rfl, hb9⟩
      have HB9 : Kq (Below w.heap.size w w9) := ⟨HB8.out.trans (hb9.mono HB8.out.size)⟩
      clear hb9
      go_wp2_with fail
      refine Calls.mono (J1.out w9 HB9.out) ?_
      rintro e w10 ⟨⟨x, rfl, hx⟩, hb10⟩
      have HB10 : Kq (Below w.heap.size w w10) := ⟨HB9.out.trans (hb10.mono HB9.out.size)⟩
      have Kx10 : Kq (RL w10 x J) := ⟨hx⟩
      clear hb10 hx
      go_wp2_with fail
      refine Calls.mono (J2.out w10 HB10.out) ?_
      rintro e w11 ⟨⟨y, rfl, hy⟩, hb11⟩
      have HB11 : Kq (Below w.heap.size w w11) := ⟨HB10.out.trans (hb11.mono HB10.out.size)⟩
      have Kx11 : Kq (RL w11 x J) := ⟨Kx10.out.below hb11⟩
      have Ky11 : Kq (RL w11 y J) := ⟨hy⟩
      clear hb11 hy
      go_wp2_with fail
      refine Calls.mono (B1.out w11 HB11.out) ?_
      rintro e w12 ⟨⟨u, rfl, hu⟩, hb12⟩
      have HB12 : Kq (Below w.heap.size w w12) := ⟨HB11.out.trans (hb12.mono HB11.out.size)⟩
      have Kx12 : Kq (RL w12 x J) := ⟨Kx11.out.below hb12⟩
      have Ky12 : Kq (RL w12 y J) := ⟨Ky11.out.below hb12⟩
      have Ku12 : Kq (RL w12 u M) := ⟨hu⟩
      clear hb12 hu
      go_wp2_with fail
      refine Calls.mono (B2.out w12 HB12.out) ?_
      rintro e w13 ⟨⟨v, rfl, hv⟩, hb13⟩
      have HB13 : Kq (Below w.heap.size w w13) := ⟨HB12.out.trans (hb13.mono HB12.out.size)⟩
      have Kx13 : Kq (RL w13 x J) := ⟨Kx12.out.below hb13⟩
      have Ky13 : Kq (RL w13 y J) := ⟨Ky12.out.below hb13⟩
      have Ku13 : Kq (RL w13 u M) := ⟨Ku12.out.below hb13⟩
      have Kv13 : Kq (RL w13 v M) := ⟨hv⟩
      clear hb13 hv
      go_wp2_with fail
      refine Calls.mono (SJ.out w13 x y Kx13.out Ky13.out) ?_
      rintro e w14 ⟨rfl, hb14⟩
      have HB14 : Kq (Below w.heap.size w w14) := ⟨HB13.out.trans (hb14.mono HB13.out.size)⟩
      have Kx14 : Kq (RL w14 x J) := ⟨Kx13.out.below hb14⟩
      have Ky14 : Kq (RL w14 y J) := ⟨Ky13.out.below hb14⟩
      have Ku14 : Kq (RL w14 u M) := ⟨Ku13.out.below hb14⟩
      have Kv14 : Kq (RL w14 v M) := ⟨Kv13.out.below hb14⟩
      clear hb14
      go_wp2_with fail
      refine Calls.mono (SM.out w14 u v Ku14.out Kv14.out) ?_
      rintro e w15 ⟨rfl, hb15⟩
      have HB15 : Kq (Below w.heap.size w w15) := ⟨HB14.out.trans (hb15.mono HB14.out.size)⟩
      have Kx15 : Kq (RL w15 x J) := ⟨Kx14.out.below hb15⟩
      have Ky15 : Kq (RL w15 y J) := ⟨Ky14.out.below hb15⟩
      have Ku15 : Kq (RL w15 u M) := ⟨Ku14.out.below hb15⟩
      have Kv15 : Kq (RL w15 v M) := ⟨Kv14.out.below hb15⟩
      clear hb15
      go_wp2_with fail
      refine Calls.mono (awake_any _ (HT.out.below HB15.out)) ?_
      rintro e w16 ⟨rfl, hb16⟩
      have HB16 : Kq (Below w.heap.size w w16) := ⟨HB15.out.trans (hb16.mono HB15.out.size)⟩
      clear hb16
      go_wp2
      go_ret
      exact ⟨rfl, HB16.out⟩
end Go.Proofs.YtjdcdakedoljbaaDoor.Mk
