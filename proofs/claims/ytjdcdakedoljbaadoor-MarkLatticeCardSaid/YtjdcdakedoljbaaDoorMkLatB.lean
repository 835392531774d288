/-
  THE WALK of the law MarkLattice, at any three labels.
-/
import Derived.Test.YtjdcdakedoljbaaDoorMkSmall
import Derived.Test.YtjdcdakedoljbaaDoorMkRow
namespace Go.Proofs.YtjdcdakedoljbaaDoor.Mk
open Go Go.RowKit Go.Maps

/-- What a call of Has answers. -/
def HasC (va vb : Value) (b : Bool) (W : World) : Prop := Calls Tryd.prog 25 #[va, vb] W fun e w' => e = .returned (.bool b) ∧ Below W.heap.size W w'
set_option maxRecDepth 100000 in
set_option maxHeartbeats 4000000 in
theorem lattice_law (va vb vc : Value) (A L C : List FB) (w : World) (ha : RL w va A) (hb : RL w vb L) (hc : RL w vc C) (hsA : Fits A) (hsL : Fits L) (hsC : Fits C) (nA : A.length ≤ maxLen) (nL : L.length ≤ maxLen) (nC : C.length ≤ maxLen) (ht : Tab w) :
    Calls Tryd.prog 6 #[va, vb, vc] w (fun e w' => e = .returned (.bool true) ∧ Below w.heap.size w w') := by
  have HT := Lib.hid ht
  have H0 : Kq _ := ⟨small_three va vb vc A L C w ha hb hc nA nL nC⟩
  obtain ⟨E, hE⟩ : ∃ E, joinE A L = E := ⟨_, rfl⟩
  obtain ⟨J, hJ⟩ : ∃ J, joinR A L = J := ⟨_, rfl⟩
  obtain ⟨F, hF⟩ : ∃ F, bothE A L = F := ⟨_, rfl⟩
  obtain ⟨M, hM⟩ : ∃ M, bothR A L = M := ⟨_, rfl⟩
  have J1 : Kq (∀ W, Below w.heap.size w W → _) := ⟨fun W hW => Joined_sum va vb A L W (ha.below hW) (hb.below hW) hsA hsL⟩
  have J2 : Kq (∀ W, Below w.heap.size w W → _) := ⟨fun W hW => Joined_sum vb va L A W (hb.below hW) (ha.below hW) hsL hsA⟩
  have B1 : Kq (∀ W, Below w.heap.size w W → _) := ⟨fun W hW => Both_sum va vb A L W (ha.below hW) (hb.below hW) hsA hsL⟩
  have B2 : Kq (∀ W, Below w.heap.size w W → _) := ⟨fun W hW => Both_sum vb va L A W (hb.below hW) (ha.below hW) hsL hsA⟩
  rw [hE, hJ] at J1
  rw [← joinE_comm hsA hsL, ← joinR_comm hsA hsL, hE, hJ] at J2
  rw [hF, hM] at B1
  rw [← bothE_comm, ← bothR_comm, hF, hM] at B2
  have hJs : Fits J := by rw [← hJ]; exact joinR_fits hsA hsL
  have hMs : Fits M := by rw [← hM]; exact bothR_fits hsL
  have hJl : J.length ≤ 1000 := by have := joinR_len A L; rw [hJ] at this; omega
  have hMl : M.length ≤ 1000 := by have := bothR_len A L; rw [hM] at this; omega
  have SJ : Kq (∀ W v u, RL W v J → RL W u J → _) := ⟨fun W v u h1 h2 => sameL_yes v u J W hJl h1 h2⟩
  have SM : Kq (∀ W v u, RL W v M → RL W u M → _) := ⟨fun W v u h1 h2 => sameL_yes v u M W hMl h1 h2⟩
  have VC : Kq (∀ W, Below w.heap.size w W → _) := ⟨fun W hW => ValidLabel_any vc C W (hc.below hW) hsC⟩
  have PJ : Kq (E = 0 → hasB J A = true ∧ hasB J L = true ∧ (validL C = true → hasB C J = (hasB C A && hasB C L))) := ⟨fun h => by
    have h1 := latJoin hsA hsL (hE.trans h) C
    rw [← hJ]
    exact ⟨h1.left, h1.right, h1.all⟩⟩
  have PM : Kq (F = 0 → hasB A M = true ∧ hasB L M = true ∧ (validL C = true → hasB M C = (hasB A C && hasB L C))) := ⟨fun h => by
    have h1 := latBoth (hF.trans h) C
    rw [← hM]
    exact ⟨h1.left, h1.right, h1.all⟩⟩
  have HJA : Kq (∀ W v, Below w.heap.size w W → RL W v J → HasC v va (hasB J A) W) := ⟨fun W v hW hv => Has_sum v va J A W hv (ha.below hW) hJs hsA⟩
  have HJB : Kq (∀ W v, Below w.heap.size w W → RL W v J → HasC v vb (hasB J L) W) := ⟨fun W v hW hv => Has_sum v vb J L W hv (hb.below hW) hJs hsL⟩
  have HCJ : Kq (∀ W v, Below w.heap.size w W → RL W v J → HasC vc v (hasB C J) W) := ⟨fun W v hW hv => Has_sum vc v C J W (hc.below hW) hv hsC hJs⟩
  have HCA : Kq (∀ W, Below w.heap.size w W → HasC vc va (hasB C A) W) := ⟨fun W hW => Has_sum vc va C A W (hc.below hW) (ha.below hW) hsC hsA⟩
  have HCB : Kq (∀ W, Below w.heap.size w W → HasC vc vb (hasB C L) W) := ⟨fun W hW => Has_sum vc vb C L W (hc.below hW) (hb.below hW) hsC hsL⟩
  have HAM : Kq (∀ W v, Below w.heap.size w W → RL W v M → HasC va v (hasB A M) W) := ⟨fun W v hW hv => Has_sum va v A M W (ha.below hW) hv hsA hMs⟩
  have HBM : Kq (∀ W v, Below w.heap.size w W → RL W v M → HasC vb v (hasB L M) W) := ⟨fun W v hW hv => Has_sum vb v L M W (hb.below hW) hv hsL hMs⟩
  have HMC : Kq (∀ W v, Below w.heap.size w W → RL W v M → HasC v vc (hasB M C) W) := ⟨fun W v hW hv => Has_sum v vc M C W hv (hc.below hW) hMs hsC⟩
  have HAC : Kq (∀ W, Below w.heap.size w W → HasC va vc (hasB A C) W) := ⟨fun W hW => Has_sum va vc A C W (ha.below hW) (hc.below hW) hsA hsC⟩
  have HBC : Kq (∀ W, Below w.heap.size w W → HasC vb vc (hasB L C) W) := ⟨fun W hW => Has_sum vb vc L C W (hb.below hW) (hc.below hW) hsL hsC⟩
  obtain ⟨q, hq⟩ : ∃ q, validL C = q := ⟨_, rfl⟩
  obtain ⟨cj, hcj⟩ : ∃ x, hasB C J = x := ⟨_, rfl⟩
  obtain ⟨ca, hca⟩ : ∃ x, hasB C A = x := ⟨_, rfl⟩
  obtain ⟨cb, hcb⟩ : ∃ x, hasB C L = x := ⟨_, rfl⟩
  obtain ⟨mc, hmc⟩ : ∃ x, hasB M C = x := ⟨_, rfl⟩
  obtain ⟨ac, hac⟩ : ∃ x, hasB A C = x := ⟨_, rfl⟩
  obtain ⟨bc, hbc⟩ : ∃ x, hasB L C = x := ⟨_, rfl⟩
  rw [hq] at VC PJ PM
  rw [hcj] at PJ HCJ
  rw [hca] at PJ HCA
  rw [hcb] at PJ HCB
  rw [hmc] at PM HMC
  rw [hac] at PM HAC
  rw [hbc] at PM HBC
  clear nA nL nC hq hcj hca hcb hmc hac hbc hE hJ hF hM hJl hMl hJs hMs hsA hsL hsC ht
  have tE : (E != E) = false := by simp
  have tF : (F != F) = false := by simp
  unfold LabE at J1 J2 B1 B2
  obtain ⟨ga, na, rfl, _⟩ := ha
  obtain ⟨gb, nb, rfl, _⟩ := hb
  obtain ⟨gc, nc, rfl, _⟩ := hc
  go_enter Tryd.func6, Tryd.ntmps6
  go_wp2_with fail
  refine H0.out.mono ?_
  rintro e w1 ⟨⟨sm, rfl⟩, hb1⟩
  have HB1 : Kq (Below w.heap.size w w1) := ⟨hb1⟩
  clear hb1 H0
  cases sm with
  | false =>
    go_wp2_with fail
    refine Calls.mono (awake_any _ (HT.out.below HB1.out)) ?_
    rintro e w2 ⟨rfl, hb2⟩
    have HB2 : Kq (Below w.heap.size w w2) := ⟨HB1.out.trans (hb2.mono HB1.out.size)⟩
    clear hb2
    go_wp2
    go_ret
    exact ⟨rfl, HB2.out⟩
  | true =>
    go_wp2_with fail
    refine Calls.mono (J1.out w1 HB1.out) ?_
    rintro e w2 ⟨⟨j, rfl, hj⟩, hb2⟩
    have HB2 : Kq (Below w.heap.size w w2) := ⟨HB1.out.trans (hb2.mono HB1.out.size)⟩
    have Kj2 : Kq (RL w2 j J) := ⟨hj⟩
    clear hb2 hj
    go_wp2_with fail
    refine Calls.mono (J2.out w2 HB2.out) ?_
    rintro e w3 ⟨⟨k, rfl, hk⟩, hb3⟩
    have HB3 : Kq (Below w.heap.size w w3) := ⟨HB2.out.trans (hb3.mono HB2.out.size)⟩
    have Kj3 : Kq (RL w3 j J) := ⟨Kj2.out.below hb3⟩
    have Kk3 : Kq (RL w3 k J) := ⟨hk⟩
    clear hb3 hk
    go_wp2_with fail
    refine Calls.mono (SJ.out w3 j k Kj3.out Kk3.out) ?_
    rintro e w4 ⟨rfl, hb4⟩
    have HB4 : Kq (Below w.heap.size w w4) := ⟨HB3.out.trans (hb4.mono HB3.out.size)⟩
    have Kj4 : Kq (RL w4 j J) := ⟨Kj3.out.below hb4⟩
    have Kk4 : Kq (RL w4 k J) := ⟨Kk3.out.below hb4⟩
    clear hb4
    by_cases hE : E = 0
    · obtain ⟨p1, p2, p3⟩ := PJ.out hE
      subst hE
      rw [p1] at HJA
      rw [p2] at HJB
      go_wp2_with fail
      refine Calls.mono (HJA.out w4 j HB4.out Kj4.out) ?_
      rintro e w5 ⟨rfl, hb5⟩
      have HB5 : Kq (Below w.heap.size w w5) := ⟨HB4.out.trans (hb5.mono HB4.out.size)⟩
      have Kj5 : Kq (RL w5 j J) := ⟨Kj4.out.below hb5⟩
      clear hb5
      go_wp2_with fail
      refine Calls.mono (HJB.out w5 j HB5.out Kj5.out) ?_
      rintro e w6 ⟨rfl, hb6⟩
      have HB6 : Kq (Below w.heap.size w w6) := ⟨HB5.out.trans (hb6.mono HB5.out.size)⟩
      have Kj6 : Kq (RL w6 j J) := ⟨Kj5.out.below hb6⟩
      clear hb6
      cases q with
      | false =>
        go_wp2_with fail
        refine Calls.mono (VC.out w6 HB6.out) ?_
        rintro e w7 ⟨rfl, hb7⟩
        have HB7 : Kq (Below w.heap.size w w7) := ⟨HB6.out.trans (hb7.mono HB6.out.size)⟩
        have Kj7 : Kq (RL w7 j J) := ⟨Kj6.out.below hb7⟩
        clear hb7
        clear p1 p2 p3
        go_wp2_with fail
        refine Calls.mono (B1.out w7 HB7.out) ?_
        rintro e w8 ⟨⟨m, rfl, hm⟩, hb8⟩
        have HB8 : Kq (Below w.heap.size w w8) := ⟨HB7.out.trans (hb8.mono HB7.out.size)⟩
        have Km8 : Kq (RL w8 m M) := ⟨hm⟩
        clear hb8 hm
        go_wp2_with fail
        refine Calls.mono (B2.out w8 HB8.out) ?_
        rintro e w9 ⟨⟨o, rfl, ho⟩, hb9⟩
        have HB9 : Kq (Below w.heap.size w w9) := ⟨HB8.out.trans (hb9.mono HB8.out.size)⟩
        have Km9 : Kq (RL w9 m M) := ⟨Km8.out.below hb9⟩
        have Ko9 : Kq (RL w9 o M) := ⟨ho⟩
        clear hb9 ho
        go_wp2_with fail
        refine Calls.mono (SM.out w9 m o Km9.out Ko9.out) ?_
        rintro e w10 ⟨rfl, hb10⟩
        have HB10 : Kq (Below w.heap.size w w10) := ⟨HB9.out.trans (hb10.mono HB9.out.size)⟩
        have Km10 : Kq (RL w10 m M) := ⟨Km9.out.below hb10⟩
        have Ko10 : Kq (RL w10 o M) := ⟨Ko9.out.below hb10⟩
        clear hb10
        by_cases hF : F = 0
        · obtain ⟨p1, p2, p3⟩ := PM.out hF
          subst hF
          rw [p1] at HAM
          rw [p2] at HBM
          go_wp2_with fail
          refine Calls.mono (HAM.out w10 m HB10.out Km10.out) ?_
          rintro e w11 ⟨rfl, hb11⟩
          have HB11 : Kq (Below w.heap.size w w11) := ⟨HB10.out.trans (hb11.mono HB10.out.size)⟩
          have Km11 : Kq (RL w11 m M) := ⟨Km10.out.below hb11⟩
          clear hb11
          go_wp2_with fail
          refine Calls.mono (HBM.out w11 m HB11.out Km11.out) ?_
          rintro e w12 ⟨rfl, hb12⟩
          have HB12 : Kq (Below w.heap.size w w12) := ⟨HB11.out.trans (hb12.mono HB11.out.size)⟩
          have Km12 : Kq (RL w12 m M) := ⟨Km11.out.below hb12⟩
          clear hb12
          go_wp2_with fail
          refine Calls.mono (VC.out w12 HB12.out) ?_
          rintro e w13 ⟨rfl, hb13⟩
          have HB13 : Kq (Below w.heap.size w w13) := ⟨HB12.out.trans (hb13.mono HB12.out.size)⟩
          have Km13 : Kq (RL w13 m M) := ⟨Km12.out.below hb13⟩
          clear hb13
          go_wp2_with fail
          refine Calls.mono (awake_any _ (HT.out.below HB13.out)) ?_
          rintro e w14 ⟨rfl, hb14⟩
          have HB14 : Kq (Below w.heap.size w w14) := ⟨HB13.out.trans (hb14.mono HB13.out.size)⟩
          clear hb14
          go_wp2
          go_ret
          exact ⟨rfl, HB14.out⟩
        · have t9 : (F == 0) = false := by simpa using hF
          have t8 : (F != 0) = true := by simpa using hF
          go_wp2_with fail
          refine Calls.mono (awake_any _ (HT.out.below HB10.out)) ?_
          rintro e w11 ⟨rfl, hb11⟩
          have HB11 : Kq (Below w.heap.size w w11) := ⟨HB10.out.trans (hb11.mono HB10.out.size)⟩
          clear hb11
          go_wp2
          go_ret
          exact ⟨rfl, HB11.out⟩
      | true =>
        go_wp2_with fail
        refine Calls.mono (VC.out w6 HB6.out) ?_
        rintro e w7 ⟨rfl, hb7⟩
        have HB7 : Kq (Below w.heap.size w w7) := ⟨HB6.out.trans (hb7.mono HB6.out.size)⟩
        have Kj7 : Kq (RL w7 j J) := ⟨Kj6.out.below hb7⟩
        clear hb7
        have p4 := p3 (by trivial)
        clear p1 p2 p3
        go_wp2_with fail
        refine Calls.mono (HCJ.out w7 j HB7.out Kj7.out) ?_
        rintro e w8 ⟨rfl, hb8⟩
        have HB8 : Kq (Below w.heap.size w w8) := ⟨HB7.out.trans (hb8.mono HB7.out.size)⟩
        have Kj8 : Kq (RL w8 j J) := ⟨Kj7.out.below hb8⟩
        clear hb8
        go_wp2_with fail
        refine Calls.mono (HCA.out w8 HB8.out) ?_
        rintro e w9 ⟨rfl, hb9⟩
        have HB9 : Kq (Below w.heap.size w w9) := ⟨HB8.out.trans (hb9.mono HB8.out.size)⟩
        have Kj9 : Kq (RL w9 j J) := ⟨Kj8.out.below hb9⟩
        clear hb9
        cases ca with
        | false =>
          rw [Bool.false_and] at p4
          subst p4
          go_wp2_with fail
          refine Calls.mono (B1.out w9 HB9.out) ?_
          rintro e w10 ⟨⟨m, rfl, hm⟩, hb10⟩
          have HB10 : Kq (Below w.heap.size w w10) := ⟨HB9.out.trans (hb10.mono HB9.out.size)⟩
          have Km10 : Kq (RL w10 m M) := ⟨hm⟩
          clear hb10 hm
          go_wp2_with fail
          refine Calls.mono (B2.out w10 HB10.out) ?_
          rintro e w11 ⟨⟨o, rfl, ho⟩, hb11⟩
          have HB11 : Kq (Below w.heap.size w w11) := ⟨HB10.out.trans (hb11.mono HB10.out.size)⟩
          have Km11 : Kq (RL w11 m M) := ⟨Km10.out.below hb11⟩
          have Ko11 : Kq (RL w11 o M) := ⟨ho⟩
          clear hb11 ho
          go_wp2_with fail
          refine Calls.mono (SM.out w11 m o Km11.out Ko11.out) ?_
          rintro e w12 ⟨rfl, hb12⟩
          have HB12 : Kq (Below w.heap.size w w12) := ⟨HB11.out.trans (hb12.mono HB11.out.size)⟩
          have Km12 : Kq (RL w12 m M) := ⟨Km11.out.below hb12⟩
          have Ko12 : Kq (RL w12 o M) := ⟨Ko11.out.below hb12⟩
          clear hb12
          by_cases hF : F = 0
          · obtain ⟨p1, p2, p3⟩ := PM.out hF
            subst hF
            rw [p1] at HAM
            rw [p2] at HBM
            go_wp2_with fail
            refine Calls.mono (HAM.out w12 m HB12.out Km12.out) ?_
            rintro e w13 ⟨rfl, hb13⟩
            have HB13 : Kq (Below w.heap.size w w13) := ⟨HB12.out.trans (hb13.mono HB12.out.size)⟩
            have Km13 : Kq (RL w13 m M) := ⟨Km12.out.below hb13⟩
            clear hb13
            go_wp2_with fail
            refine Calls.mono (HBM.out w13 m HB13.out Km13.out) ?_
            rintro e w14 ⟨rfl, hb14⟩
            have HB14 : Kq (Below w.heap.size w w14) := ⟨HB13.out.trans (hb14.mono HB13.out.size)⟩
            have Km14 : Kq (RL w14 m M) := ⟨Km13.out.below hb14⟩
            clear hb14
            go_wp2_with fail
            refine Calls.mono (VC.out w14 HB14.out) ?_
            rintro e w15 ⟨rfl, hb15⟩
            have HB15 : Kq (Below w.heap.size w w15) := ⟨HB14.out.trans (hb15.mono HB14.out.size)⟩
            have Km15 : Kq (RL w15 m M) := ⟨Km14.out.below hb15⟩
            clear hb15
            have p4 := p3 (by trivial)
            clear p3
            go_wp2_with fail
            refine Calls.mono (HMC.out w15 m HB15.out Km15.out) ?_
            rintro e w16 ⟨rfl, hb16⟩
            have HB16 : Kq (Below w.heap.size w w16) := ⟨HB15.out.trans (hb16.mono HB15.out.size)⟩
            have Km16 : Kq (RL w16 m M) := ⟨Km15.out.below hb16⟩
            clear hb16
            go_wp2_with fail
            refine Calls.mono (HAC.out w16 HB16.out) ?_
            rintro e w17 ⟨rfl, hb17⟩
            have HB17 : Kq (Below w.heap.size w w17) := ⟨HB16.out.trans (hb17.mono HB16.out.size)⟩
            have Km17 : Kq (RL w17 m M) := ⟨Km16.out.below hb17⟩
            clear hb17
            cases ac with
            | false =>
              rw [Bool.false_and] at p4
              subst p4
              go_wp2_with fail
              refine Calls.mono (awake_any _ (HT.out.below HB17.out)) ?_
              rintro e w18 ⟨rfl, hb18⟩
              have HB18 : Kq (Below w.heap.size w w18) := ⟨HB17.out.trans (hb18.mono HB17.out.size)⟩
              clear hb18
              go_wp2
              go_ret
              exact ⟨rfl, HB18.out⟩
            | true =>
              go_wp2_with fail
              refine Calls.mono (HBC.out w17 HB17.out) ?_
              rintro e w18 ⟨rfl, hb18⟩
              have HB18 : Kq (Below w.heap.size w w18) := ⟨HB17.out.trans (hb18.mono HB17.out.size)⟩
              have Km18 : Kq (RL w18 m M) := ⟨Km17.out.below hb18⟩
              clear hb18
              rw [Bool.true_and] at p4
              subst p4
              cases mc with
              | false =>
                go_wp2_with fail
                refine Calls.mono (awake_any _ (HT.out.below HB18.out)) ?_
                rintro e w19 ⟨rfl, hb19⟩
                have HB19 : Kq (Below w.heap.size w w19) := ⟨HB18.out.trans (hb19.mono HB18.out.size)⟩
                clear hb19
                go_wp2
                go_ret
                exact ⟨rfl, HB19.out⟩
              | true =>
                go_wp2_with fail
                refine Calls.mono (awake_any _ (HT.out.below HB18.out)) ?_
                rintro e w19 ⟨rfl, hb19⟩
                have HB19 : Kq (Below w.heap.size w w19) := ⟨HB18.out.trans (hb19.mono HB18.out.size)⟩
                clear hb19
                go_wp2
                go_ret
                exact ⟨rfl, HB19.out⟩
          · have t9 : (F == 0) = false := by simpa using hF
            have t8 : (F != 0) = true := by simpa using hF
            go_wp2_with fail
            refine Calls.mono (awake_any _ (HT.out.below HB12.out)) ?_
            rintro e w13 ⟨rfl, hb13⟩
            have HB13 : Kq (Below w.heap.size w w13) := ⟨HB12.out.trans (hb13.mono HB12.out.size)⟩
            clear hb13
            go_wp2
            go_ret
            exact ⟨rfl, HB13.out⟩
        | true =>
          go_wp2_with fail
          refine Calls.mono (HCB.out w9 HB9.out) ?_
          rintro e w10 ⟨rfl, hb10⟩
          have HB10 : Kq (Below w.heap.size w w10) := ⟨HB9.out.trans (hb10.mono HB9.out.size)⟩
          have Kj10 : Kq (RL w10 j J) := ⟨Kj9.out.below hb10⟩
          clear hb10
          rw [Bool.true_and] at p4
          subst p4
          cases cj with
          | false =>
            go_wp2_with fail
            refine Calls.mono (B1.out w10 HB10.out) ?_
            rintro e w11 ⟨⟨m, rfl, hm⟩, hb11⟩
            have HB11 : Kq (Below w.heap.size w w11) := ⟨HB10.out.trans (hb11.mono HB10.out.size)⟩
            have Km11 : Kq (RL w11 m M) := ⟨hm⟩
            clear hb11 hm
            go_wp2_with fail
            refine Calls.mono (B2.out w11 HB11.out) ?_
            rintro e w12 ⟨⟨o, rfl, ho⟩, hb12⟩
            have HB12 : Kq (Below w.heap.size w w12) := ⟨HB11.out.trans (hb12.mono HB11.out.size)⟩
            have Km12 : Kq (RL w12 m M) := ⟨Km11.out.below hb12⟩
            have Ko12 : Kq (RL w12 o M) := ⟨ho⟩
            clear hb12 ho
            go_wp2_with fail
            refine Calls.mono (SM.out w12 m o Km12.out Ko12.out) ?_
            rintro e w13 ⟨rfl, hb13⟩
            have HB13 : Kq (Below w.heap.size w w13) := ⟨HB12.out.trans (hb13.mono HB12.out.size)⟩
            have Km13 : Kq (RL w13 m M) := ⟨Km12.out.below hb13⟩
            have Ko13 : Kq (RL w13 o M) := ⟨Ko12.out.below hb13⟩
            clear hb13
            by_cases hF : F = 0
            · obtain ⟨p1, p2, p3⟩ := PM.out hF
              subst hF
              rw [p1] at HAM
              rw [p2] at HBM
              go_wp2_with fail
              refine Calls.mono (HAM.out w13 m HB13.out Km13.out) ?_
              rintro e w14 ⟨rfl, hb14⟩
              have HB14 : Kq (Below w.heap.size w w14) := ⟨HB13.out.trans (hb14.mono HB13.out.size)⟩
              have Km14 : Kq (RL w14 m M) := ⟨Km13.out.below hb14⟩
              clear hb14
              go_wp2_with fail
              refine Calls.mono (HBM.out w14 m HB14.out Km14.out) ?_
              rintro e w15 ⟨rfl, hb15⟩
              have HB15 : Kq (Below w.heap.size w w15) := ⟨HB14.out.trans (hb15.mono HB14.out.size)⟩
              have Km15 : Kq (RL w15 m M) := ⟨Km14.out.below hb15⟩
              clear hb15
              go_wp2_with fail
              refine Calls.mono (VC.out w15 HB15.out) ?_
              rintro e w16 ⟨rfl, hb16⟩
              have HB16 : Kq (Below w.heap.size w w16) := ⟨HB15.out.trans (hb16.mono HB15.out.size)⟩
              have Km16 : Kq (RL w16 m M) := ⟨Km15.out.below hb16⟩
              clear hb16
              have p4 := p3 (by trivial)
              clear p3
              go_wp2_with fail
              refine Calls.mono (HMC.out w16 m HB16.out Km16.out) ?_
              rintro e w17 ⟨rfl, hb17⟩
              have HB17 : Kq (Below w.heap.size w w17) := ⟨HB16.out.trans (hb17.mono HB16.out.size)⟩
              have Km17 : Kq (RL w17 m M) := ⟨Km16.out.below hb17⟩
              clear hb17
              go_wp2_with fail
              refine Calls.mono (HAC.out w17 HB17.out) ?_
              rintro e w18 ⟨rfl, hb18⟩
              have HB18 : Kq (Below w.heap.size w w18) := ⟨HB17.out.trans (hb18.mono HB17.out.size)⟩
              have Km18 : Kq (RL w18 m M) := ⟨Km17.out.below hb18⟩
              clear hb18
              cases ac with
              | false =>
                rw [Bool.false_and] at p4
                subst p4
                go_wp2_with fail
                refine Calls.mono (awake_any _ (HT.out.below HB18.out)) ?_
                rintro e w19 ⟨rfl, hb19⟩
                have HB19 : Kq (Below w.heap.size w w19) := ⟨HB18.out.trans (hb19.mono HB18.out.size)⟩
                clear hb19
                go_wp2
                go_ret
                exact ⟨rfl, HB19.out⟩
              | true =>
                go_wp2_with fail
                refine Calls.mono (HBC.out w18 HB18.out) ?_
                rintro e w19 ⟨rfl, hb19⟩
                have HB19 : Kq (Below w.heap.size w w19) := ⟨HB18.out.trans (hb19.mono HB18.out.size)⟩
                have Km19 : Kq (RL w19 m M) := ⟨Km18.out.below hb19⟩
                clear hb19
                rw [Bool.true_and] at p4
                subst p4
                cases mc with
                | false =>
                  go_wp2_with fail
                  refine Calls.mono (awake_any _ (HT.out.below HB19.out)) ?_
                  rintro e w20 ⟨rfl, hb20⟩
                  have HB20 : Kq (Below w.heap.size w w20) := ⟨HB19.out.trans (hb20.mono HB19.out.size)⟩
                  clear hb20
                  go_wp2
                  go_ret
                  exact ⟨rfl, HB20.out⟩
                | true =>
                  go_wp2_with fail
                  refine Calls.mono (awake_any _ (HT.out.below HB19.out)) ?_
                  rintro e w20 ⟨rfl, hb20⟩
                  have HB20 : Kq (Below w.heap.size w w20) := ⟨HB19.out.trans (hb20.mono HB19.out.size)⟩
                  clear hb20
                  go_wp2
                  go_ret
                  exact ⟨rfl, HB20.out⟩
            · have t9 : (F == 0) = false := by simpa using hF
              have t8 : (F != 0) = true := by simpa using hF
              go_wp2_with fail
              refine Calls.mono (awake_any _ (HT.out.below HB13.out)) ?_
              rintro e w14 ⟨rfl, hb14⟩
              have HB14 : Kq (Below w.heap.size w w14) := ⟨HB13.out.trans (hb14.mono HB13.out.size)⟩
              clear hb14
              go_wp2
              go_ret
              exact ⟨rfl, HB14.out⟩
          | true =>
            go_wp2_with fail
            refine Calls.mono (B1.out w10 HB10.out) ?_
            rintro e w11 ⟨⟨m, rfl, hm⟩, hb11⟩
            have HB11 : Kq (Below w.heap.size w w11) := ⟨HB10.out.trans (hb11.mono HB10.out.size)⟩
            have Km11 : Kq (RL w11 m M) := ⟨hm⟩
            clear hb11 hm
            go_wp2_with fail
            refine Calls.mono (B2.out w11 HB11.out) ?_
            rintro e w12 ⟨⟨o, rfl, ho⟩, hb12⟩
            have HB12 : Kq (Below w.heap.size w w12) := ⟨HB11.out.trans (hb12.mono HB11.out.size)⟩
            have Km12 : Kq (RL w12 m M) := ⟨Km11.out.below hb12⟩
            have Ko12 : Kq (RL w12 o M) := ⟨ho⟩
            clear hb12 ho
            go_wp2_with fail
            refine Calls.mono (SM.out w12 m o Km12.out Ko12.out) ?_
            rintro e w13 ⟨rfl, hb13⟩
            have HB13 : Kq (Below w.heap.size w w13) := ⟨HB12.out.trans (hb13.mono HB12.out.size)⟩
            have Km13 : Kq (RL w13 m M) := ⟨Km12.out.below hb13⟩
            have Ko13 : Kq (RL w13 o M) := ⟨Ko12.out.below hb13⟩
            clear hb13
            by_cases hF : F = 0
            · obtain ⟨p1, p2, p3⟩ := PM.out hF
              subst hF
              rw [p1] at HAM
              rw [p2] at HBM
              go_wp2_with fail
              refine Calls.mono (HAM.out w13 m HB13.out Km13.out) ?_
              rintro e w14 ⟨rfl, hb14⟩
              have HB14 : Kq (Below w.heap.size w w14) := ⟨HB13.out.trans (hb14.mono HB13.out.size)⟩
              have Km14 : Kq (RL w14 m M) := ⟨Km13.out.below hb14⟩
              clear hb14
              go_wp2_with fail
              refine Calls.mono (HBM.out w14 m HB14.out Km14.out) ?_
              rintro e w15 ⟨rfl, hb15⟩
              have HB15 : Kq (Below w.heap.size w w15) := ⟨HB14.out.trans (hb15.mono HB14.out.size)⟩
              have Km15 : Kq (RL w15 m M) := ⟨Km14.out.below hb15⟩
              clear hb15
              go_wp2_with fail
              refine Calls.mono (VC.out w15 HB15.out) ?_
              rintro e w16 ⟨rfl, hb16⟩
              have HB16 : Kq (Below w.heap.size w w16) := ⟨HB15.out.trans (hb16.mono HB15.out.size)⟩
              have Km16 : Kq (RL w16 m M) := ⟨Km15.out.below hb16⟩
              clear hb16
              have p4 := p3 (by trivial)
              clear p3
              go_wp2_with fail
              refine Calls.mono (HMC.out w16 m HB16.out Km16.out) ?_
              rintro e w17 ⟨rfl, hb17⟩
              have HB17 : Kq (Below w.heap.size w w17) := ⟨HB16.out.trans (hb17.mono HB16.out.size)⟩
              have Km17 : Kq (RL w17 m M) := ⟨Km16.out.below hb17⟩
              clear hb17
              go_wp2_with fail
              refine Calls.mono (HAC.out w17 HB17.out) ?_
              rintro e w18 ⟨rfl, hb18⟩
              have HB18 : Kq (Below w.heap.size w w18) := ⟨HB17.out.trans (hb18.mono HB17.out.size)⟩
              have Km18 : Kq (RL w18 m M) := ⟨Km17.out.below hb18⟩
              clear hb18
              cases ac with
              | false =>
                rw [Bool.false_and] at p4
                subst p4
                go_wp2_with fail
                refine Calls.mono (awake_any _ (HT.out.below HB18.out)) ?_
                rintro e w19 ⟨rfl, hb19⟩
                have HB19 : Kq (Below w.heap.size w w19) := ⟨HB18.out.trans (hb19.mono HB18.out.size)⟩
                clear hb19
                go_wp2
                go_ret
                exact ⟨rfl, HB19.out⟩
              | true =>
                go_wp2_with fail
                refine Calls.mono (HBC.out w18 HB18.out) ?_
                rintro e w19 ⟨rfl, hb19⟩
                have HB19 : Kq (Below w.heap.size w w19) := ⟨HB18.out.trans (hb19.mono HB18.out.size)⟩
                have Km19 : Kq (RL w19 m M) := ⟨Km18.out.below hb19⟩
                clear hb19
                rw [Bool.true_and] at p4
                subst p4
                cases mc with
                | false =>
                  go_wp2_with fail
                  refine Calls.mono (awake_any _ (HT.out.below HB19.out)) ?_
                  rintro e w20 ⟨rfl, hb20⟩
                  have HB20 : Kq (Below w.heap.size w w20) := ⟨HB19.out.trans (hb20.mono HB19.out.size)⟩
                  clear hb20
                  go_wp2
                  go_ret
                  exact ⟨rfl, HB20.out⟩
                | true =>
                  go_wp2_with fail
                  refine Calls.mono (awake_any _ (HT.out.below HB19.out)) ?_
                  rintro e w20 ⟨rfl, hb20⟩
                  have HB20 : Kq (Below w.heap.size w w20) := ⟨HB19.out.trans (hb20.mono HB19.out.size)⟩
                  clear hb20
                  go_wp2
                  go_ret
                  exact ⟨rfl, HB20.out⟩
            · have t9 : (F == 0) = false := by simpa using hF
              have t8 : (F != 0) = true := by simpa using hF
              go_wp2_with fail
              refine Calls.mono (awake_any _ (HT.out.below HB13.out)) ?_
              rintro e w14 ⟨rfl, hb14⟩
              have HB14 : Kq (Below w.heap.size w w14) := ⟨HB13.out.trans (hb14.mono HB13.out.size)⟩
              clear hb14
              go_wp2
              go_ret
              exact ⟨rfl, HB14.out⟩
    · have t9 : (E == 0) = false := by simpa using hE
      have t8 : (E != 0) = true := by simpa using hE
      go_wp2_with fail
      refine Calls.mono (B1.out w4 HB4.out) ?_
      rintro e w5 ⟨⟨m, rfl, hm⟩, hb5⟩
      have HB5 : Kq (Below w.heap.size w w5) := ⟨HB4.out.trans (hb5.mono HB4.out.size)⟩
      have Km5 : Kq (RL w5 m M) := ⟨hm⟩
      clear hb5 hm
      go_wp2_with fail
      refine Calls.mono (B2.out w5 HB5.out) ?_
      rintro e w6 ⟨⟨o, rfl, ho⟩, hb6⟩
      have HB6 : Kq (Below w.heap.size w w6) := ⟨HB5.out.trans (hb6.mono HB5.out.size)⟩
      have Km6 : Kq (RL w6 m M) := ⟨Km5.out.below hb6⟩
      have Ko6 : Kq (RL w6 o M) := ⟨ho⟩
      clear hb6 ho
      go_wp2_with fail
      refine Calls.mono (SM.out w6 m o Km6.out Ko6.out) ?_
      rintro e w7 ⟨rfl, hb7⟩
      have HB7 : Kq (Below w.heap.size w w7) := ⟨HB6.out.trans (hb7.mono HB6.out.size)⟩
      have Km7 : Kq (RL w7 m M) := ⟨Km6.out.below hb7⟩
      have Ko7 : Kq (RL w7 o M) := ⟨Ko6.out.below hb7⟩
      clear hb7
      by_cases hF : F = 0
      · obtain ⟨p1, p2, p3⟩ := PM.out hF
        subst hF
        rw [p1] at HAM
        rw [p2] at HBM
        go_wp2_with fail
        refine Calls.mono (HAM.out w7 m HB7.out Km7.out) ?_
        rintro e w8 ⟨rfl, hb8⟩
        have HB8 : Kq (Below w.heap.size w w8) := ⟨HB7.out.trans (hb8.mono HB7.out.size)⟩
        have Km8 : Kq (RL w8 m M) := ⟨Km7.out.below hb8⟩
        clear hb8
        go_wp2_with fail
        refine Calls.mono (HBM.out w8 m HB8.out Km8.out) ?_
        rintro e w9 ⟨rfl, hb9⟩
        have HB9 : Kq (Below w.heap.size w w9) := ⟨HB8.out.trans (hb9.mono HB8.out.size)⟩
        have Km9 : Kq (RL w9 m M) := ⟨Km8.out.below hb9⟩
        clear hb9
        cases q with
        | false =>
          go_wp2_with fail
          refine Calls.mono (VC.out w9 HB9.out) ?_
          rintro e w10 ⟨rfl, hb10⟩
          have HB10 : Kq (Below w.heap.size w w10) := ⟨HB9.out.trans (hb10.mono HB9.out.size)⟩
          have Km10 : Kq (RL w10 m M) := ⟨Km9.out.below hb10⟩
          clear hb10
          go_wp2_with fail
          refine Calls.mono (awake_any _ (HT.out.below HB10.out)) ?_
          rintro e w11 ⟨rfl, hb11⟩
          have HB11 : Kq (Below w.heap.size w w11) := ⟨HB10.out.trans (hb11.mono HB10.out.size)⟩
          clear hb11
          go_wp2
          go_ret
          exact ⟨rfl, HB11.out⟩
        | true =>
          go_wp2_with fail
          refine Calls.mono (VC.out w9 HB9.out) ?_
          rintro e w10 ⟨rfl, hb10⟩
          have HB10 : Kq (Below w.heap.size w w10) := ⟨HB9.out.trans (hb10.mono HB9.out.size)⟩
          have Km10 : Kq (RL w10 m M) := ⟨Km9.out.below hb10⟩
          clear hb10
          have p4 := p3 (by trivial)
          clear p3
          go_wp2_with fail
          refine Calls.mono (HMC.out w10 m HB10.out Km10.out) ?_
          rintro e w11 ⟨rfl, hb11⟩
          have HB11 : Kq (Below w.heap.size w w11) := ⟨HB10.out.trans (hb11.mono HB10.out.size)⟩
          have Km11 : Kq (RL w11 m M) := ⟨Km10.out.below hb11⟩
          clear hb11
          go_wp2_with fail
          refine Calls.mono (HAC.out w11 HB11.out) ?_
          rintro e w12 ⟨rfl, hb12⟩
          have HB12 : Kq (Below w.heap.size w w12) := ⟨HB11.out.trans (hb12.mono HB11.out.size)⟩
          have Km12 : Kq (RL w12 m M) := ⟨Km11.out.below hb12⟩
          clear hb12
          cases ac with
          | false =>
            rw [Bool.false_and] at p4
            subst p4
            go_wp2_with fail
            refine Calls.mono (awake_any _ (HT.out.below HB12.out)) ?_
            rintro e w13 ⟨rfl, hb13⟩
            have HB13 : Kq (Below w.heap.size w w13) := ⟨HB12.out.trans (hb13.mono HB12.out.size)⟩
            clear hb13
            go_wp2
            go_ret
            exact ⟨rfl, HB13.out⟩
          | true =>
            go_wp2_with fail
            refine Calls.mono (HBC.out w12 HB12.out) ?_
            rintro e w13 ⟨rfl, hb13⟩
            have HB13 : Kq (Below w.heap.size w w13) := ⟨HB12.out.trans (hb13.mono HB12.out.size)⟩
            have Km13 : Kq (RL w13 m M) := ⟨Km12.out.below hb13⟩
            clear hb13
            rw [Bool.true_and] at p4
            subst p4
            cases mc with
            | false =>
              go_wp2_with fail
              refine Calls.mono (awake_any _ (HT.out.below HB13.out)) ?_
              rintro e w14 ⟨rfl, hb14⟩
              have HB14 : Kq (Below w.heap.size w w14) := ⟨HB13.out.trans (hb14.mono HB13.out.size)⟩
              clear hb14
              go_wp2
              go_ret
              exact ⟨rfl, HB14.out⟩
            | true =>
              go_wp2_with fail
              refine Calls.mono (awake_any _ (HT.out.below HB13.out)) ?_
              rintro e w14 ⟨rfl, hb14⟩
              have HB14 : Kq (Below w.heap.size w w14) := ⟨HB13.out.trans (hb14.mono HB13.out.size)⟩
              clear hb14
              go_wp2
              go_ret
              exact ⟨rfl, HB14.out⟩
      · have t9 : (F == 0) = false := by simpa using hF
        have t8 : (F != 0) = true := by simpa using hF
        go_wp2_with fail
        refine Calls.mono (awake_any _ (HT.out.below HB7.out)) ?_
        rintro e w8 ⟨rfl, hb8⟩
        have HB8 : Kq (Below w.heap.size w w8) := ⟨HB7.out.trans (hb8.mono HB7.out.size)⟩
        clear hb8
        go_wp2
        go_ret
        exact ⟨rfl, HB8.out⟩
end Go.Proofs.YtjdcdakedoljbaaDoor.Mk
