/-
  THE WALK of the reference's merged at whatever labels that agree, and of its Joined.
-/
import Derived.Test.YtjdcdakedoljbaaDoorMkMergeB
namespace Go.Proofs.YtjdcdakedoljbaaDoor.Mk
open Go Go.RowKit Go.Maps Go.Deep

theorem RL.some_of {w : World} {g : Option Addr} {cap : Nat} {A : List FB} (h : RL w (.slice g A.length cap) A) (hp : 1 ≤ A.length) : ∃ b o, g = some ⟨b, o, none⟩ := by
  obtain ⟨g', cap', e, hc⟩ := h
  obtain ⟨f, hf⟩ : ∃ f, A[0]? = some f := ⟨A[0], List.getElem?_eq_getElem hp⟩
  obtain ⟨b, o, hg, _⟩ := hc 0 f hf
  simp only [Value.slice.injEq] at e
  exact ⟨b, o, e.1.trans hg⟩
/-- The reference's Joined. -/
theorem rclash_none {A L : List FB} (h : vv A L = true) (hc : (clashL A L).isSome = false) : ∀ f ∈ A, ∀ g ∈ L, f.1 = g.1 → f.2 = g.2 := by
  unfold vv at h
  rw [Bool.and_eq_true] at h
  exact (clash_none (valid_fun h.1)).1 hc
theorem refJoined_any (va vb : Value) (A L : List FB) (w : World) (ha : RL w va A) (h : RL w vb L) (hsA : Fits A) (hs : Fits L) (hnA : A.length ≤ maxLen) (hn : L.length ≤ maxLen) :
    Calls Tryd.prog 30 #[va, vb] w (LabE (joinR A L) (joinE A L) w) := by
  have H1 : Kq _ := ⟨refValid_any va A w ha hsA hnA⟩
  have H2 : Kq (∀ W, Below w.heap.size w W → _) := ⟨fun W hW => refValid_any vb L W (h.below hW) hs hn⟩
  have H3 : Kq (∀ W, Below w.heap.size w W → _) := ⟨fun W hW => rclash_any va vb A L W (ha.below hW) (h.below hW) hnA hn⟩
  have H4 : Kq (validL A = true → validL L = true → (clashL A L).isSome = false → ∀ W, Below w.heap.size w W → Calls Tryd.prog 67 #[va, vb] W fun e w' => (∃ v, e = .returned v ∧ RL w' v (joinedL A L)) ∧ Below W.heap.size W w') := ⟨fun h1 h2 hc W hW => by
    have hv : vv A L = true := by unfold vv; rw [h1, h2]; rfl
    refine (rmerged_any va vb A L W (ha.below hW) (h.below hW) ((valid_iff A).1 h1).2.2 (valid_full h1) ((valid_iff L).1 h2).2.2 (rclash_none hv hc) (by have := valid_len h1; have := valid_len h2; omega)).mono ?_
    rintro e w' ⟨⟨v, O, he, hr, hj⟩, hb⟩
    have : O = joinedL A L := strict_ext hj.strict (isJoin hsA hs hv hc).strict fun f => by rw [hj.mem, (isJoin hsA hs hv hc).mem]
    rw [this] at hr
    exact ⟨⟨v, he, hr⟩, hb⟩⟩
  have HN : Kq ((validL A && validL L) = false → joinR A L = [] ∧ joinE A L = 1) := ⟨fun h1 => by
    have h3 : ¬ vv A L = true := by unfold vv; rw [h1]; simp
    have h4 : joinE A L = 1 := by unfold joinE; rw [if_neg h3]
    unfold joinR
    rw [h4]
    exact ⟨rfl, rfl⟩⟩
  have HC : Kq (validL A = true → validL L = true → (clashL A L).isSome = true → joinR A L = [] ∧ joinE A L = 10) := ⟨fun h1 h2 hc => by
    have h3 : vv A L = true := by unfold vv; rw [h1, h2]; rfl
    have h4 : joinE A L = 10 := by unfold joinE; rw [if_pos h3, if_pos hc]
    unfold joinR
    rw [h4]
    exact ⟨rfl, rfl⟩⟩
  have HL : Kq (validL A = true → validL L = true → (clashL A L).isSome = false → 8 < (joinedL A L).length → joinR A L = [] ∧ joinE A L = 4) := ⟨fun h1 h2 hc h8 => by
    have h3 : vv A L = true := by unfold vv; rw [h1, h2]; rfl
    have h4 : joinE A L = 4 := by unfold joinE; rw [if_pos h3, if_neg (by rw [hc]; simp), if_pos h8]
    unfold joinR
    rw [h4]
    exact ⟨rfl, rfl⟩⟩
  have HO : Kq (validL A = true → validL L = true → (clashL A L).isSome = false → ¬ 8 < (joinedL A L).length → joinR A L = joinedL A L ∧ joinE A L = 0) := ⟨fun h1 h2 hc h8 => by
    have h3 : vv A L = true := by unfold vv; rw [h1, h2]; rfl
    have h4 : joinE A L = 0 := by unfold joinE; rw [if_pos h3, if_neg (by rw [hc]; simp), if_neg h8]
    unfold joinR
    rw [h4]
    exact ⟨rfl, rfl⟩⟩
  have HF : Kq (validL A = true → validL L = true → decide (rclash L A = ⟨#[]⟩) = (clashL A L).isNone) := ⟨fun h1 h2 => rclash_clash (valid_fun h1) (valid_fun h2) (valid_full h1) (valid_full h2)⟩
  unfold LabE
  obtain ⟨ga, ca, rfl⟩ := ha.shape
  obtain ⟨gb, cb, rfl⟩ := h.shape
  obtain ⟨P, hP⟩ : ∃ P, validL A = P := ⟨_, rfl⟩
  obtain ⟨Q, hQ⟩ : ∃ Q, validL L = Q := ⟨_, rfl⟩
  obtain ⟨c, hc⟩ : ∃ c, clashL A L = c := ⟨_, rfl⟩
  obtain ⟨J, hJ⟩ : ∃ J, joinedL A L = J := ⟨_, rfl⟩
  obtain ⟨R, hR⟩ : ∃ R, joinR A L = R := ⟨_, rfl⟩
  obtain ⟨E, hE⟩ : ∃ E, joinE A L = E := ⟨_, rfl⟩
  rw [hP] at H1 H4 HN HC HL HO HF
  rw [hQ] at H2 H4 HN HC HL HO HF
  rw [hc] at H4 HC HL HO HF
  rw [hJ] at H4 HL HO
  rw [hR, hE] at HN HC HL HO
  rw [hR, hE]
  clear ha h hsA hs hnA hn hP hQ hc hJ hR hE
  go_enter Tryd.func30, Tryd.ntmps30
  go_wp2_with fail
  refine H1.out.mono ?_
  rintro e w1 ⟨rfl, hb1⟩
  have HB1 : Kq (Below w.heap.size w w1) := ⟨hb1⟩
  clear hb1
  cases P with
  | false =>
    obtain ⟨e1, e2⟩ := HN.out (by trivial)
    subst e1
    subst e2
    go_wp2
    go_ret2
    exact ⟨⟨_, rfl, RL.nil _⟩, HB1.out⟩
  | true =>
    go_wp2_with fail
    refine (H2.out w1 HB1.out).mono ?_
    rintro e w2 ⟨rfl, hb2⟩
    have HB2 : Kq (Below w.heap.size w w2) := ⟨HB1.out.trans (hb2.mono HB1.out.size)⟩
    clear hb2
    cases Q with
    | false =>
      obtain ⟨e1, e2⟩ := HN.out (by trivial)
      subst e1
      subst e2
      go_wp2
      go_ret2
      exact ⟨⟨_, rfl, RL.nil _⟩, HB2.out⟩
    | true =>
      have hcl := HF.out (by trivial) (by trivial)
      go_wp2_with fail
      refine (H3.out w2 HB2.out).mono ?_
      rintro e w3 ⟨rfl, hb3⟩
      have HB3 : Kq (Below w.heap.size w w3) := ⟨HB2.out.trans (hb3.mono HB2.out.size)⟩
      clear hb3
      obtain ⟨u, hu⟩ : ∃ u, rclash L A = u := ⟨_, rfl⟩
      rw [hu] at hcl ⊢
      cases c with
      | some q =>
        have he : u ≠ ⟨#[]⟩ := by simpa using hcl
        have t1 := isEmpty_no he
        obtain ⟨e1, e2⟩ := HC.out (by trivial) (by trivial) (by trivial)
        subst e1
        subst e2
        clear hcl hu he
        go_wp2
        go_ret2
        exact ⟨⟨_, rfl, RL.nil _⟩, HB3.out⟩
      | none =>
        have he : u = ⟨#[]⟩ := by simpa using hcl
        subst he
        have t1 := isEmpty_yes
        clear hcl hu
        go_wp2_with fail
        refine (H4.out (by trivial) (by trivial) (by trivial) w3 HB3.out).mono ?_
        rintro e w4 ⟨⟨v, rfl, hv⟩, hb4⟩
        have HB4 : Kq (Below w.heap.size w w4) := ⟨HB3.out.trans (hb4.mono HB3.out.size)⟩
        have HV : Kq (RL w4 v J) := ⟨hv⟩
        obtain ⟨g4, c4, rfl⟩ := hv.shape
        clear hb4 hv
        by_cases h8 : 8 < J.length
        · obtain ⟨e1, e2⟩ := HL.out (by trivial) (by trivial) (by trivial) h8
          subst e1
          subst e2
          go_wp2
          go_ret2
          exact ⟨⟨_, rfl, RL.nil _⟩, HB4.out⟩
        · obtain ⟨e1, e2⟩ := HO.out (by trivial) (by trivial) (by trivial) h8
          subst e1
          subst e2
          go_wp2
          go_ret2
          exact ⟨⟨_, rfl, HV.out⟩, HB4.out⟩
end Go.Proofs.YtjdcdakedoljbaaDoor.Mk
