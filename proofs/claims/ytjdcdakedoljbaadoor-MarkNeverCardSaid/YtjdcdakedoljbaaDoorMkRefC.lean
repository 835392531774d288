/-
  WALKS of the reference's Has, Agree, Both at any labels.
-/
import Derived.Test.YtjdcdakedoljbaaDoorMkRefB
import Derived.Lib.QuietBelow
import Derived.Deep.QuietTactic
import Derived.BigQuiet
namespace Go.Proofs.YtjdcdakedoljbaaDoor.Mk
open Go Go.RowKit Go.Maps Go.Sort

theorem refValid_any (v : Value) (L : List FB) (w : World) (h : RL w v L) (hs : Fits L) (hn : L.length ≤ maxLen) :
    Calls Tryd.prog 24 #[v] w fun e w' => e = .returned (.bool (validL L)) ∧ Below w.heap.size w w' :=
  refValidLabel_any v L w h hs (by unfold maxLen at hn; omega)
theorem refHas_any (va vb : Value) (A L : List FB) (w : World) (ha : RL w va A) (h : RL w vb L) (hsA : Fits A) (hs : Fits L) (hnA : A.length ≤ maxLen) (hn : L.length ≤ maxLen) :
    Calls Tryd.prog 26 #[va, vb] w fun e w' => e = .returned (.bool (hasB A L)) ∧ Below w.heap.size w w' := by
  have H1 : Kq _ := ⟨refValid_any va A w ha hsA hnA⟩
  have H2 : Kq (∀ W, Below w.heap.size w W → _) := ⟨fun W hW => refValid_any vb L W (h.below hW) hs hn⟩
  have H3 : Kq (∀ W, Below w.heap.size w W → _) := ⟨fun W hW => rcovers_any va vb A L W (ha.below hW) (h.below hW) hnA hn⟩
  have HF : Kq (validL A = true → validL L = true → coversL A L = hasB A L) := ⟨fun h1 h2 => by
    unfold hasB
    rw [h1, h2, covers_has (valid_fun h1) (valid_full h2)]
    rfl⟩
  have HN : Kq ((validL A && validL L) = false → hasB A L = false) := ⟨fun h1 => by
    unfold hasB
    rw [h1]
    rfl⟩
  obtain ⟨X, hX⟩ : ∃ X, hasB A L = X := ⟨_, rfl⟩
  rw [hX] at HF HN ⊢
  obtain ⟨P, hP⟩ : ∃ P, validL A = P := ⟨_, rfl⟩
  obtain ⟨Q, hQ⟩ : ∃ Q, validL L = Q := ⟨_, rfl⟩
  rw [hP] at H1 HF HN
  rw [hQ] at H2 HF HN
  clear ha h hsA hs hnA hn hP hQ hX
  go_enter Tryd.func26, Tryd.ntmps26
  go_wp2_with fail
  refine H1.out.mono ?_
  rintro e w1 ⟨rfl, hb1⟩
  have HB1 : Kq (Below w.heap.size w w1) := ⟨hb1⟩
  clear hb1
  cases P with
  | false =>
    have hr := HN.out (by trivial)
    subst hr
    go_wp2
    go_ret
    exact ⟨rfl, HB1.out⟩
  | true =>
    go_wp2_with fail
    refine (H2.out w1 HB1.out).mono ?_
    rintro e w2 ⟨rfl, hb2⟩
    have HB2 : Kq (Below w.heap.size w w2) := ⟨HB1.out.trans (hb2.mono HB1.out.size)⟩
    clear hb2
    cases Q with
    | false =>
      have hr := HN.out (by trivial)
      subst hr
      go_wp2
      go_ret
      exact ⟨rfl, HB2.out⟩
    | true =>
      have hr := HF.out (by trivial) (by trivial)
      rw [hr] at H3
      go_wp2_with fail
      refine (H3.out w2 HB2.out).mono ?_
      rintro e w3 ⟨rfl, hb3⟩
      have HB3 : Kq (Below w.heap.size w w3) := ⟨HB2.out.trans (hb3.mono HB2.out.size)⟩
      clear hb3
      go_wp2
      go_ret
      exact ⟨rfl, HB3.out⟩
/-- Agree, as both say it. -/
def agreeB (A L : List FB) : Bool := validL A && validL L && (clashL A L).isNone
theorem agree_clash {A L : List FB} (hA : validL A = true) (hL : validL L = true) : decide (rclash L A = ⟨#[]⟩) = agreeB A L := by
  unfold agreeB
  rw [hA, hL, rclash_clash (valid_fun hA) (valid_fun hL) (valid_full hA) (valid_full hL)]
  rfl
theorem refAgree_any (va vb : Value) (A L : List FB) (w : World) (ha : RL w va A) (h : RL w vb L) (hsA : Fits A) (hs : Fits L) (hnA : A.length ≤ maxLen) (hn : L.length ≤ maxLen) :
    Calls Tryd.prog 28 #[va, vb] w fun e w' => e = .returned (.bool (agreeB A L)) ∧ Below w.heap.size w w' := by
  have H1 : Kq _ := ⟨refValid_any va A w ha hsA hnA⟩
  have H2 : Kq (∀ W, Below w.heap.size w W → _) := ⟨fun W hW => refValid_any vb L W (h.below hW) hs hn⟩
  have H3 : Kq (∀ W, Below w.heap.size w W → _) := ⟨fun W hW => rclash_any va vb A L W (ha.below hW) (h.below hW) hnA hn⟩
  have HF : Kq (validL A = true → validL L = true → decide (rclash L A = ⟨#[]⟩) = agreeB A L) := ⟨agree_clash⟩
  have HN : Kq ((validL A && validL L) = false → agreeB A L = false) := ⟨fun h1 => by
    unfold agreeB
    rw [h1]
    rfl⟩
  obtain ⟨X, hX⟩ : ∃ X, agreeB A L = X := ⟨_, rfl⟩
  rw [hX] at HF HN ⊢
  obtain ⟨P, hP⟩ : ∃ P, validL A = P := ⟨_, rfl⟩
  obtain ⟨Q, hQ⟩ : ∃ Q, validL L = Q := ⟨_, rfl⟩
  rw [hP] at H1 HF HN
  rw [hQ] at H2 HF HN
  clear ha h hsA hs hnA hn hP hQ hX
  go_enter Tryd.func28, Tryd.ntmps28
  go_wp2_with fail
  refine H1.out.mono ?_
  rintro e w1 ⟨rfl, hb1⟩
  have HB1 : Kq (Below w.heap.size w w1) := ⟨hb1⟩
  clear hb1
  cases P with
  | false =>
    have hr := HN.out (by trivial)
    subst hr
    go_wp2
    go_ret
    exact ⟨rfl, HB1.out⟩
  | true =>
    go_wp2_with fail
    refine (H2.out w1 HB1.out).mono ?_
    rintro e w2 ⟨rfl, hb2⟩
    have HB2 : Kq (Below w.heap.size w w2) := ⟨HB1.out.trans (hb2.mono HB1.out.size)⟩
    clear hb2
    cases Q with
    | false =>
      have hr := HN.out (by trivial)
      subst hr
      go_wp2
      go_ret
      exact ⟨rfl, HB2.out⟩
    | true =>
      have hr := HF.out (by trivial) (by trivial)
      go_wp2_with fail
      refine (H3.out w2 HB2.out).mono ?_
      rintro e w3 ⟨rfl, hb3⟩
      have HB3 : Kq (Below w.heap.size w w3) := ⟨HB2.out.trans (hb3.mono HB2.out.size)⟩
      clear hb3
      obtain ⟨u, hu⟩ : ∃ u, rclash L A = u := ⟨_, rfl⟩
      rw [hu] at hr ⊢
      by_cases he : u = ⟨#[]⟩
      · subst he
        have t1 := isEmpty_yes
        have hr2 : X = true := by rw [← hr]; rfl
        subst hr2
        clear hr hu
        go_wp2
        go_ret
        exact ⟨rfl, HB3.out⟩
      · have t1 := isEmpty_no he
        have hr2 : X = false := by rw [← hr]; simpa using he
        subst hr2
        clear hr hu he
        go_wp2
        go_ret
        exact ⟨rfl, HB3.out⟩
/-- The reference's Both: the fields of the first label that the second has. -/
def rbothL (L : List FB) : List FB → List FB
  | [] => []
  | f :: A => if rval L f.1 = f.2 then f :: rbothL L A else rbothL L A
theorem rbothL_append (L A M : List FB) : rbothL L (A ++ M) = rbothL L A ++ rbothL L M := by
  induction A with
  | nil => rfl
  | cons f A ih =>
    simp only [List.cons_append, rbothL]
    split
    · rw [ih]; rfl
    · exact ih
theorem rbothL_sub (L A : List FB) : (rbothL L A).Sublist A := by
  induction A with
  | nil => exact List.Sublist.refl _
  | cons x A ih =>
    simp only [rbothL]
    split
    · exact ih.cons_cons x
    · exact ih.cons x
theorem rboth_mem {A L : List FB} (hL : Fun L) (hA : Full A) (f : FB) : f ∈ rbothL L A ↔ f ∈ A ∧ f ∈ L := by
  induction A with
  | nil => simp [rbothL]
  | cons x A ih =>
    have hA' : Full A := fun a ha => hA a (List.mem_cons_of_mem _ ha)
    have hx := rval_iff hL (k := x.1) (hA x List.mem_cons_self).2
    simp only [rbothL]
    split
    · rename_i e
      rw [List.mem_cons, List.mem_cons, ih hA']
      constructor
      · rintro (h1 | ⟨h1, h2⟩)
        · subst h1
          exact ⟨.inl rfl, hx.1 e⟩
        · exact ⟨.inr h1, h2⟩
      · rintro ⟨h1 | h1, h2⟩
        · exact .inl h1
        · exact .inr ⟨h1, h2⟩
    · rename_i e
      rw [List.mem_cons, ih hA']
      constructor
      · rintro ⟨h1, h2⟩
        exact ⟨.inr h1, h2⟩
      · rintro ⟨h1 | h1, h2⟩
        · subst h1
          exact absurd (hx.2 h2) e
        · exact ⟨h1, h2⟩
theorem rboth_common {A L : List FB} (hA : validL A = true) (hL : validL L = true) : rbothL L A = commonL A L :=
  strict_ext (((valid_iff A).1 hA).2.2.sublist (rbothL_sub L A)) (strict_common ((valid_iff L).1 hL).2.2) fun f => by rw [rboth_mem (valid_fun hL) (valid_full hA), mem_common (valid_fun hA)]
set_option maxRecDepth 10000 in
set_option maxHeartbeats 1000000 in
theorem refBoth_any (va vb : Value) (A L : List FB) (w : World) (ha : RL w va A) (h : RL w vb L) (hsA : Fits A) (hs : Fits L) (hnA : A.length ≤ maxLen) (hn : L.length ≤ maxLen) :
    Calls Tryd.prog 32 #[va, vb] w (LabE (bothR A L) (bothE A L) w) := by
  have H1 : Kq _ := ⟨refValid_any va A w ha hsA hnA⟩
  have H2 : Kq (∀ W, Below w.heap.size w W → _) := ⟨fun W hW => refValid_any vb L W (h.below hW) hs hn⟩
  have H3 : Kq (∀ W key, Below w.heap.size w W → _) := ⟨fun W key hW => rvalue_any vb L key W (h.below hW) hn⟩
  have HF : Kq (validL A = true → validL L = true → A.length ≤ 8 ∧ bothR A L = rbothL L A ∧ bothE A L = 0) := ⟨fun h1 h2 => by
    have h3 : vv A L = true := by unfold vv; rw [h1, h2]; rfl
    unfold bothR bothE
    rw [if_pos h3, if_pos h3]
    exact ⟨valid_len h1, (rboth_common h1 h2).symm, rfl⟩⟩
  have HN : Kq ((validL A && validL L) = false → bothR A L = [] ∧ bothE A L = 1) := ⟨fun h1 => by
    have h3 : ¬ vv A L = true := by unfold vv; rw [h1]; simp
    unfold bothR bothE
    rw [if_neg h3, if_neg h3]
    exact ⟨rfl, rfl⟩⟩
  unfold LabE
  obtain ⟨R, hR⟩ : ∃ R, bothR A L = R := ⟨_, rfl⟩
  obtain ⟨E, hE⟩ : ∃ E, bothE A L = E := ⟨_, rfl⟩
  rw [hR, hE] at HF HN ⊢
  obtain ⟨P, hP⟩ : ∃ P, validL A = P := ⟨_, rfl⟩
  obtain ⟨Q, hQ⟩ : ∃ Q, validL L = Q := ⟨_, rfl⟩
  rw [hP] at H1 HF HN
  rw [hQ] at H2 HF HN
  obtain ⟨gb, cb, rfl, _⟩ := h
  obtain ⟨g, cap, rfl, hc⟩ := ha
  have HC := Lib.hid hc
  clear hc hsA hs hnA hn hP hQ hR hE
  obtain ⟨i0, hi, hz0, hz1, hz2⟩ := info_parts info_field
  have HI := Lib.hid hi
  have HZ0 := Lib.hid hz0
  have HZ1 := Lib.hid hz1
  have HZ2 := Lib.hid hz2
  clear hi hz0 hz1 hz2
  go_enter Tryd.func32, Tryd.ntmps32
  go_wp2_with fail
  refine H1.out.mono ?_
  rintro e w1 ⟨rfl, hb1⟩
  have HB1 : Kq (Below w.heap.size w w1) := ⟨hb1⟩
  clear hb1
  cases P with
  | false =>
    obtain ⟨e1, e2⟩ := HN.out (by trivial)
    subst e1
    subst e2
    go_wp2
    go_ret2
    exact ⟨⟨_, rfl, RL.nil _⟩, HB1.out⟩
  | true =>
    go_wp2_with fail
    refine (H2.out w1 HB1.out).mono ?_
    rintro e w2 ⟨rfl, hb2⟩
    have HB2 : Kq (Below w.heap.size w w2) := ⟨HB1.out.trans (hb2.mono HB1.out.size)⟩
    clear hb2
    cases Q with
    | false =>
      obtain ⟨e1, e2⟩ := HN.out (by trivial)
      subst e1
      subst e2
      go_wp2
      go_ret2
      exact ⟨⟨_, rfl, RL.nil _⟩, HB2.out⟩
    | true =>
      obtain ⟨hA8, e1, e2⟩ := HF.out (by trivial) (by trivial)
      subst e1
      subst e2
      have hz0 := HB2.out.size
      clear HF HN
      go_wp2
      go_loopw [19, 6] (fun i v wr => ∃ k : Nat, k ≤ A.length ∧ i = .int .i64 (k : Int) ∧ RowF w2.heap.size w2 wr v (rbothL L (A.take k))) (fun i _ _ => A.length - (intOf i).toNat)
      case atStart => exact ⟨0, Nat.zero_le _, rfl, ⟨World.ownsRow_nil _ _ _ _, Below.refl _ _⟩⟩
      case round =>
        obtain ⟨k, hk, rfl, hrow⟩ := hrel
        have HROW := Lib.hid hrow
        have hz := hrow.bel.size
        have HBW : Kq (Below w.heap.size w wr) := ⟨HB2.out.trans (hrow.bel.mono hz0)⟩
        clear hrow
        by_cases hlt : k < A.length
        · obtain ⟨f, hf⟩ : ∃ f, A[k]? = some f := ⟨A[k], List.getElem?_eq_getElem hlt⟩
          obtain ⟨b, o, hg, hbl, hb1, hb2⟩ := HC.out k f hf
          subst hg
          have c1 : wr.cell? ⟨b, o + k * 2, none⟩ = some (.string f.1) := (HBW.out.cell (p := ⟨b, _, none⟩) hbl).trans hb1
          have c2 : wr.cell? ⟨b, o + k * 2 + 1, none⟩ = some (.string f.2) := (HBW.out.cell (p := ⟨b, _, none⟩) hbl).trans hb2
          obtain ⟨W, hW⟩ : ∃ W, wr.alloc (Obj.cells #[Value.string f.1, Value.string f.2] 70) = W := ⟨_, rfl⟩
          have b1 : W.cell? ⟨wr.heap.size, 0, none⟩ = some (.string f.1) := by rw [← hW]; simp [go_sem]
          have b2 : W.cell? ⟨wr.heap.size, 1, none⟩ = some (.string f.2) := by rw [← hW]; simp [go_sem]
          have HBA : Kq (Below w.heap.size w W) := ⟨by rw [← hW]; exact HBW.out.alloc HBW.out.size _⟩
          have hWz : W.heap.size = wr.heap.size + 1 := by rw [← hW]; simp
          have HROW2 : Kq (RowF w2.heap.size w2 W u6 (rbothL L (A.take k))) := ⟨HROW.out.next (by rw [← hW]; exact (Below.refl _ wr).alloc (Nat.le_refl _) _) hz⟩
          have HNO : Kq (rval L f.1 ≠ f.2 → rbothL L (A.take (k + 1)) = rbothL L (A.take k)) := ⟨fun hne => by rw [take_next hf, rbothL_append]; simp [rbothL, hne]⟩
          have HYES : Kq (rval L f.1 = f.2 → rbothL L (A.take (k + 1)) = rbothL L (A.take k) ++ [f]) := ⟨fun he => by rw [take_next hf, rbothL_append]; simp [rbothL, he]⟩
          obtain ⟨u, hu⟩ : ∃ u, rval L f.1 = u := ⟨_, rfl⟩
          have HV : Hid (∀ d os, Calls Tryd.prog 68 #[.slice gb L.length cb, .string f.1] (grow (redrawn W d) os) fun e w' => e = .returned (.string u) ∧ Below (grow (redrawn W d) os).heap.size (grow (redrawn W d) os) w') := by
            rw [← hu]
            exact fun d os => H3.out _ _ (HBA.out.trans ((below_regrown W d os).mono HBA.out.size))
          clear hb1 hb2 hf HROW
          by_cases he : u = f.2
          · have hstep : Kq _ := ⟨HYES.out (by rw [hu, he])⟩
            have t1 : (u.toList == f.2.toList) = true := toList_eq.2 he
            have hlen : (rbothL L (A.take k)).length ≤ 8 := Nat.le_trans (rbothL_sub L _).length_le (by rw [List.length_take]; omega)
            have hc3 : (rbothL L (A.take k)).length + 1 ≤ maxLen := by unfold maxLen; omega
            have hc4 : ((rbothL L (A.take k)).length + 1) * 32 ≤ 140737488355328 := by omega
            clear he hu
            go_wp2_with fail
            clear hW c1 c2
            have g1 := fun d os => cell_regrown b1 d os
            have g2 := fun d os => cell_regrown b2 d os
            refine wp_region_quiet_below (by kernel_rfl) (by kernel_rfl) ?_
            repeat (any_goals (first | go_big_quiet_step (exact Calls.regrown_of (HV.out _ _)) | quiet_step (exact Calls.regrown_of (HV.out _ _))))
            refine wpQuiet_nil ?_
            intro _ hw'
            obtain ⟨⟨dq, osq⟩, hw''⟩ := hw'
            subst hw''
            obtain ⟨w3, hw3⟩ : ∃ w3, grow (redrawn W dq) osq = w3 := ⟨_, rfl⟩
            have d1 := g1 dq osq
            have d2 := g2 dq osq
            have hb3 : Below W.heap.size W w3 := by rw [← hw3]; exact below_regrown W dq osq
            rw [hw3] at d1 d2 ⊢
            have hz3 : wr.heap.size + 1 ≤ w3.heap.size := by have := hb3.size; omega
            have HROW3 : Kq (RowF w2.heap.size w2 w3 u6 (rbothL L (A.take k))) := ⟨HROW2.out.next hb3 (by omega)⟩
            have hnew : Kq ((w3.alloc (Obj.cells #[Value.string f.1, Value.string f.2] 70)).heap[w3.heap.size]? = some (Obj.cells #[Value.string f.1, Value.string f.2] 70)) := ⟨heap_alloc_new _ _⟩
            have hown := HROW3.out.own
            have hbel2 := HROW3.out.bel
            clear hw3 hb3 g1 g2 HV b1 b2
            go_wp2_with (at_builtin; refine wpList_append_own _ rfl _ _ 35 rfl w2.heap.size 70 i0 (.agg #[.string ⟨#[]⟩, .string ⟨#[]⟩]) 2 32 Tryd.underlying35 HI.out HZ0.out HZ1.out HZ2.out rfl (by decide) _ _ _ rfl (hown.alloc _) ⟨w3.heap.size, 0, none⟩ 1 1 [.string f.1, .string f.2] rfl rfl (World.news_of_block (cs := #[.string f.1, .string f.2]) hnew.out) (by simp [Value.oneCell']) hc3 hc4 (by simp; omega) ?_; intro v' w4 hown' hgrow' _hnil)
            have hlt2 := hown.lt
            have hrow4 : RowF w2.heap.size w2 w4 v' (rbothL L (A.take (k + 1))) := ⟨by rw [hstep.out, cellsL_append]; simpa [cellsL] using hown', (hbel2.alloc (by omega) _).grown hgrow' (by simp; omega) (fun j e => (hlt2 j e).1)⟩
            clear hown' hgrow' hown hlt2 _hnil hbel2
            go_wp2
            go_roundw
            case rel => exact ⟨k + 1, by omega, by go_num, hrow4⟩
            case measure => simp [intOf]; omega
          · have hstep : Kq _ := ⟨HNO.out (by rw [hu]; exact he)⟩
            have t1 : (u.toList == f.2.toList) = false := toList_ne he
            clear he hu
            go_wp2_with fail
            clear hW c1 c2
            have g1 := fun d os => cell_regrown b1 d os
            have g2 := fun d os => cell_regrown b2 d os
            refine wp_region_quiet_below (by kernel_rfl) (by kernel_rfl) ?_
            repeat (any_goals (first | go_big_quiet_step (exact Calls.regrown_of (HV.out _ _)) | quiet_step (exact Calls.regrown_of (HV.out _ _))))
            refine wpQuiet_nil ?_
            intro _ hw'
            obtain ⟨⟨dq, osq⟩, hw''⟩ := hw'
            subst hw''
            go_wp2
            go_roundw
            case rel => exact ⟨k + 1, by omega, by go_num, by rw [hstep.out]; exact HROW2.out.next (below_regrown W dq osq) (by omega)⟩
            case measure => simp [intOf]; omega
        · have hkl : k = A.length := by omega
          have hrl : Kq (RL wr u6 (rbothL L A)) := ⟨by
            have h1 := HROW.out.rl
            rw [hkl, List.take_of_length_le (Nat.le_refl _)] at h1
            exact h1⟩
          obtain ⟨g2, c2, hv2, _⟩ := hrl.out
          clear hkl
          go_wp2
          go_ret2
          exact ⟨⟨_, rfl, hrl.out⟩, HBW.out⟩
end Go.Proofs.YtjdcdakedoljbaaDoor.Mk
