/-
  THE WALK of the law LoanDays.
-/
import Derived.Test.YtpngmdpiefagjaaLnRDays
import Derived.Test.YtpngmdpiefagjaaLnWhere
import Derived.Test.YtpngmdpiefagjaaLnFit
import Derived.Test.YtpngmdpiefagjaaLnAwake
namespace Go.Proofs.Ytpngmdpiefagjaa.Ln
open Go Go.RowKit Go.Sort

theorem okB_home {x : Loan} (h : okB x = true) : x.out < home x := by
  unfold okB at h
  simp only [Bool.and_eq_true, decide_eq_true_eq] at h
  have h2 := h.2.2
  unfold home
  split <;> omega
theorem comI_add {f m t a b : Int} (h1 : f ≤ m) (h2 : m ≤ t) (h3 : a ≤ b) : comI f m a b + comI m t a b = comI f t a b := by
  unfold comI
  omega
theorem sum_add {E : Type} (f g h : E → Int) : ∀ (l : List E), (∀ x ∈ l, f x + g x = h x) → (l.map f).sum + (l.map g).sum = (l.map h).sum
  | [], _ => rfl
  | x :: l, hx => by
    have h1 := sum_add f g h l fun y hy => hx y (by simp [hy])
    have h2 := hx x (by simp)
    simp only [List.map_cons, List.sum_cons]
    omega
theorem dayN_add {l : List Loan} (s : ByteArray) {f m t : Int} (hv : validL l = true) (h1 : f ≤ m) (h2 : m ≤ t) : dayN l s f m + dayN l s m t = dayN l s f t := by
  unfold dayN
  refine sum_add _ _ _ _ fun q hq => ?_
  obtain ⟨x, hx, -, rfl⟩ := calL_mem hq
  exact comI_add h1 h2 (Int.le_of_lt (okB_home (validL_ok hv hx)))
theorem comI_one {x : Loan} {d : Int} (h : okB x = true) : comI d (d + 1) x.out (home x) = if outB x d = true then 1 else 0 := by
  have hh := okB_home h
  unfold comI outB
  by_cases h1 : x.out ≤ d <;> by_cases h2 : d < home x
  · rw [decide_eq_true h1, decide_eq_true h2, if_pos (by decide)]; omega
  · rw [decide_eq_true h1, decide_eq_false h2, if_neg (by decide)]; omega
  · rw [decide_eq_false h1, decide_eq_true h2, if_neg (by decide)]; omega
  · rw [decide_eq_false h1, decide_eq_false h2, if_neg (by decide)]; omega
theorem sum_zero {F : List Loan} {p : Loan → Bool} (h : ∀ x ∈ F, p x = false) : (F.map fun x => if p x = true then (1 : Int) else 0).sum = 0 := by
  induction F with
  | nil => rfl
  | cons x F ih =>
    rw [List.map_cons, List.sum_cons, ih fun y hy => h y (by simp [hy]), h x (by simp), if_neg (by decide)]
    rfl
theorem sum_one_of {F : List Loan} {p : Loan → Bool} (h : F.Pairwise fun a b => ¬ (p a = true ∧ p b = true)) {x : Loan} (hx : x ∈ F) (hp : p x = true) : (F.map fun x => if p x = true then (1 : Int) else 0).sum = 1 := by
  induction F with
  | nil => cases hx
  | cons y F ih =>
    rw [List.pairwise_cons] at h
    rw [List.map_cons, List.sum_cons]
    cases hy : p y with
    | true =>
      rw [sum_zero fun z hz => by
        have := h.1 z hz
        rw [hy] at this
        cases hz2 : p z with
        | false => rfl
        | true => exact absurd ⟨rfl, hz2⟩ this]
      rfl
    | false =>
      rcases List.mem_cons.1 hx with rfl | hx
      · rw [hy] at hp; cases hp
      · rw [ih h.2 hx, if_neg (by decide)]; rfl
theorem valid_cl {l : List Loan} (h : validL l = true) : l.Pairwise (fun a b => clB a b = false) := by
  unfold validL at h
  have := ((vlB_iff (pre := []) ⟨by simp, List.Pairwise.nil⟩ List.Pairwise.nil).1 h).2
  rwa [List.nil_append] at this
/-- A single day is counted once if the piece is somewhere, else not at all. -/
theorem day_where {l : List Loan} {s : ByteArray} {d : Int} {r : ByteArray} (hv : validL l = true) (h : WhIs l s d r) : (dayN l s d (d + 1) = 1 ∧ ∃ c cs, r.toList = c :: cs) ∨ (dayN l s d (d + 1) = 0 ∧ r = ⟨#[]⟩) := by
  have e : dayN l s d (d + 1) = ((l.filter fun x => eqS x.p s).map fun x => if outB x d = true then (1 : Int) else 0).sum := by
    unfold dayN calL
    rw [List.map_map]
    congr 1
    refine List.map_congr_left fun x hx => ?_
    exact comI_one (validL_ok hv (List.mem_filter.1 hx).1)
  rw [e]
  rcases h with ⟨x, hx, hp, ho, rfl⟩ | ⟨hn, rfl⟩
  · refine .inl ⟨sum_one_of ?_ (List.mem_filter.2 ⟨hx, hp⟩) ho, ?_⟩
    · refine ((valid_cl hv).sublist List.filter_sublist).imp_of_mem ?_
      intro a b ha hb hc hab
      have ea := eqS_iff.1 (List.mem_filter.1 ha).2
      have eb := eqS_iff.1 (List.mem_filter.1 hb).2
      unfold clB at hc
      rw [ea, eb, eqS_refl, Bool.true_and, decide_eq_false_iff_not] at hc
      have h1 := hab.1
      have h2 := hab.2
      unfold outB at h1 h2
      simp only [Bool.and_eq_true, decide_eq_true_eq] at h1 h2
      omega
    · have hk := validL_ok hv hx
      unfold okB nameB nameL at hk
      simp only [Bool.and_eq_true, decide_eq_true_eq] at hk
      have h3 := hk.2.1.1.1
      rw [Lib.toList_data]
      cases hd : x.t.data.toList with
      | nil => rw [hd] at h3; simp at h3
      | cons c cs => exact ⟨c, cs, rfl⟩
  · exact .inr ⟨sum_zero fun x hx => hn x (List.mem_filter.1 hx).1 (List.mem_filter.1 hx).2, rfl⟩
theorem day_ok {n : Int} (h1 : 0 ≤ n) (h2 : n ≤ 100000) : dayB n = true := by
  unfold dayB
  rw [decide_eq_true h1, decide_eq_true h2]
  rfl
theorem dayE_of {l : List Loan} {s : ByteArray} {a b : Int} (h : askE l s = 0) (h1 : 0 ≤ a) (h2 : b ≤ 100000) (h3 : a ≤ b) : dayE l s a b = 0 := by
  rw [dayE_ask, if_pos h]
  unfold rngB
  rw [day_ok h1 (by omega), day_ok (by omega) h2, decide_eq_true h3]
  rfl
theorem whE_of {l : List Loan} {s : ByteArray} {d : Int} (h : askE l s = 0) (h1 : 0 ≤ d) (h2 : d ≤ 100000) : whE l s d = 0 := by
  obtain ⟨a, b, -⟩ := chkE_zero h
  unfold whE allIn
  rw [a, b]
  simp [h1, h2, chkE]
set_option maxRecDepth 100000 in
set_option maxHeartbeats 8000000 in
theorem lawDays_any (v : Value) (l : List Loan) (s : ByteArray) (fr mid to : Int) (w : World) (hv : LS w v l) (hm : l.length ≤ 9223372036854775807) (hs : s.size ≤ maxLen) :
    Calls Try.prog 7 #[v, .string s, .int .i64 fr, .int .i64 mid, .int .i64 to] w fun e w' => e = .returned (.bool true) ∧ Below w.heap.size w w' := by
  have HF : Kp (Calls Try.prog 13 #[v] w fun e w' => e = .returned (.bool (fitB l)) ∧ Below w.heap.size w w') := ⟨fit_any v l w hv hm⟩
  have HAW : Kp (∀ W, Calls Try.prog 14 #[] W fun e w' => e = .returned (.bool true) ∧ Below W.heap.size W w') := ⟨fun W => awake_any W⟩
  have hls := hv
  obtain ⟨g, c, rfl⟩ := hv.shape
  obtain ⟨N, hN⟩ : ∃ N, l.length = N := ⟨_, rfl⟩
  rw [hN] at HF hls ⊢
  have hv2 : LS w (.slice g N c) l := hls
  obtain ⟨P, hP⟩ : ∃ P, decide (100 < s.size) = P := ⟨_, rfl⟩
  have i1 : decide ((100 : Int) < (s.size : Int)) = P := by rw [← hP]; exact decide_eq_decide.2 (by omega)
  cases hfit : fitB l with
  | false =>
    rw [hfit] at HF
    clear hv hm hs hls hv2 hN hP i1 hfit
    go_enter Try.func7, Try.ntmps7
    go_wp2_with fail
    refine (HF.out).mono ?_
    rintro en w1 ⟨rfl, hb⟩
    have HB1 : Kp (Below w.heap.size w w1) := ⟨hb⟩
    clear hb
    go_wp2_with fail
    refine (HAW.out _).mono ?_
    rintro en w2 ⟨rfl, hb⟩
    have HB2 : Kp (Below w.heap.size w w2) := ⟨HB1.out.trans (hb.mono HB1.out.size)⟩
    clear hb
    go_wp2
    go_ret
    exact ⟨rfl, HB2.out⟩
  | true =>
    rw [hfit] at HF
    have hlen := fit_len hfit
    have HDY : Kp (∀ W a b, Below w.heap.size w W → Calls Try.prog 37 #[.slice g N c, .string s, .int .i64 a, .int .i64 b] W fun e w' => e = .returned (.tuple #[.int .i64 (dayV l s a b), .int .i64 (dayE l s a b)]) ∧ Below W.heap.size W w') := ⟨fun W a b hW => Days_any _ l s a b W (hv2.below hW) (by omega) hs⟩
    have HRD : Kp (∀ W, Below w.heap.size w W → Calls Try.prog 38 #[.slice g N c, .string s, .int .i64 fr, .int .i64 to] W fun e w' => e = .returned (.tuple #[.int .i64 (dayV l s fr to), .int .i64 (dayE l s fr to)]) ∧ Below W.heap.size W w') := ⟨fun W hW => rDays_any _ l s fr to W (hv2.below hW) (by omega) hs⟩
    have HHO : Kp (∀ W, Below w.heap.size w W → Calls Try.prog 39 #[.slice g N c, .string s, .int .i64 fr, .int .i64 to] W fun e w' => e = .returned (.tuple #[.int .i64 (homeV l s fr to), .int .i64 (dayE l s fr to)]) ∧ Below W.heap.size W w') := ⟨fun W hW => Home_any _ l s fr to W (hv2.below hW) (by omega) hs⟩
    have HRH : Kp (∀ W, Below w.heap.size w W → Calls Try.prog 40 #[.slice g N c, .string s, .int .i64 fr, .int .i64 to] W fun e w' => e = .returned (.tuple #[.int .i64 (homeV l s fr to), .int .i64 (dayE l s fr to)]) ∧ Below W.heap.size W w') := ⟨fun W hW => rHome_any _ l s fr to W (hv2.below hW) (by omega) hs⟩
    have HWH : Kp (whE l s fr = 0 → ∀ W, Below w.heap.size w W → Calls Try.prog 23 #[.slice g N c, .string s, .int .i64 fr] W (WhPost l s fr W)) := ⟨fun h W hW => Where_ok _ l s fr W (hv2.below hW) hs h⟩
    have HLN : Kp (l.length ≤ 203) := ⟨hlen⟩
    clear hs hls hv hv2 hN hP hfit hlen hm
    cases P with
    | true =>
      clear HDY HRD HHO HRH HWH
      go_enter Try.func7, Try.ntmps7
      go_wp2_with fail
      refine (HF.out).mono ?_
      rintro en w1 ⟨rfl, hb⟩
      have HB1 : Kp (Below w.heap.size w w1) := ⟨hb⟩
      clear hb
      go_wp2_with fail
      refine (HAW.out _).mono ?_
      rintro en w2 ⟨rfl, hb⟩
      have HB2 : Kp (Below w.heap.size w w2) := ⟨HB1.out.trans (hb.mono HB1.out.size)⟩
      clear hb
      go_wp2
      go_ret
      exact ⟨rfl, HB2.out⟩
    | false =>
      have HZ : Kp (dayE l s fr to = 0 → validL l = true ∧ askE l s = 0 ∧ (0 ≤ fr ∧ fr ≤ 100000) ∧ (0 ≤ to ∧ to ≤ 100000) ∧ fr ≤ to) := ⟨dayE_zero⟩
      have HV0 : Kp (∀ a b, dayE l s a b = 0 → dayV l s a b = dayN l s a b) := ⟨fun a b h => by unfold dayV; rw [if_pos h]⟩
      have HH0 : Kp (dayE l s fr to = 0 → homeV l s fr to = to - fr - dayN l s fr to) := ⟨fun h => by unfold homeV; rw [if_pos h]⟩
      have HDE := Kp.mk (HDY.out · fr to)
      have HEQ0 : Kp (dayE l s fr to = dayE l s fr to) := ⟨rfl⟩
      obtain ⟨E, hE⟩ : ∃ E, dayE l s fr to = E := ⟨_, rfl⟩
      obtain ⟨n, hn⟩ : ∃ n, dayV l s fr to = n := ⟨_, rfl⟩
      obtain ⟨h, hh⟩ : ∃ h, homeV l s fr to = h := ⟨_, rfl⟩
      have HE := Kp.mk hE
      have HNE := Kp.mk hn
      have HHE := Kp.mk hh
      have k1 : (n != n) = false := by simp
      have k2 : (h != h) = false := by simp
      have k3 : (E != E) = false := by simp
      rw [hE, hn] at HRD HDE
      rw [hE, hh] at HHO HRH
      clear hE hn hh HEQ0
      by_cases hE0 : E = 0
      · subst hE0
        have hz := HZ.out HE.out
        have hn2 := (HV0.out fr to HE.out).symm.trans HNE.out
        have hh2 := (HH0.out HE.out).symm.trans HHE.out
        rw [hn2] at hh2
        have hb := dayN_bd (l := l) s hz.2.2.1.1 hz.2.2.2.1.2
        rw [hn2] at hb
        obtain ⟨D, hD⟩ : ∃ D, to - fr = D := ⟨_, rfl⟩
        have w1 : IntKind.i64.wrap (n + h) = D := by rw [← hh2, ← hD]; rw [show n + (to - fr - n) = to - fr by omega]; exact IntWalk.i64_in _ (by omega)
        have w2 : IntKind.i64.wrap (to - fr) = D := by rw [hD]; exact IntWalk.i64_in _ (by omega)
        have k4 : (D != D) = false := by simp
        have HZZ := Kp.mk hz
        have HN2 := Kp.mk hn2
        obtain ⟨Q, hQ⟩ : ∃ Q, decide (fr < to) = Q := ⟨_, rfl⟩
        obtain ⟨A, hA⟩ : ∃ A, decide (mid < fr) = A := ⟨_, rfl⟩
        obtain ⟨B, hB⟩ : ∃ B, decide (to < mid) = B := ⟨_, rfl⟩
        have HQ := Kp.mk hQ
        have HA := Kp.mk hA
        have HB := Kp.mk hB
        obtain ⟨f1, hf1⟩ : ∃ f1, fr + 1 = f1 := ⟨_, rfl⟩
        have HF1 := Kp.mk hf1
        have w3 : IntKind.i64.wrap (fr + 1) = f1 := by rw [hf1]; exact IntWalk.i64_in _ (by have := HZZ.out.2.2.1; omega)
        have HN1 : Kp (∀ x y, (A = false → B = false → dayV l s fr mid = x ∧ dayV l s mid to = y → IntKind.i64.wrap (x + y) = n)) := ⟨fun x y ha hb' hxy => by
          have h1 : ¬ mid < fr := of_decide_eq_false (hA.trans ha)
          have h2 : ¬ to < mid := of_decide_eq_false (hB.trans hb')
          have e1 := dayE_of (a := fr) (b := mid) hz.2.1 hz.2.2.1.1 (by omega) (by omega)
          have e2 := dayE_of (a := mid) (b := to) hz.2.1 (by omega) hz.2.2.2.1.2 (by omega)
          rw [← hxy.1, ← hxy.2, HV0.out _ _ e1, HV0.out _ _ e2, dayN_add s hz.1 (by omega) (by omega), hn2]
          exact IntWalk.i64_in _ (by have := HLN.out; omega)⟩
        clear hz hn2 hh2 hb hD hf1 HH0
        clear hQ hA hB
        have i5 := HQ.out
        have i6 := HA.out
        have i7 := HB.out
        cases Q with
        | false =>
          cases A with
          | true =>
            clear HDY HWH HV0 HZ HN1
            go_enter Try.func7, Try.ntmps7
            go_wp2_with fail
            refine (HF.out).mono ?_
            rintro en w1 ⟨rfl, hb⟩
            have HB1 : Kp (Below w.heap.size w w1) := ⟨hb⟩
            clear hb
            go_wp2_with fail
            refine (HDE.out _ HB1.out).mono ?_
            rintro en w2 ⟨rfl, hb⟩
            have HB2 : Kp (Below w.heap.size w w2) := ⟨HB1.out.trans (hb.mono HB1.out.size)⟩
            clear hb
            go_wp2_with fail
            refine (HRD.out _ HB2.out).mono ?_
            rintro en w3 ⟨rfl, hb⟩
            have HB3 : Kp (Below w.heap.size w w3) := ⟨HB2.out.trans (hb.mono HB2.out.size)⟩
            clear hb
            go_wp2_with fail
            refine (HHO.out _ HB3.out).mono ?_
            rintro en w4 ⟨rfl, hb⟩
            have HB4 : Kp (Below w.heap.size w w4) := ⟨HB3.out.trans (hb.mono HB3.out.size)⟩
            clear hb
            go_wp2_with fail
            refine (HRH.out _ HB4.out).mono ?_
            rintro en w5 ⟨rfl, hb⟩
            have HB5 : Kp (Below w.heap.size w w5) := ⟨HB4.out.trans (hb.mono HB4.out.size)⟩
            clear hb
            go_wp2_with fail
            refine (HAW.out _).mono ?_
            rintro en w6 ⟨rfl, hb⟩
            have HB6 : Kp (Below w.heap.size w w6) := ⟨HB5.out.trans (hb.mono HB5.out.size)⟩
            clear hb
            go_wp2
            go_ret
            exact ⟨rfl, HB6.out⟩
          | false =>
            cases B with
            | true =>
              clear HDY HWH HV0 HZ HN1
              go_enter Try.func7, Try.ntmps7
              go_wp2_with fail
              refine (HF.out).mono ?_
              rintro en w1 ⟨rfl, hb⟩
              have HB1 : Kp (Below w.heap.size w w1) := ⟨hb⟩
              clear hb
              go_wp2_with fail
              refine (HDE.out _ HB1.out).mono ?_
              rintro en w2 ⟨rfl, hb⟩
              have HB2 : Kp (Below w.heap.size w w2) := ⟨HB1.out.trans (hb.mono HB1.out.size)⟩
              clear hb
              go_wp2_with fail
              refine (HRD.out _ HB2.out).mono ?_
              rintro en w3 ⟨rfl, hb⟩
              have HB3 : Kp (Below w.heap.size w w3) := ⟨HB2.out.trans (hb.mono HB2.out.size)⟩
              clear hb
              go_wp2_with fail
              refine (HHO.out _ HB3.out).mono ?_
              rintro en w4 ⟨rfl, hb⟩
              have HB4 : Kp (Below w.heap.size w w4) := ⟨HB3.out.trans (hb.mono HB3.out.size)⟩
              clear hb
              go_wp2_with fail
              refine (HRH.out _ HB4.out).mono ?_
              rintro en w5 ⟨rfl, hb⟩
              have HB5 : Kp (Below w.heap.size w w5) := ⟨HB4.out.trans (hb.mono HB4.out.size)⟩
              clear hb
              go_wp2_with fail
              refine (HAW.out _).mono ?_
              rintro en w6 ⟨rfl, hb⟩
              have HB6 : Kp (Below w.heap.size w w6) := ⟨HB5.out.trans (hb.mono HB5.out.size)⟩
              clear hb
              go_wp2
              go_ret
              exact ⟨rfl, HB6.out⟩
            | false =>
              obtain ⟨x1, hx1⟩ : ∃ x, dayV l s fr mid = x := ⟨_, rfl⟩
              obtain ⟨x2, hx2⟩ : ∃ x, dayV l s mid to = x := ⟨_, rfl⟩
              have w4 : IntKind.i64.wrap (x1 + x2) = n := HN1.out x1 x2 rfl rfl ⟨hx1, hx2⟩
              have e1 : dayE l s fr mid = 0 := dayE_of HZZ.out.2.1 HZZ.out.2.2.1.1 (by have := of_decide_eq_false HB.out; have := HZZ.out; omega) (by have := of_decide_eq_false HA.out; omega)
              have e2 : dayE l s mid to = 0 := dayE_of HZZ.out.2.1 (by have := of_decide_eq_false HA.out; have := HZZ.out; omega) HZZ.out.2.2.2.1.2 (by have := of_decide_eq_false HB.out; omega)
              have k5 : (n == n) = true := by simp
              have HX1 : Kp (∀ W, Below w.heap.size w W → Calls Try.prog 37 #[.slice g N c, .string s, .int .i64 fr, .int .i64 mid] W fun e w' => e = .returned (.tuple #[.int .i64 x1, .int .i64 0]) ∧ Below W.heap.size W w') := ⟨fun W hW => (HDY.out W fr mid hW).mono fun e w' ⟨q1, q2⟩ => ⟨by rw [q1, hx1, e1], q2⟩⟩
              have HX2 : Kp (∀ W, Below w.heap.size w W → Calls Try.prog 37 #[.slice g N c, .string s, .int .i64 mid, .int .i64 to] W fun e w' => e = .returned (.tuple #[.int .i64 x2, .int .i64 0]) ∧ Below W.heap.size W w') := ⟨fun W hW => (HDY.out W mid to hW).mono fun e w' ⟨q1, q2⟩ => ⟨by rw [q1, hx2, e2], q2⟩⟩
              clear hx1 hx2 e1 e2
              clear HDY HWH HV0 HZ HN1
              go_enter Try.func7, Try.ntmps7
              go_wp2_with fail
              refine (HF.out).mono ?_
              rintro en w1 ⟨rfl, hb⟩
              have HB1 : Kp (Below w.heap.size w w1) := ⟨hb⟩
              clear hb
              go_wp2_with fail
              refine (HDE.out _ HB1.out).mono ?_
              rintro en w2 ⟨rfl, hb⟩
              have HB2 : Kp (Below w.heap.size w w2) := ⟨HB1.out.trans (hb.mono HB1.out.size)⟩
              clear hb
              go_wp2_with fail
              refine (HRD.out _ HB2.out).mono ?_
              rintro en w3 ⟨rfl, hb⟩
              have HB3 : Kp (Below w.heap.size w w3) := ⟨HB2.out.trans (hb.mono HB2.out.size)⟩
              clear hb
              go_wp2_with fail
              refine (HHO.out _ HB3.out).mono ?_
              rintro en w4 ⟨rfl, hb⟩
              have HB4 : Kp (Below w.heap.size w w4) := ⟨HB3.out.trans (hb.mono HB3.out.size)⟩
              clear hb
              go_wp2_with fail
              refine (HRH.out _ HB4.out).mono ?_
              rintro en w5 ⟨rfl, hb⟩
              have HB5 : Kp (Below w.heap.size w w5) := ⟨HB4.out.trans (hb.mono HB4.out.size)⟩
              clear hb
              go_wp2_with fail
              refine (HX1.out _ HB5.out).mono ?_
              rintro en w6 ⟨rfl, hb⟩
              have HB6 : Kp (Below w.heap.size w w6) := ⟨HB5.out.trans (hb.mono HB5.out.size)⟩
              clear hb
              go_wp2_with fail
              refine (HX2.out _ HB6.out).mono ?_
              rintro en w7 ⟨rfl, hb⟩
              have HB7 : Kp (Below w.heap.size w w7) := ⟨HB6.out.trans (hb.mono HB6.out.size)⟩
              clear hb
              go_wp2_with fail
              refine (HAW.out _).mono ?_
              rintro en w8 ⟨rfl, hb⟩
              have HB8 : Kp (Below w.heap.size w w8) := ⟨HB7.out.trans (hb.mono HB7.out.size)⟩
              clear hb
              go_wp2
              go_ret
              exact ⟨rfl, HB8.out⟩
        | true =>
          have hft : fr < to := of_decide_eq_true HQ.out
          have ef : dayE l s fr f1 = 0 := dayE_of HZZ.out.2.1 HZZ.out.2.2.1.1 (by have := HF1.out; have := HZZ.out; omega) (by have := HF1.out; omega)
          have HY1 : Kp (∀ W, Below w.heap.size w W → Calls Try.prog 37 #[.slice g N c, .string s, .int .i64 fr, .int .i64 f1] W fun e w' => e = .returned (.tuple #[.int .i64 (dayN l s fr f1), .int .i64 0]) ∧ Below W.heap.size W w') := ⟨fun W hW => (HDY.out W fr f1 hW).mono fun e w' ⟨q1, q2⟩ => ⟨by rw [q1, HV0.out _ _ ef, ef], q2⟩⟩
          have HY2 : Kp (∀ W, Below w.heap.size w W → Calls Try.prog 23 #[.slice g N c, .string s, .int .i64 fr] W fun e w' => ∃ r, e = .returned (.tuple #[.string r, .int .i64 0]) ∧ ((dayN l s fr f1 = 1 ∧ ∃ c cs, r.toList = c :: cs) ∨ (dayN l s fr f1 = 0 ∧ r = ⟨#[]⟩)) ∧ Below W.heap.size W w') := ⟨fun W hW => (HWH.out (whE_of HZZ.out.2.1 HZZ.out.2.2.1.1 HZZ.out.2.2.1.2) W hW).mono fun e w' ⟨r, q1, q2, q3⟩ => ⟨r, q1, by rw [← HF1.out]; exact day_where HZZ.out.1 q2, q3⟩⟩
          obtain ⟨n1, hn1⟩ : ∃ n1, dayN l s fr f1 = n1 := ⟨_, rfl⟩
          rw [hn1] at HY1 HY2
          clear hft ef hn1
          cases A with
          | true =>
            clear HDY HWH HV0 HZ HN1
            go_enter Try.func7, Try.ntmps7
            go_wp2_with fail
            refine (HF.out).mono ?_
            rintro en w1 ⟨rfl, hb⟩
            have HB1 : Kp (Below w.heap.size w w1) := ⟨hb⟩
            clear hb
            go_wp2_with fail
            refine (HDE.out _ HB1.out).mono ?_
            rintro en w2 ⟨rfl, hb⟩
            have HB2 : Kp (Below w.heap.size w w2) := ⟨HB1.out.trans (hb.mono HB1.out.size)⟩
            clear hb
            go_wp2_with fail
            refine (HRD.out _ HB2.out).mono ?_
            rintro en w3 ⟨rfl, hb⟩
            have HB3 : Kp (Below w.heap.size w w3) := ⟨HB2.out.trans (hb.mono HB2.out.size)⟩
            clear hb
            go_wp2_with fail
            refine (HHO.out _ HB3.out).mono ?_
            rintro en w4 ⟨rfl, hb⟩
            have HB4 : Kp (Below w.heap.size w w4) := ⟨HB3.out.trans (hb.mono HB3.out.size)⟩
            clear hb
            go_wp2_with fail
            refine (HRH.out _ HB4.out).mono ?_
            rintro en w5 ⟨rfl, hb⟩
            have HB5 : Kp (Below w.heap.size w w5) := ⟨HB4.out.trans (hb.mono HB4.out.size)⟩
            clear hb
            go_wp2_with fail
            refine (HY1.out _ HB5.out).mono ?_
            rintro en w6 ⟨rfl, hb⟩
            have HB6 : Kp (Below w.heap.size w w6) := ⟨HB5.out.trans (hb.mono HB5.out.size)⟩
            clear hb
            go_wp2_with fail
            refine (HY2.out _ HB6.out).mono ?_
            rintro en w7 ⟨r, rfl, hr, hb⟩
            have HB7 : Kp (Below w.heap.size w w7) := ⟨HB6.out.trans (hb.mono HB6.out.size)⟩
            clear hb
            rcases hr with ⟨rfl, c', cs', hcc⟩ | ⟨rfl, rfl⟩
            · go_wp2_with fail
              refine (HAW.out _).mono ?_
              rintro en w8 ⟨rfl, hb⟩
              have HB8 : Kp (Below w.heap.size w w8) := ⟨HB7.out.trans (hb.mono HB7.out.size)⟩
              clear hb
              go_wp2
              go_ret
              exact ⟨rfl, HB8.out⟩
            · go_wp2_with fail
              refine (HAW.out _).mono ?_
              rintro en w8 ⟨rfl, hb⟩
              have HB8 : Kp (Below w.heap.size w w8) := ⟨HB7.out.trans (hb.mono HB7.out.size)⟩
              clear hb
              go_wp2
              go_ret
              exact ⟨rfl, HB8.out⟩
          | false =>
            cases B with
            | true =>
              clear HDY HWH HV0 HZ HN1
              go_enter Try.func7, Try.ntmps7
              go_wp2_with fail
              refine (HF.out).mono ?_
              rintro en w1 ⟨rfl, hb⟩
              have HB1 : Kp (Below w.heap.size w w1) := ⟨hb⟩
              clear hb
              go_wp2_with fail
              refine (HDE.out _ HB1.out).mono ?_
              rintro en w2 ⟨rfl, hb⟩
              have HB2 : Kp (Below w.heap.size w w2) := ⟨HB1.out.trans (hb.mono HB1.out.size)⟩
              clear hb
              go_wp2_with fail
              refine (HRD.out _ HB2.out).mono ?_
              rintro en w3 ⟨rfl, hb⟩
              have HB3 : Kp (Below w.heap.size w w3) := ⟨HB2.out.trans (hb.mono HB2.out.size)⟩
              clear hb
              go_wp2_with fail
              refine (HHO.out _ HB3.out).mono ?_
              rintro en w4 ⟨rfl, hb⟩
              have HB4 : Kp (Below w.heap.size w w4) := ⟨HB3.out.trans (hb.mono HB3.out.size)⟩
              clear hb
              go_wp2_with fail
              refine (HRH.out _ HB4.out).mono ?_
              rintro en w5 ⟨rfl, hb⟩
              have HB5 : Kp (Below w.heap.size w w5) := ⟨HB4.out.trans (hb.mono HB4.out.size)⟩
              clear hb
              go_wp2_with fail
              refine (HY1.out _ HB5.out).mono ?_
              rintro en w6 ⟨rfl, hb⟩
              have HB6 : Kp (Below w.heap.size w w6) := ⟨HB5.out.trans (hb.mono HB5.out.size)⟩
              clear hb
              go_wp2_with fail
              refine (HY2.out _ HB6.out).mono ?_
              rintro en w7 ⟨r, rfl, hr, hb⟩
              have HB7 : Kp (Below w.heap.size w w7) := ⟨HB6.out.trans (hb.mono HB6.out.size)⟩
              clear hb
              rcases hr with ⟨rfl, c', cs', hcc⟩ | ⟨rfl, rfl⟩
              · go_wp2_with fail
                refine (HAW.out _).mono ?_
                rintro en w8 ⟨rfl, hb⟩
                have HB8 : Kp (Below w.heap.size w w8) := ⟨HB7.out.trans (hb.mono HB7.out.size)⟩
                clear hb
                go_wp2
                go_ret
                exact ⟨rfl, HB8.out⟩
              · go_wp2_with fail
                refine (HAW.out _).mono ?_
                rintro en w8 ⟨rfl, hb⟩
                have HB8 : Kp (Below w.heap.size w w8) := ⟨HB7.out.trans (hb.mono HB7.out.size)⟩
                clear hb
                go_wp2
                go_ret
                exact ⟨rfl, HB8.out⟩
            | false =>
              obtain ⟨x1, hx1⟩ : ∃ x, dayV l s fr mid = x := ⟨_, rfl⟩
              obtain ⟨x2, hx2⟩ : ∃ x, dayV l s mid to = x := ⟨_, rfl⟩
              have w4 : IntKind.i64.wrap (x1 + x2) = n := HN1.out x1 x2 rfl rfl ⟨hx1, hx2⟩
              have e1 : dayE l s fr mid = 0 := dayE_of HZZ.out.2.1 HZZ.out.2.2.1.1 (by have := of_decide_eq_false HB.out; have := HZZ.out; omega) (by have := of_decide_eq_false HA.out; omega)
              have e2 : dayE l s mid to = 0 := dayE_of HZZ.out.2.1 (by have := of_decide_eq_false HA.out; have := HZZ.out; omega) HZZ.out.2.2.2.1.2 (by have := of_decide_eq_false HB.out; omega)
              have k5 : (n == n) = true := by simp
              have HX1 : Kp (∀ W, Below w.heap.size w W → Calls Try.prog 37 #[.slice g N c, .string s, .int .i64 fr, .int .i64 mid] W fun e w' => e = .returned (.tuple #[.int .i64 x1, .int .i64 0]) ∧ Below W.heap.size W w') := ⟨fun W hW => (HDY.out W fr mid hW).mono fun e w' ⟨q1, q2⟩ => ⟨by rw [q1, hx1, e1], q2⟩⟩
              have HX2 : Kp (∀ W, Below w.heap.size w W → Calls Try.prog 37 #[.slice g N c, .string s, .int .i64 mid, .int .i64 to] W fun e w' => e = .returned (.tuple #[.int .i64 x2, .int .i64 0]) ∧ Below W.heap.size W w') := ⟨fun W hW => (HDY.out W mid to hW).mono fun e w' ⟨q1, q2⟩ => ⟨by rw [q1, hx2, e2], q2⟩⟩
              clear hx1 hx2 e1 e2
              clear HDY HWH HV0 HZ HN1
              go_enter Try.func7, Try.ntmps7
              go_wp2_with fail
              refine (HF.out).mono ?_
              rintro en w1 ⟨rfl, hb⟩
              have HB1 : Kp (Below w.heap.size w w1) := ⟨hb⟩
              clear hb
              go_wp2_with fail
              refine (HDE.out _ HB1.out).mono ?_
              rintro en w2 ⟨rfl, hb⟩
              have HB2 : Kp (Below w.heap.size w w2) := ⟨HB1.out.trans (hb.mono HB1.out.size)⟩
              clear hb
              go_wp2_with fail
              refine (HRD.out _ HB2.out).mono ?_
              rintro en w3 ⟨rfl, hb⟩
              have HB3 : Kp (Below w.heap.size w w3) := ⟨HB2.out.trans (hb.mono HB2.out.size)⟩
              clear hb
              go_wp2_with fail
              refine (HHO.out _ HB3.out).mono ?_
              rintro en w4 ⟨rfl, hb⟩
              have HB4 : Kp (Below w.heap.size w w4) := ⟨HB3.out.trans (hb.mono HB3.out.size)⟩
              clear hb
              go_wp2_with fail
              refine (HRH.out _ HB4.out).mono ?_
              rintro en w5 ⟨rfl, hb⟩
              have HB5 : Kp (Below w.heap.size w w5) := ⟨HB4.out.trans (hb.mono HB4.out.size)⟩
              clear hb
              go_wp2_with fail
              refine (HY1.out _ HB5.out).mono ?_
              rintro en w6 ⟨rfl, hb⟩
              have HB6 : Kp (Below w.heap.size w w6) := ⟨HB5.out.trans (hb.mono HB5.out.size)⟩
              clear hb
              go_wp2_with fail
              refine (HY2.out _ HB6.out).mono ?_
              rintro en w7 ⟨r, rfl, hr, hb⟩
              have HB7 : Kp (Below w.heap.size w w7) := ⟨HB6.out.trans (hb.mono HB6.out.size)⟩
              clear hb
              rcases hr with ⟨rfl, c', cs', hcc⟩ | ⟨rfl, rfl⟩
              · go_wp2_with fail
                refine (HX1.out _ HB7.out).mono ?_
                rintro en w8 ⟨rfl, hb⟩
                have HB8 : Kp (Below w.heap.size w w8) := ⟨HB7.out.trans (hb.mono HB7.out.size)⟩
                clear hb
                go_wp2_with fail
                refine (HX2.out _ HB8.out).mono ?_
                rintro en w9 ⟨rfl, hb⟩
                have HB9 : Kp (Below w.heap.size w w9) := ⟨HB8.out.trans (hb.mono HB8.out.size)⟩
                clear hb
                go_wp2_with fail
                refine (HAW.out _).mono ?_
                rintro en w10 ⟨rfl, hb⟩
                have HB10 : Kp (Below w.heap.size w w10) := ⟨HB9.out.trans (hb.mono HB9.out.size)⟩
                clear hb
                go_wp2
                go_ret
                exact ⟨rfl, HB10.out⟩
              · go_wp2_with fail
                refine (HX1.out _ HB7.out).mono ?_
                rintro en w8 ⟨rfl, hb⟩
                have HB8 : Kp (Below w.heap.size w w8) := ⟨HB7.out.trans (hb.mono HB7.out.size)⟩
                clear hb
                go_wp2_with fail
                refine (HX2.out _ HB8.out).mono ?_
                rintro en w9 ⟨rfl, hb⟩
                have HB9 : Kp (Below w.heap.size w w9) := ⟨HB8.out.trans (hb.mono HB8.out.size)⟩
                clear hb
                go_wp2_with fail
                refine (HAW.out _).mono ?_
                rintro en w10 ⟨rfl, hb⟩
                have HB10 : Kp (Below w.heap.size w w10) := ⟨HB9.out.trans (hb.mono HB9.out.size)⟩
                clear hb
                go_wp2
                go_ret
                exact ⟨rfl, HB10.out⟩
      · have j1 : (E == (0 : Int)) = false := by simp [hE0]
        have j2 : (E != (0 : Int)) = true := by simp [hE0]
        clear HZ HV0 HH0 HDY HWH
        go_enter Try.func7, Try.ntmps7
        go_wp2_with fail
        refine (HF.out).mono ?_
        rintro en w1 ⟨rfl, hb⟩
        have HB1 : Kp (Below w.heap.size w w1) := ⟨hb⟩
        clear hb
        go_wp2_with fail
        refine (HDE.out _ HB1.out).mono ?_
        rintro en w2 ⟨rfl, hb⟩
        have HB2 : Kp (Below w.heap.size w w2) := ⟨HB1.out.trans (hb.mono HB1.out.size)⟩
        clear hb
        go_wp2_with fail
        refine (HRD.out _ HB2.out).mono ?_
        rintro en w3 ⟨rfl, hb⟩
        have HB3 : Kp (Below w.heap.size w w3) := ⟨HB2.out.trans (hb.mono HB2.out.size)⟩
        clear hb
        go_wp2_with fail
        refine (HHO.out _ HB3.out).mono ?_
        rintro en w4 ⟨rfl, hb⟩
        have HB4 : Kp (Below w.heap.size w w4) := ⟨HB3.out.trans (hb.mono HB3.out.size)⟩
        clear hb
        go_wp2_with fail
        refine (HRH.out _ HB4.out).mono ?_
        rintro en w5 ⟨rfl, hb⟩
        have HB5 : Kp (Below w.heap.size w w5) := ⟨HB4.out.trans (hb.mono HB4.out.size)⟩
        clear hb
        go_wp2_with fail
        refine (HAW.out _).mono ?_
        rintro en w6 ⟨rfl, hb⟩
        have HB6 : Kp (Below w.heap.size w w6) := ⟨HB5.out.trans (hb.mono HB5.out.size)⟩
        clear hb
        go_wp2
        go_ret
        exact ⟨rfl, HB6.out⟩
end Go.Proofs.Ytpngmdpiefagjaa.Ln
