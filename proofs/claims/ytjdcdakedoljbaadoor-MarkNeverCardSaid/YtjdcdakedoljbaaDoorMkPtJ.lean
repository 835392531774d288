/-
  The data of a part, in plain words; the walk of the reference's Data.
-/
import Derived.Test.YtjdcdakedoljbaaDoorMkPtI
namespace Go.Proofs.YtjdcdakedoljbaaDoor.Mk
open Go Go.RowKit Go.Maps Go.Sort

/-- Two parts of which one was taken from the other, directly or not. -/
def relB (p : List PB) (i k : Nat) : Bool := underB p i k || underB p k i
/-- A field of one of the first n parts that belong to part i. -/
def DataOf (p : List PB) (i n : Nat) (f : FB) : Prop := ∃ k x, k < n ∧ p[k]? = some x ∧ relB p i k = true ∧ f ∈ x.label
def OneVal (U : FB → Prop) : Prop := ∀ f g, U f → U g → f.1 = g.1 → f.2 = g.2
/-- What Data answers: the fields by ascending keys, or none where a key has two values. -/
def DataRes (p : List PB) (i : Nat) : Option (List FB) → Prop
  | some O => Strict O ∧ ∀ f, f ∈ O ↔ DataOf p i p.length f
  | none => ¬ OneVal (DataOf p i p.length)
theorem dataRes_unique {p : List PB} {i : Nat} {r s : Option (List FB)} (h1 : DataRes p i r) (h2 : DataRes p i s) : r = s := by
  have hone : ∀ O : List FB, Strict O → (∀ f, f ∈ O ↔ DataOf p i p.length f) → OneVal (DataOf p i p.length) := fun O hO hm f g hf hg e =>
    strict_fun hO f ((hm f).2 hf) g ((hm g).2 hg) e
  match r, s, h1, h2 with
  | none, none, _, _ => rfl
  | some O, none, h1, h2 => exact absurd (hone O h1.1 h1.2) h2
  | none, some O, h1, h2 => exact absurd (hone O h2.1 h2.2) h1
  | some O, some M, h1, h2 => rw [strict_ext h1.1 h2.1 fun f => by rw [h1.2, h2.2]]
def encData : Option (List FB) → List FB
  | some O => O
  | none => []
def errData : Option (List FB) → Int
  | some _ => 0
  | none => 10
theorem dataOf_mono {p : List PB} {i n m : Nat} (h : n ≤ m) {f : FB} (hf : DataOf p i n f) : DataOf p i m f := by
  obtain ⟨k, x, h1, h2⟩ := hf
  exact ⟨k, x, by omega, h2⟩
theorem dataOf_next {p : List PB} {i n : Nat} {x : PB} (hx : p[n]? = some x) (f : FB) : DataOf p i (n + 1) f ↔ DataOf p i n f ∨ relB p i n = true ∧ f ∈ x.label := by
  constructor
  · rintro ⟨k, y, h1, h2, h3, h4⟩
    by_cases e : k = n
    · subst e
      rw [hx] at h2
      simp only [Option.some.injEq] at h2
      subst h2
      exact .inr ⟨h3, h4⟩
    · exact .inl ⟨k, y, by omega, h2, h3, h4⟩
  · rintro (h | ⟨h3, h4⟩)
    · exact dataOf_mono (by omega) h
    · exact ⟨n, x, by omega, hx, h3, h4⟩
/-- The reference's data so far. -/
structure Gath (p : List PB) (i n : Nat) (O : List FB) : Prop where
  strict : Strict O
  mem : ∀ f, f ∈ O ↔ DataOf p i n f
  len : O.length ≤ 8 * n
theorem gath_skip {p : List PB} {i n : Nat} {O : List FB} {x : PB} (h : Gath p i n O) (hx : p[n]? = some x) (hr : relB p i n = false) : Gath p i (n + 1) O :=
  ⟨h.strict, fun f => by rw [dataOf_next hx, hr]; simp [h.mem], by have := h.len; omega⟩
theorem gath_join {p : List PB} {i n : Nat} {O M : List FB} {x : PB} (h : Gath p i n O) (hx : p[n]? = some x) (hr : relB p i n = true) (hj : IsJoin O x.label M) (hl : M.length ≤ O.length + 8) : Gath p i (n + 1) M :=
  ⟨hj.strict, fun f => by rw [dataOf_next hx, hj.mem, h.mem, hr]; simp, by have := h.len; omega⟩
theorem gath_full {p : List PB} {i n : Nat} {O : List FB} (hv : validP p = true) (h : Gath p i n O) : Full O := fun f hf => by
  obtain ⟨k, x, _, hx, _, hf2⟩ := (h.mem f).1 hf
  exact valid_full (validP_at hv hx).1 f hf2
theorem gath_start (p : List PB) (i : Nat) : Gath p i 0 [] := ⟨List.Pairwise.nil, fun _ => Iff.intro (fun h => absurd h List.not_mem_nil) (fun ⟨_, _, h, _⟩ => absurd h (Nat.not_lt_zero _)), Nat.zero_le _⟩
theorem sub_len : ∀ (M N : List FB), M.Nodup → (∀ f ∈ M, f ∈ N) → M.length ≤ N.length
  | [], _, _, _ => Nat.zero_le _
  | f :: M, N, hd, hs => by
    obtain ⟨s, t, e⟩ := List.append_of_mem (hs f List.mem_cons_self)
    have hf : f ∉ M := (List.nodup_cons.1 hd).1
    have h1 := sub_len M (s ++ t) (List.nodup_cons.1 hd).2 fun g hg => by
      have h2 := hs g (List.mem_cons_of_mem _ hg)
      rw [e, List.mem_append, List.mem_cons] at h2
      rcases h2 with h3 | h3 | h3
      · exact List.mem_append.2 (.inl h3)
      · rw [h3] at hg
        exact absurd hg hf
      · exact List.mem_append.2 (.inr h3)
    rw [e]
    simp only [List.length_append, List.length_cons] at h1 ⊢
    omega
theorem join_len {A L M : List FB} (h : IsJoin A L M) : M.length ≤ A.length + L.length := by
  have h1 : M.Nodup := strict_nodup h.strict
  have h2 : ∀ f ∈ M, f ∈ A ++ L := fun f hf => List.mem_append.2 ((h.mem f).1 hf)
  have h3 := sub_len M (A ++ L) h1 h2
  rw [List.length_append] at h3
  exact h3
theorem gath_clash {p : List PB} {i n : Nat} {O : List FB} {x : PB} (hv : validP p = true) (h : Gath p i n O) (hx : p[n]? = some x) (hr : relB p i n = true) (hc : rclash x.label O ≠ ⟨#[]⟩) : DataRes p i none := by
  have hvx := (validP_at hv hx).1
  obtain ⟨⟨v, u, h1, h2, h3⟩, _⟩ := rclash_least h.strict (valid_fun hvx) (valid_full hvx) (gath_full hv h) hc
  intro hone
  have hn := (List.getElem?_eq_some_iff.1 hx).1
  exact h3 (hone _ _ (dataOf_mono (by omega) ((h.mem _).1 h1)) ⟨n, x, hn, hx, hr, h2⟩ rfl)
theorem gath_agree {p : List PB} {i n : Nat} {O : List FB} {x : PB} (hv : validP p = true) (h : Gath p i n O) (hx : p[n]? = some x) (hc : rclash x.label O = ⟨#[]⟩) : ∀ f ∈ O, ∀ g ∈ x.label, f.1 = g.1 → f.2 = g.2 := by
  have hvx := (validP_at hv hx).1
  exact (rclash_empty (valid_fun hvx) (valid_full hvx) (gath_full hv h)).1 hc
theorem gath_end {p : List PB} {i : Nat} {O : List FB} (h : Gath p i p.length O) : DataRes p i (some O) := ⟨h.strict, h.mem⟩
/-- What Data ends in, behind the error of its arguments. -/
def DataPost (p : List PB) (i E : Int) (e : Ending) (w' : World) : Prop :=
  if E = 0 then ∃ r u, DataRes p i.toNat r ∧ e = .returned (.tuple #[u, .int .i64 (errData r)]) ∧ RL w' u (encData r) else e = .returned (.tuple #[.slice none 0 0, .int .i64 E])
theorem dataPost_ok {p : List PB} {k : Nat} {r : Option (List FB)} {u : Value} {e : Ending} {w' : World} (h1 : DataRes p k r) (he : e = .returned (.tuple #[u, .int .i64 (errData r)])) (hr : RL w' u (encData r)) : DataPost p (k : Int) 0 e w' := by
  unfold DataPost
  rw [if_pos rfl]
  exact ⟨r, u, by simpa using h1, he, hr⟩
theorem dataPost_no {p : List PB} {i E : Int} {e : Ending} {w' : World} (hE : E ≠ 0) (he : e = .returned (.tuple #[.slice none 0 0, .int .i64 E])) : DataPost p i E e w' := by
  unfold DataPost
  rw [if_neg hE]
  exact he
set_option maxRecDepth 100000 in
set_option maxHeartbeats 4000000 in
theorem refData_any (v : Value) (p : List PB) (i : Int) (w : World) (h : RP w v p) (hs : FitsP p) (hn : p.length ≤ maxLen) :
    Calls Tryd.prog 40 #[v, .int .i64 i] w fun e w' => DataPost p i (askE p i) e w' ∧ Below w.heap.size w w' := by
  have H1 : Kq _ := ⟨asked_any v p i w h hs hn⟩
  have HZ : Kq (askE p i = 0 → validP p = true ∧ ∃ k : Nat, i = (k : Int) ∧ k < p.length) := ⟨askE_zero⟩
  have HU : Kq (∀ (k j : Nat) W, Below w.heap.size w W → validP p = true → k < p.length → _) := ⟨fun k j W hW hv hk => under_any v p k j W (h.below hW) ⟨hv⟩ hk⟩
  obtain ⟨g, cap, rfl, hcap, hc⟩ := h
  have HC := Lib.hid hc
  obtain ⟨E, hE⟩ : ∃ E, askE p i = E := ⟨_, rfl⟩
  rw [hE] at H1 HZ ⊢
  clear hc hE
  go_enter Tryd.func40, Tryd.ntmps40
  go_wp2_with fail
  refine Calls.mono H1.out ?_
  rintro e w1 ⟨rfl, hb1⟩
  have HB1 : Kq (Below w.heap.size w w1) := ⟨hb1⟩
  clear hb1
  by_cases hE : E = 0
  · subst hE
    obtain ⟨hv, k0, rfl, hk0⟩ := HZ.out rfl
    have HV : Kq (validP p = true) := ⟨hv⟩
    have hl100 := (validP_size hv).2
    clear hv HZ hn
    go_wp2
    go_loopw [18, 7] (fun a v wr => ∃ (k : Nat) (O : List FB), k ≤ p.length ∧ a = .int .i64 (k : Int) ∧ RL wr v O ∧ Kq (Gath p k0 k O) ∧ Below w.heap.size w wr) (fun a _ _ => p.length - (intOf a).toNat)
    case atStart => exact ⟨0, [], Nat.zero_le _, rfl, RL.nil _, ⟨gath_start p k0⟩, HB1.out⟩
    case round =>
      obtain ⟨k, O, hk, rfl, hrl, HG, hb⟩ := hrel
      have HB : Kq (Below w.heap.size w wr) := ⟨hb⟩
      have HRL : Kq (RL wr u7 O) := ⟨hrl⟩
      obtain ⟨gO, cO, rfl⟩ := hrl.shape
      clear hb hrl
      obtain ⟨W0, rfl⟩ : ∃ W0, W0 = wr := ⟨_, rfl⟩
      by_cases hlt : k < p.length
      · obtain ⟨x, hx⟩ : ∃ x, p[k]? = some x := ⟨p[k], List.getElem?_eq_getElem hlt⟩
        obtain ⟨b, o, lv, hg, hbl, hb1, hb2, hb3, hlab⟩ := HC.out k x hx
        subst hg
        have hfit := hs.out x (List.mem_of_getElem? hx)
        have c1 : W0.cell? ⟨b, o + k * 3, none⟩ = some (.string x.sign) := (HB.out.cell (p := ⟨b, _, none⟩) hbl).trans hb1
        have c2 : W0.cell? ⟨b, o + k * 3 + 1, none⟩ = some (.int .i64 x.from_) := (HB.out.cell (p := ⟨b, _, none⟩) hbl).trans hb2
        have c3 : W0.cell? ⟨b, o + k * 3 + 2, none⟩ = some lv := (HB.out.cell (p := ⟨b, _, none⟩) hbl).trans hb3
        have HLX : Kq (RL w lv x.label) := ⟨hlab⟩
        obtain ⟨g2, cl2, rfl⟩ := hlab.shape
        obtain ⟨W, hW⟩ : ∃ W, W0.alloc (Obj.cells #[Value.string x.sign, .int .i64 x.from_, .slice g2 x.label.length cl2] 52) = W := ⟨_, rfl⟩
        have b3 : W.cell? ⟨W0.heap.size, 2, none⟩ = some (.slice g2 x.label.length cl2) := by rw [← hW]; simp [go_sem]
        have HBW : Kq (Below w.heap.size w W) := ⟨by rw [← hW]; exact HB.out.alloc HB.out.size _⟩
        have HRLW : Kq (RL W (.slice gO O.length cO) O) := ⟨HRL.out.below (by rw [← hW]; exact (Below.refl _ W0).alloc (Nat.le_refl _) _)⟩
        have HX : Kq (p[k]? = some x) := ⟨hx⟩
        have hO : O.length ≤ 800 := by have := HG.out.len; omega
        have HU1 : Kq _ := ⟨HU.out k k0 W HBW.out HV.out hlt⟩
        have HU2 : Kq _ := ⟨HU.out k0 k W HBW.out HV.out hk0⟩
        have HRC : Kq _ := ⟨rclash_any (.slice gO O.length cO) (.slice g2 x.label.length cl2) O x.label W HRLW.out (HLX.out.below HBW.out) (by unfold maxLen; omega) hfit.len⟩
        have HREL : Kq (relB p k0 k = (underB p k0 k || underB p k k0)) := ⟨rfl⟩
        obtain ⟨A, hA⟩ : ∃ A, underB p k0 k = A := ⟨_, rfl⟩
        obtain ⟨B, hB⟩ : ∃ B, underB p k k0 = B := ⟨_, rfl⟩
        obtain ⟨u, hu⟩ : ∃ u, rclash x.label O = u := ⟨_, rfl⟩
        rw [hA] at HU1 HREL
        rw [hB] at HU2 HREL
        rw [hu] at HRC
        have HUE : Kq (rclash x.label O = u) := ⟨hu⟩
        clear hb1 hb2 hb3 hx hlab hA hB hu hfit
        cases A with
        | false =>
          go_wp2_with fail
          refine Calls.mono HU1.out ?_
          rintro e w' ⟨rfl, rfl⟩
          go_wp2_with fail
          refine Calls.mono HU2.out ?_
          rintro e w' ⟨rfl, rfl⟩
          cases B with
          | false =>
            have HG2 : Kq (Gath p k0 (k + 1) O) := ⟨gath_skip HG.out HX.out (by rw [HREL.out]; rfl)⟩
            go_wp2
            go_roundw
            case rel => exact ⟨k + 1, O, by omega, by go_num, HRLW.out, HG2, HBW.out⟩
            case measure => simp [intOf]; omega
          | true =>
            have hr : relB p k0 k = true := by rw [HREL.out]; simp
            have HR : Kq (relB p k0 k = true) := ⟨hr⟩
            clear hr
            go_wp2_with fail
            refine Calls.mono HRC.out ?_
            rintro e w4 ⟨rfl, hb4⟩
            have HB4 : Kq (Below w.heap.size w w4) := ⟨HBW.out.trans (hb4.mono HBW.out.size)⟩
            have HRL4 : Kq (RL w4 (.slice gO O.length cO) O) := ⟨HRLW.out.below hb4⟩
            have d3 : w4.cell? ⟨W0.heap.size, 2, none⟩ = some (.slice g2 x.label.length cl2) := (hb4.cell (p := ⟨W0.heap.size, 2, none⟩) (by rw [← hW]; simp)).trans b3
            clear hb4 HRC HU1 HU2 b3
            by_cases he : u = ⟨#[]⟩
            · have hcl := HUE.out.trans he
              have hvx := (validP_at HV.out HX.out).1
              have HMG : Kq _ := ⟨rmerged_any (.slice gO O.length cO) (.slice g2 x.label.length cl2) O x.label w4 HRL4.out (HLX.out.below HB4.out) HG.out.strict (gath_full HV.out HG.out) ((valid_iff _).1 hvx).2.2 (gath_agree HV.out HG.out HX.out hcl) (by have := valid_len hvx; omega)⟩
              have HL8 : Kq (x.label.length ≤ 8) := ⟨valid_len hvx⟩
              subst he
              have t1 := isEmpty_yes
              clear hcl hvx HUE
              go_wp2_with fail
              refine Calls.mono HMG.out ?_
              rintro e w5 ⟨⟨v5, M, rfl, hr5, hj5⟩, hb5⟩
              have HB5 : Kq (Below w.heap.size w w5) := ⟨HB4.out.trans (hb5.mono HB4.out.size)⟩
              have HR5 : Kq (RL w5 v5 M) := ⟨hr5⟩
              have HG2 : Kq (Gath p k0 (k + 1) M) := ⟨gath_join HG.out HX.out HR.out hj5 (by have := join_len hj5; have := HL8.out; omega)⟩
              clear hr5 hj5 hb5 HMG
              go_wp2
              go_roundw
              case rel => exact ⟨k + 1, M, by omega, by go_num, HR5.out, HG2, HB5.out⟩
              case measure => simp [intOf]; omega
            · have t1 := isEmpty_no he
              have HD : Kq (DataRes p k0 none) := ⟨gath_clash HV.out HG.out HX.out HR.out (by rw [HUE.out]; exact he)⟩
              clear he HUE
              go_wp2
              go_ret2
              exact ⟨dataPost_ok HD.out rfl (RL.nil _), HB4.out⟩
        | true =>
          go_wp2_with fail
          refine Calls.mono HU1.out ?_
          rintro e w' ⟨rfl, rfl⟩
          have hr : relB p k0 k = true := by rw [HREL.out]; simp
          have HR : Kq (relB p k0 k = true) := ⟨hr⟩
          clear hr
          go_wp2_with fail
          refine Calls.mono HRC.out ?_
          rintro e w4 ⟨rfl, hb4⟩
          have HB4 : Kq (Below w.heap.size w w4) := ⟨HBW.out.trans (hb4.mono HBW.out.size)⟩
          have HRL4 : Kq (RL w4 (.slice gO O.length cO) O) := ⟨HRLW.out.below hb4⟩
          have d3 : w4.cell? ⟨W0.heap.size, 2, none⟩ = some (.slice g2 x.label.length cl2) := (hb4.cell (p := ⟨W0.heap.size, 2, none⟩) (by rw [← hW]; simp)).trans b3
          clear hb4 HRC HU1 HU2 b3
          by_cases he : u = ⟨#[]⟩
          · have hcl := HUE.out.trans he
            have hvx := (validP_at HV.out HX.out).1
            have HMG : Kq _ := ⟨rmerged_any (.slice gO O.length cO) (.slice g2 x.label.length cl2) O x.label w4 HRL4.out (HLX.out.below HB4.out) HG.out.strict (gath_full HV.out HG.out) ((valid_iff _).1 hvx).2.2 (gath_agree HV.out HG.out HX.out hcl) (by have := valid_len hvx; omega)⟩
            have HL8 : Kq (x.label.length ≤ 8) := ⟨valid_len hvx⟩
            subst he
            have t1 := isEmpty_yes
            clear hcl hvx HUE
            go_wp2_with fail
            refine Calls.mono HMG.out ?_
            rintro e w5 ⟨⟨v5, M, rfl, hr5, hj5⟩, hb5⟩
            have HB5 : Kq (Below w.heap.size w w5) := ⟨HB4.out.trans (hb5.mono HB4.out.size)⟩
            have HR5 : Kq (RL w5 v5 M) := ⟨hr5⟩
            have HG2 : Kq (Gath p k0 (k + 1) M) := ⟨gath_join HG.out HX.out HR.out hj5 (by have := join_len hj5; have := HL8.out; omega)⟩
            clear hr5 hj5 hb5 HMG
            go_wp2
            go_roundw
            case rel => exact ⟨k + 1, M, by omega, by go_num, HR5.out, HG2, HB5.out⟩
            case measure => simp [intOf]; omega
          · have t1 := isEmpty_no he
            have HD : Kq (DataRes p k0 none) := ⟨gath_clash HV.out HG.out HX.out HR.out (by rw [HUE.out]; exact he)⟩
            clear he HUE
            go_wp2
            go_ret2
            exact ⟨dataPost_ok HD.out rfl (RL.nil _), HB4.out⟩
      · have hkl : k = p.length := by omega
        have HD : Kq (DataRes p k0 (some O)) := ⟨by have := HG.out; rw [hkl] at this; exact gath_end this⟩
        clear hkl
        go_wp2
        go_ret2
        exact ⟨dataPost_ok HD.out rfl HRL.out, HB.out⟩
  · have HE : Kq (E ≠ 0) := ⟨hE⟩
    have t1 : (E == 0) = false := by simpa using hE
    have t2 : (E != 0) = true := by simpa using hE
    clear hE HZ
    go_wp2
    go_ret2
    exact ⟨dataPost_no HE.out rfl, HB1.out⟩
end Go.Proofs.YtjdcdakedoljbaaDoor.Mk
