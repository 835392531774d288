/-
  What Data's walk comes to, in plain words: the parts that belong to a part, their labels gathered, the answer.
-/
import Derived.Test.YtjdcdakedoljbaaDoorMkDataS
import Derived.Test.YtjdcdakedoljbaaDoorMkGathered
namespace Go.Proofs.YtjdcdakedoljbaaDoor.Mk
open Go Go.RowKit Go.Maps Go.Sort

theorem gat_spec : ∀ (Ls : List (List FB)) (F : List FB), Fun F → (∀ L ∈ Ls, Fun L) → match gat F Ls with | some G => G = F ++ Ls.flatten ∧ Fun G | none => ¬ Fun (F ++ Ls.flatten)
  | [], F, hF, _ => by
    simp only [gat]
    exact ⟨by simp, hF⟩
  | L :: Ls, F, hF, hL => by
    simp only [gat]
    have h1 := clash_none (L := L) hF
    cases hc : (clashL F L).isSome with
    | true =>
      rw [if_pos rfl]
      show ¬ Fun (F ++ (L :: Ls).flatten)
      intro hf
      rw [hc] at h1
      refine absurd (h1.2 fun f hf1 g hg e => hf f (List.mem_append.2 (.inl hf1)) g (List.mem_append.2 (.inr ?_)) e) (by decide)
      rw [List.flatten_cons]
      exact List.mem_append.2 (.inl hg)
    | false =>
      rw [if_neg (by decide)]
      have h2 := gat_spec Ls (F ++ L) (fun_append hF (hL L List.mem_cons_self) hc) (fun M hM => hL M (List.mem_cons_of_mem _ hM))
      rw [List.append_assoc] at h2
      exact h2
theorem mem_anc_iff {p : List PB} (hv : validP p = true) : ∀ (n k y : Nat), k ≤ n → k < p.length → (y ∈ anc p n k ↔ y < k ∧ underB p y k = true)
  | 0, k, y, h, _ => by simp [anc]; omega
  | n + 1, k, y, hn, hk => by
    simp only [anc]
    by_cases h0 : k = 0
    · rw [if_pos h0]
      simp [h0]
    · rw [if_neg h0]
      have hp := (par_lt hv hk (by omega)).1
      have ih := mem_anc_iff hv n (par p k) y (by omega) (by omega)
      rw [List.mem_cons, ih]
      constructor
      · rintro (rfl | ⟨h1, h2⟩)
        · refine ⟨hp, ?_⟩
          rw [underB_step hv hk hp, underB_low (Nat.lt_irrefl _)]
          simp
        · exact ⟨by omega, by rw [underB_step hv hk (by omega)]; exact h2⟩
      · rintro ⟨h1, h2⟩
        rw [underB_step hv hk h1] at h2
        by_cases e : y = par p k
        · exact .inl e
        · refine .inr ⟨?_, h2⟩
          by_cases h3 : y < par p k
          · exact h3
          · rw [underB_low h3] at h2
            simp only [decide_eq_true_eq] at h2
            omega
/-- The parts that belong to a part, in the order in which Data meets them. -/
def kin (p : List PB) (k : Nat) : List Nat := k :: (ancs p k ++ bels p k p.length)
def labAt (p : List PB) (k : Nat) : List FB := (p[k]?.map PB.label).getD []
theorem labAt_of {p : List PB} {k : Nat} {x : PB} (h : p[k]? = some x) : labAt p k = x.label := by
  unfold labAt
  rw [h]
  rfl
theorem mem_kin {p : List PB} (hv : validP p = true) {k : Nat} (hk : k < p.length) (y : Nat) : y ∈ kin p k ↔ y < p.length ∧ relB p k y = true := by
  unfold kin ancs
  rw [List.mem_cons, List.mem_append, mem_anc_iff hv k k y (Nat.le_refl _) hk]
  unfold relB
  rw [Bool.or_eq_true]
  constructor
  · rintro (rfl | ⟨h1, h2⟩ | h)
    · exact ⟨hk, .inl (by rw [underB_low (Nat.lt_irrefl _)]; simp)⟩
    · exact ⟨by omega, .inr h2⟩
    · have := mem_bels h
      exact ⟨this.1, .inl this.2.2⟩
  · rintro ⟨h1, h2⟩
    rcases Nat.lt_trichotomy y k with h3 | h3 | h3
    · rcases h2 with h2 | h2
      · rw [underB_low (by omega)] at h2
        simp only [decide_eq_true_eq] at h2
        exact .inl h2
      · exact .inr (.inl ⟨h3, h2⟩)
    · exact .inl h3
    · rcases h2 with h2 | h2
      · exact .inr (.inr (mem_bels_of h1 h3 h2))
      · rw [underB_low (by omega)] at h2
        simp only [decide_eq_true_eq] at h2
        exact .inl h2.symm
theorem kin_len {p : List PB} (hv : validP p = true) {k : Nat} (hk : k < p.length) : (kin p k).length ≤ 201 := by
  have h1 := (validP_size hv).2
  have h2 := ancs_len hv k k (Nat.le_refl _) hk
  have h3 := bels_len p k p.length
  unfold kin ancs
  simp only [List.length_cons, List.length_append]
  omega
theorem kin_at {p : List PB} (hv : validP p = true) {k : Nat} (hk : k < p.length) {y : Nat} (hy : y ∈ kin p k) : ∃ x, p[y]? = some x ∧ labAt p y = x.label ∧ validL x.label = true := by
  have h1 := ((mem_kin hv hk y).1 hy).1
  have h2 : p[y]? = some p[y] := List.getElem?_eq_getElem h1
  exact ⟨p[y], h2, labAt_of h2, (validP_at hv h2).1⟩
theorem mem_flat {p : List PB} (hv : validP p = true) {k : Nat} (hk : k < p.length) (f : FB) : f ∈ ((kin p k).map (labAt p)).flatten ↔ DataOf p k p.length f := by
  rw [List.mem_flatten]
  constructor
  · rintro ⟨L, hL, hf⟩
    obtain ⟨y, hy, rfl⟩ := List.mem_map.1 hL
    obtain ⟨x, hx, e, _⟩ := kin_at hv hk hy
    have h1 := (mem_kin hv hk y).1 hy
    rw [e] at hf
    exact ⟨y, x, h1.1, hx, h1.2, hf⟩
  · rintro ⟨y, x, h1, hx, h2, hf⟩
    exact ⟨labAt p y, List.mem_map.2 ⟨y, (mem_kin hv hk y).2 ⟨h1, h2⟩, rfl⟩, by rw [labAt_of hx]; exact hf⟩
theorem flat_len8 : ∀ (Ls : List (List FB)), (∀ L ∈ Ls, L.length ≤ 8) → Ls.flatten.length ≤ 8 * Ls.length
  | [], _ => by simp
  | L :: Ls, h => by
    have h1 := flat_len8 Ls fun M hM => h M (List.mem_cons_of_mem _ hM)
    have h2 := h L List.mem_cons_self
    simp only [List.flatten_cons, List.length_append, List.length_cons]
    omega
theorem kin_flat {p : List PB} (hv : validP p = true) {k : Nat} (hk : k < p.length) : ((kin p k).map (labAt p)).flatten.length ≤ 1000000 := by
  have h1 := flat_len8 ((kin p k).map (labAt p)) fun L hL => by
    obtain ⟨y, hy, rfl⟩ := List.mem_map.1 hL
    obtain ⟨x, _, e, hl⟩ := kin_at hv hk hy
    rw [e]
    exact valid_len hl
  have h2 := kin_len hv hk
  rw [List.length_map] at h1
  omega
theorem kin_fits {p : List PB} (hv : validP p = true) (hs : FitsP p) {k : Nat} (hk : k < p.length) : ∀ L ∈ (kin p k).map (labAt p), Fits L := fun L hL => by
  obtain ⟨y, hy, rfl⟩ := List.mem_map.1 hL
  obtain ⟨x, hx, e, _⟩ := kin_at hv hk hy
  rw [e]
  exact (hs.out x (List.mem_of_getElem? hx)).2
/-- What comes of the labels gathered. -/
theorem kin_res {p : List PB} (hv : validP p = true) (hs : FitsP p) {k : Nat} (hk : k < p.length) :
    match gat [] ((kin p k).map (labAt p)) with
    | none => DataRes p k none
    | some F => ∀ ss, ss.Perm (strKeys (vals F)) → DataRes p k (some (sortedFB ss F)) := by
  have h1 := gat_spec ((kin p k).map (labAt p)) [] (fun f hf => absurd hf List.not_mem_nil) (fun L hL => by
    obtain ⟨y, hy, rfl⟩ := List.mem_map.1 hL
    obtain ⟨x, _, e, hl⟩ := kin_at hv hk hy
    rw [e]
    exact valid_fun hl)
  cases hg : gat [] ((kin p k).map (labAt p)) with
  | none =>
    rw [hg] at h1
    show ¬ OneVal _
    intro ho
    refine h1 fun f hf g hg2 e => ho f g ?_ ?_ e
    · exact (mem_flat hv hk f).1 (by simpa using hf)
    · exact (mem_flat hv hk g).1 (by simpa using hg2)
  | some F =>
    rw [hg] at h1
    obtain ⟨h2, h3⟩ := h1
    rw [List.nil_append] at h2
    have hz : Sz F := fun f hf => by
      rw [h2] at hf
      obtain ⟨L, hL, hf2⟩ := List.mem_flatten.1 hf
      exact ((kin_fits hv hs hk L hL).out f hf2).1
    intro ss hp
    exact ⟨strict_sorted hz hp, fun f => by rw [mem_sorted hz h3 hp, h2, mem_flat hv hk]⟩
/-! ### What is known of the labels gathered so far -/
theorem labI_at {w W W3 : World} {Bx U A : Nat} {pv : Value} {lvs : List Value} (h : LabI w Bx pv lvs U A W3 W) : ∃ g cap, Boxed W Bx 68 (.slice (some ⟨g, 0, none⟩) lvs.length cap) ∧ W.ownsRow (w.heap.size + 1) 35 1 (.slice (some ⟨g, 0, none⟩) lvs.length cap) lvs.length lvs ∧ w.heap.size + 1 ≤ g ∧ g < W.heap.size ∧ (g < A ∨ A + 5 ≤ g) := by
  obtain ⟨⟨g, cap, hb, ho, _, hgA⟩, _, _, _, _⟩ := h
  have := (ho.lt g (by simp [Value.ownBlock]))
  exact ⟨g, cap, hb, ho, this.1, this.2, hgA⟩
theorem labI_ob {w W W3 : World} {Bx U A : Nat} {pv : Value} {lvs : List Value} (h : LabI w Bx pv lvs U A W3 W) : ∀ v j, W.cell? ⟨Bx, 0, none⟩ = some v → v.ownBlock = some j → w.heap.size + 1 ≤ j ∧ j < W.heap.size ∧ (j < A ∨ A + 5 ≤ j) := fun v j hv hj => by
  obtain ⟨g, cap, hb, _, h1⟩ := labI_at h
  have h2 := hb.cell
  rw [hv] at h2
  simp only [Option.some.injEq] at h2
  rw [h2] at hj
  simp only [Value.ownBlock, Option.some.injEq] at hj
  subst hj
  exact h1
theorem labI_not {w W W3 : World} {Bx U A k : Nat} {pv : Value} {lvs : List Value} (h : LabI w Bx pv lvs U A W3 W) (h1 : k ≠ Bx) (h2 : k < w.heap.size + 1 ∨ (A ≤ k ∧ k < A + 5)) : NotOwn Bx W k :=
  ⟨h1, fun v hv e => by
    have := labI_ob h v k hv e
    omega⟩
theorem labI_U {w W W3 : World} {Bx U U' A : Nat} {pv : Value} {lvs : List Value} (h : LabI w Bx pv lvs U A W3 W) (hU : W.heap.size ≤ U') : LabI w Bx pv lvs U' A W3 W := by
  obtain ⟨⟨g, cap, hb, ho, _, hgA⟩, h2, h3, h4, h5⟩ := h
  have := (ho.lt g (by simp [Value.ownBlock]))
  exact ⟨⟨g, cap, hb, ho, by omega, hgA⟩, h2, h3, h4, h5⟩
/-- The labels gathered, as gathered reads them. -/
theorem labI_labels {w W W3 : World} {Bx U A b o : Nat} {pv : Value} {p : List PB} {lvF : Nat → Value} {ks : List Nat} (h : LabI w Bx pv (ks.map lvF) U A W3 W) (hl : LabV w b o p lvF) (hks : ∀ k ∈ ks, k < p.length) :
    ∃ g cap, W.cell? ⟨Bx, 0, none⟩ = some (.slice (some ⟨g, 0, none⟩) ks.length cap) ∧ Labels W (some ⟨g, 0, none⟩) (ks.map (labAt p)) := by
  obtain ⟨g, cap, hb, ho, _, hlt, _⟩ := labI_at h
  refine ⟨g, cap, by rw [← List.length_map (f := lvF)]; exact hb.cell, ⟨fun i L hL => ?_⟩⟩
  rw [List.getElem?_map] at hL
  obtain ⟨y, hy, rfl⟩ := Option.map_eq_some_iff.1 hL
  have hyp := hks y (List.mem_of_getElem? hy)
  have h1 := hl.at_ y p[y] (List.getElem?_eq_getElem hyp)
  refine ⟨g, 0, lvF y, rfl, hlt, ?_, ?_⟩
  · rw [Nat.zero_add]
    refine (ho.cellAt i ?_).trans ?_
    · rw [List.length_map, Nat.mul_one]
      exact (List.getElem?_eq_some_iff.1 hy).1
    · simp [hy]
  · rw [labAt_of (List.getElem?_eq_getElem hyp)]
    exact h1.2.below h.bel
end Go.Proofs.YtjdcdakedoljbaaDoor.Mk
