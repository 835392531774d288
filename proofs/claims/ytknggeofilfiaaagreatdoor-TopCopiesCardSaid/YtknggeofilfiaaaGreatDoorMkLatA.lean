/-
  Labels as sets of fields: what Has, Joined and Both compute, in plain words (no walk).
-/
import Derived.Test.YtknggeofilfiaaaGreatDoorMkJoined
namespace Go.Proofs.YtknggeofilfiaaaGreatDoor.Mk
open Go Go.RowKit Go.Maps Go.Sort

/-! ### Labels as sets of fields -/
def klt (p f : FB) : Prop := p.1.data.toList < f.1.data.toList
/-- Keys ascend strictly. -/
def Strict (L : List FB) : Prop := L.Pairwise klt
theorem klt_trans {a b c : FB} (h1 : klt a b) (h2 : klt b c) : klt a c := List.lt_trans h1 h2
theorem klt_irrefl (a : FB) : ¬ klt a a := List.lt_irrefl _
theorem bytes_ext {a b : ByteArray} (h : a.data.toList = b.data.toList) : a = b := by
  apply ByteArray.ext
  exact Array.ext' h
theorem strict_key {L : List FB} (h : Strict L) {f g : FB} (hf : f ∈ L) (hg : g ∈ L) (e : f.1 = g.1) : f = g := by
  induction h with
  | nil => cases hf
  | @cons x L hx _ ih =>
    rcases List.mem_cons.1 hf with h1 | h1 <;> rcases List.mem_cons.1 hg with h2 | h2
    · rw [h1, h2]
    · subst h1
      have := hx g h2
      unfold klt at this
      rw [e] at this
      exact absurd this (List.lt_irrefl _)
    · subst h2
      have := hx f h1
      unfold klt at this
      rw [e] at this
      exact absurd this (List.lt_irrefl _)
    · exact ih h1 h2
theorem strict_nodup {L : List FB} (h : Strict L) : L.Nodup := h.imp fun {a _} hab e => by subst e; exact klt_irrefl _ hab
theorem strict_ext {A B : List FB} (hA : Strict A) (hB : Strict B) (h : ∀ f, f ∈ A ↔ f ∈ B) : A = B :=
  List.Perm.eq_of_pairwise (le := klt) (fun a b _ _ h1 h2 => absurd (klt_trans h1 h2) (klt_irrefl a)) hA hB ((List.perm_ext_iff_of_nodup (strict_nodup hA) (strict_nodup hB)).2 h)
/-- Fields of one key have one value. -/
def Fun (L : List FB) : Prop := ∀ f ∈ L, ∀ g ∈ L, f.1 = g.1 → f.2 = g.2
theorem strict_fun {L : List FB} (h : Strict L) : Fun L := fun _ hf _ hg e => by rw [strict_key h hf hg e]
theorem lookOn_some {k v : ByteArray} : ∀ (L : List FB) (acc : Option ByteArray), lookOn k acc L = some v → (k, v) ∈ L ∨ acc = some v
  | [], _, h => .inr h
  | f :: L, acc, h => by
    rcases lookOn_some L _ h with h1 | h1
    · exact .inl (List.mem_cons_of_mem _ h1)
    · by_cases e : f.1 = k
      · rw [if_pos e] at h1
        injection h1 with h1
        refine .inl ?_
        rw [← e, ← h1]
        exact List.mem_cons_self
      · rw [if_neg e] at h1
        exact .inr h1
theorem lookOn_of {k v : ByteArray} : ∀ (L : List FB) (acc : Option ByteArray), (∀ g ∈ L, g.1 = k → g.2 = v) → ((k, v) ∈ L ∨ acc = some v) → lookOn k acc L = some v
  | [], _, _, h => by
    rcases h with h | h
    · cases h
    · exact h
  | f :: L, acc, hf, h => by
    refine lookOn_of L _ (fun g hg => hf g (List.mem_cons_of_mem _ hg)) ?_
    by_cases e : f.1 = k
    · rw [if_pos e, hf f List.mem_cons_self e]
      exact .inr rfl
    · rw [if_neg e]
      rcases h with h | h
      · rcases List.mem_cons.1 h with h1 | h1
        · exact absurd (by rw [← h1]) e
        · exact .inl h1
      · exact .inr h
theorem look_iff {L : List FB} (h : Fun L) {k v : ByteArray} : lookL L k = some v ↔ (k, v) ∈ L := by
  constructor
  · intro h1
    rcases lookOn_some L none h1 with h2 | h2
    · exact h2
    · cases h2
  · intro h1
    exact lookOn_of L none (fun g hg e => h g hg (k, v) h1 e) (.inl h1)
theorem look_in {L : List FB} {k v : ByteArray} (h1 : lookL L k = some v) : (k, v) ∈ L := by
  rcases lookOn_some L none h1 with h2 | h2
  · exact h2
  · cases h2
theorem lookOn_none {k : ByteArray} : ∀ (L : List FB) (acc : Option ByteArray), lookOn k acc L = none → acc = none ∧ ∀ g ∈ L, g.1 ≠ k
  | [], _, h => ⟨h, fun g hg => by cases hg⟩
  | f :: L, acc, h => by
    obtain ⟨h1, h2⟩ := lookOn_none L _ h
    by_cases e : f.1 = k
    · rw [if_pos e] at h1
      cases h1
    · rw [if_neg e] at h1
      refine ⟨h1, fun g hg => ?_⟩
      rcases List.mem_cons.1 hg with h3 | h3
      · rw [h3]; exact e
      · exact h2 g h3
theorem look_none {L : List FB} {k : ByteArray} (h : lookL L k = none) : ∀ g ∈ L, g.1 ≠ k := (lookOn_none L none h).2
theorem mem_common {A L : List FB} (h : Fun A) (f : FB) : f ∈ commonL A L ↔ f ∈ A ∧ f ∈ L := by
  induction L with
  | nil => simp [commonL]
  | cons x L ih =>
    simp only [commonL]
    split
    · rename_i e
      have hx : x ∈ A := look_in e
      rw [List.mem_cons, List.mem_cons, ih]
      constructor
      · rintro (h1 | ⟨h1, h2⟩)
        · subst h1
          exact ⟨hx, .inl rfl⟩
        · exact ⟨h1, .inr h2⟩
      · rintro ⟨h1, h2 | h2⟩
        · exact .inl h2
        · exact .inr ⟨h1, h2⟩
    · rename_i e
      have hx : x ∉ A := fun hx => e ((look_iff h).2 hx)
      rw [ih, List.mem_cons]
      constructor
      · rintro ⟨h1, h2⟩
        exact ⟨h1, .inr h2⟩
      · rintro ⟨h1, h2 | h2⟩
        · subst h2
          exact absurd h1 hx
        · exact ⟨h1, h2⟩
theorem common_sub (A L : List FB) : (commonL A L).Sublist L := by
  induction L with
  | nil => exact List.Sublist.refl _
  | cons x L ih =>
    simp only [commonL]
    split
    · exact ih.cons_cons x
    · exact ih.cons x
theorem common_all {A L : List FB} (h : Fun A) : (commonL A L).length = L.length ↔ ∀ f ∈ L, f ∈ A := by
  constructor
  · intro e f hf
    have := (common_sub A L).eq_of_length e
    rw [← this] at hf
    exact ((mem_common h f).1 hf).1
  · intro hall
    have : commonL A L = L := by
      induction L with
      | nil => rfl
      | cons x L ih =>
        simp only [commonL]
        rw [if_pos ((look_iff h).2 (hall x List.mem_cons_self)), ih fun f hf => hall f (List.mem_cons_of_mem _ hf)]
    rw [this]
theorem strict_common {A L : List FB} (h : Strict L) : Strict (commonL A L) := h.sublist (common_sub A L)
theorem common_comm {A L : List FB} (hA : Strict A) (hL : Strict L) : commonL A L = commonL L A :=
  strict_ext (strict_common hL) (strict_common hA) fun f => by rw [mem_common (strict_fun hA), mem_common (strict_fun hL), and_comm]
/-! ### What a valid label is -/
theorem valid_iff (L : List FB) : validL L = true ↔ L.length ≤ 8 ∧ (∀ f ∈ L, validF f = true) ∧ Strict L := by
  unfold validL
  rw [Bool.and_eq_true, decide_eq_true_eq, List.all_eq_true]
  constructor
  · rintro ⟨h1, h2⟩
    have hF : ∀ i (hi : i < L.length), validF L[i] = true := fun i hi => by
      have := h2 i (by simpa using hi)
      unfold okAt at this
      rw [List.getElem?_eq_getElem hi] at this
      simp only [Bool.and_eq_true] at this
      exact this.1
    have hS : ∀ i (hi : i + 1 < L.length), klt (L[i]'(by omega)) L[i + 1] := fun i hi => by
      have := h2 (i + 1) (by simpa using hi)
      unfold okAt at this
      rw [List.getElem?_eq_getElem hi] at this
      simp only [Bool.and_eq_true] at this
      have h3 := this.2
      rw [List.getElem?_eq_getElem (show i < L.length by omega)] at h3
      simp only [bytesLess_eq, decide_eq_true_eq, Lib.toList_data] at h3
      exact h3
    refine ⟨h1, fun f hf => ?_, ?_⟩
    · obtain ⟨i, hi, e⟩ := List.getElem_of_mem hf
      rw [← e]
      exact hF i hi
    · unfold Strict
      rw [List.pairwise_iff_getElem]
      intro i j hi hj hij
      obtain ⟨d, rfl⟩ : ∃ d, j = i + 1 + d := ⟨j - i - 1, by omega⟩
      clear hij
      induction d with
      | zero => exact hS i hj
      | succ d ih => exact klt_trans (ih (by omega)) (hS (i + 1 + d) hj)
  · rintro ⟨h1, h2, h3⟩
    refine ⟨h1, fun i hi => ?_⟩
    have hi' : i < L.length := by simpa using hi
    unfold okAt
    rw [List.getElem?_eq_getElem hi']
    simp only [Bool.and_eq_true]
    refine ⟨h2 _ (List.getElem_mem hi'), ?_⟩
    cases i with
    | zero => rfl
    | succ j =>
      simp only
      rw [List.getElem?_eq_getElem (show j < L.length by omega)]
      simp only [bytesLess_eq, decide_eq_true_eq, Lib.toList_data]
      exact (List.pairwise_iff_getElem.1 h3) j (j + 1) (by omega) hi' (by omega)
theorem valid_common {A L : List FB} (h : validL L = true) : validL (commonL A L) = true := by
  obtain ⟨h1, h2, h3⟩ := (valid_iff L).1 h
  exact (valid_iff _).2 ⟨Nat.le_trans (common_sub A L).length_le h1, fun f hf => h2 f ((common_sub A L).subset hf), strict_common h3⟩
theorem valid_fun {L : List FB} (h : validL L = true) : Fun L := strict_fun ((valid_iff L).1 h).2.2
/-! ### Clashes -/
theorem clash_none {A L : List FB} (h : Fun A) : (clashL A L).isSome = false ↔ ∀ f ∈ A, ∀ g ∈ L, f.1 = g.1 → f.2 = g.2 := by
  induction L with
  | nil => simp [clashL]
  | cons x L ih =>
    have hgo : (∀ g ∈ A, g.1 = x.1 → g.2 = x.2) → ((∀ f ∈ A, ∀ g ∈ x :: L, f.1 = g.1 → f.2 = g.2) ↔ ∀ f ∈ A, ∀ g ∈ L, f.1 = g.1 → f.2 = g.2) := fun hx =>
      ⟨fun h1 f hf g hg => h1 f hf g (List.mem_cons_of_mem _ hg), fun h1 f hf g hg => by
        rcases List.mem_cons.1 hg with e | e
        · rw [e]
          exact hx f hf
        · exact h1 f hf g e⟩
    simp only [clashL]
    cases hl : lookL A x.1 with
    | none =>
      have hx : ∀ g ∈ A, g.1 = x.1 → g.2 = x.2 := fun g hg e => absurd e (look_none hl g hg)
      simp only
      rw [ih, hgo hx]
    | some v =>
      have hv := look_in hl
      simp only
      by_cases e : v = x.2
      · have hx : ∀ g ∈ A, g.1 = x.1 → g.2 = x.2 := fun g hg e1 => by rw [← e]; exact h g hg (x.1, v) hv e1
        rw [if_pos e, ih, hgo hx]
      · rw [if_neg e]
        simp only [Option.isSome_some, Bool.true_eq_false, false_iff]
        intro h1
        exact e (h1 _ hv x List.mem_cons_self rfl)
theorem clash_nil (L : List FB) : clashL [] L = none := by
  induction L with
  | nil => rfl
  | cons f L ih =>
    simp only [clashL]
    have : lookL [] f.1 = none := rfl
    rw [this]
    exact ih
theorem gat_two (A L : List FB) : gat [] [A, L] = if (clashL A L).isSome then none else some (A ++ L) := by
  simp only [gat, clash_nil, List.nil_append]
  rfl
theorem clash_comm {A L : List FB} (hA : Fun A) (hL : Fun L) : (clashL A L).isSome = (clashL L A).isSome := by
  rw [Bool.eq_iff_iff]
  have h1 := clash_none (L := L) hA
  have h2 := clash_none (L := A) hL
  have h3 : (∀ f ∈ A, ∀ g ∈ L, f.1 = g.1 → f.2 = g.2) ↔ ∀ f ∈ L, ∀ g ∈ A, f.1 = g.1 → f.2 = g.2 :=
    ⟨fun h f hf g hg e => (h g hg f hf e.symm).symm, fun h f hf g hg e => (h g hg f hf e.symm).symm⟩
  rw [← Bool.not_eq_false, ← Bool.not_eq_false, h1, h2, h3]
theorem fun_append {A L : List FB} (hA : Fun A) (hL : Fun L) (h : (clashL A L).isSome = false) : Fun (A ++ L) := by
  have h1 := (clash_none hA).1 h
  intro f hf g hg e
  rcases List.mem_append.1 hf with h2 | h2 <;> rcases List.mem_append.1 hg with h3 | h3
  · exact hA f h2 g h3 e
  · exact h1 f h2 g h3 e
  · exact (h1 g h3 f h2 e.symm).symm
  · exact hL f h2 g h3 e
/-! ### The joined label -/
theorem has_vals (k : ByteArray) : ∀ (L : List FB) (D : DataW Unit) (acc : Option ByteArray), IsMap D → has D (keyL k) = acc.isSome →
    has (L.foldl (fun D f => D.put (keyL f.1) (litD f.2)) D) (keyL k) = (lookOn k acc L).isSome
  | [], _, _, _, h => h
  | f :: L, D, acc, hD, h => by
    refine has_vals k L (D.put (keyL f.1) (litD f.2)) _ (hD.put _ _) ?_
    by_cases e : f.1 = k
    · rw [if_pos e, e, has_put_same hD (isKey k)]
      rfl
    · rw [if_neg e, has_put_other (fun h2 => e (keyL_inj h2).symm)]
      exact h
def Sz (L : List FB) : Prop := ∀ f ∈ L, f.1.size ≤ maxLen
theorem vals_put {L : List FB} (hs : Sz L) : ∃ es, vals L = .map es ∧ es.Pairwise (fun p q => p.1 ≠ q.1) ∧ ∀ p ∈ es, ∃ x, p.1 = .string x := by
  obtain ⟨es, he, hp, hk⟩ := vals_canonK L hs
  refine ⟨es, he, apart_of_rising hp, fun p hp => ?_⟩
  obtain ⟨v, hv⟩ := hk p hp
  obtain ⟨x, _, hx, _⟩ := Maps.keyOf_str Tryz.underlying9 hv
  exact ⟨x, hx⟩
theorem mem_keys (F : List FB) (hs : Sz F) (s : List UInt8) : s ∈ strKeys (vals F) ↔ (lookL F ⟨s.toArray⟩).isSome = true := by
  have h := has_vals ⟨s.toArray⟩ F (.map []) none isMap_empty rfl
  have h' : has (vals F) (keyL ⟨s.toArray⟩) = (lookL F ⟨s.toArray⟩).isSome := h
  obtain ⟨es, he, _, hk⟩ := vals_put hs
  rw [← h', he, has_eq, List.any_eq_true]
  show s ∈ es.map (fun p => strOf p.1) ↔ _
  rw [List.mem_map]
  constructor
  · rintro ⟨p, hp, e⟩
    obtain ⟨x, hx⟩ := hk p hp
    refine ⟨p, hp, ?_⟩
    rw [hx] at e ⊢
    have e2 : x = s := e
    subst e2
    exact WideAt.sameKey_self (isKey ⟨x.toArray⟩)
  · rintro ⟨p, hp, e⟩
    refine ⟨p, hp, ?_⟩
    have : p.1 = keyL ⟨s.toArray⟩ := WideAt.sameKey_eq e
    rw [this]
    rfl
theorem nodup_keys (F : List FB) (hs : Sz F) : (strKeys (vals F)).Nodup := by
  obtain ⟨es, he, hp, hk⟩ := vals_put hs
  rw [he]
  show (es.map fun p => strOf p.1).Nodup
  refine List.pairwise_map.2 (hp.imp_of_mem fun {p q} hp' hq' hne e => hne ?_)
  obtain ⟨a, ha⟩ := hk p hp'
  obtain ⟨b, hb⟩ := hk q hq'
  rw [ha, hb] at e ⊢
  exact congrArg _ e
theorem fb_key (F : List FB) (s : List UInt8) : (fbOf F s).1.data.toList = s := rfl
theorem strict_sorted {F : List FB} (hs : Sz F) {ss : List (List UInt8)} (h : ss.Perm (strKeys (vals F))) : Strict (sortedFB ss F) := by
  have tr : ∀ a b c : List UInt8, leB a b = true → leB b c = true → leB a c = true := fun a b c h1 h2 => by simp only [leB, decide_eq_true_eq] at *; exact List.le_trans h1 h2
  have tot : ∀ a b : List UInt8, (leB a b || leB b a) = true := fun a b => by simp only [leB, Bool.or_eq_true, decide_eq_true_eq]; exact List.le_total a b
  have h1 := List.pairwise_mergeSort tr tot ss
  have h2 : (ss.mergeSort leB).Nodup := (List.mergeSort_perm ss leB).nodup_iff.2 (h.nodup_iff.2 (nodup_keys F hs))
  unfold Strict sortedFB
  refine List.pairwise_map.2 ((h1.and h2).imp fun {a b} hab => ?_)
  obtain ⟨h3, h4⟩ := hab
  simp only [leB, decide_eq_true_eq] at h3
  show a < b
  exact Decidable.byContradiction fun h5 => h4 (List.le_antisymm h3 (List.not_lt.1 h5))
theorem mem_sorted {F : List FB} (hz : Sz F) (hF : Fun F) {ss : List (List UInt8)} (h : ss.Perm (strKeys (vals F))) (f : FB) : f ∈ sortedFB ss F ↔ f ∈ F := by
  unfold sortedFB
  rw [List.mem_map]
  constructor
  · rintro ⟨s, hs, e⟩
    have h1 := (mem_keys F hz s).1 (h.mem_iff.1 (List.mem_mergeSort.1 hs))
    obtain ⟨v, hv⟩ := Option.isSome_iff_exists.1 h1
    rw [← e]
    unfold fbOf
    rw [hv]
    exact look_in hv
  · intro hf
    have hl : lookL F f.1 = some f.2 := (look_iff hF).2 hf
    refine ⟨f.1.data.toList, List.mem_mergeSort.2 (h.mem_iff.2 ((mem_keys F hz _).2 ?_)), ?_⟩
    · show (lookL F f.1).isSome = true
      rw [hl]
      rfl
    · show (f.1, (lookL F f.1).getD ⟨#[]⟩) = f
      rw [hl]
      rfl
theorem len_sorted (ss : List (List UInt8)) (F : List FB) : (sortedFB ss F).length = ss.length := by
  unfold sortedFB
  rw [List.length_map, List.length_mergeSort]
/-- A label that has just the fields of both. -/
structure IsJoin (A L J : List FB) : Prop where
  strict : Strict J
  mem : ∀ f, f ∈ J ↔ f ∈ A ∨ f ∈ L
theorem IsJoin.unique {A L J K : List FB} (h1 : IsJoin A L J) (h2 : IsJoin L A K) : J = K :=
  strict_ext h1.strict h2.strict fun f => by rw [h1.mem, h2.mem, or_comm]
theorem isJoin_sorted {A L : List FB} (hz : Sz (A ++ L)) (hA : Fun A) (hL : Fun L) (hc : (clashL A L).isSome = false) {ss : List (List UInt8)} (h : ss.Perm (strKeys (vals (A ++ L)))) : IsJoin A L (sortedFB ss (A ++ L)) :=
  ⟨strict_sorted hz h, fun f => by rw [mem_sorted hz (fun_append hA hL hc) h, List.mem_append]⟩
theorem IsJoin.valid {A L J : List FB} (h : IsJoin A L J) (hA : validL A = true) (hL : validL L = true) (h8 : J.length ≤ 8) : validL J = true :=
  (valid_iff J).2 ⟨h8, fun f hf => by
    rcases (h.mem f).1 hf with h1 | h1
    · exact ((valid_iff A).1 hA).2.1 f h1
    · exact ((valid_iff L).1 hL).2.1 f h1, h.strict⟩
/-- Has, as the program says it. -/
def hasB (A L : List FB) : Bool := validL A && validL L && decide ((commonL A L).length = L.length)
theorem has_iff {A L : List FB} : hasB A L = true ↔ validL A = true ∧ validL L = true ∧ ∀ f ∈ L, f ∈ A := by
  unfold hasB
  rw [Bool.and_eq_true, Bool.and_eq_true, decide_eq_true_eq]
  constructor
  · rintro ⟨⟨h1, h2⟩, h3⟩
    exact ⟨h1, h2, (common_all (valid_fun h1)).1 h3⟩
  · rintro ⟨h1, h2, h3⟩
    exact ⟨⟨h1, h2⟩, (common_all (valid_fun h1)).2 h3⟩
theorem join_has {A L J C : List FB} (h : IsJoin A L J) (hJ : validL J = true) (hA : validL A = true) (hL : validL L = true) (hC : validL C = true) : hasB C J = (hasB C A && hasB C L) := by
  rw [Bool.eq_iff_iff, Bool.and_eq_true, has_iff, has_iff, has_iff]
  constructor
  · rintro ⟨_, _, h3⟩
    exact ⟨⟨hC, hA, fun f hf => h3 f ((h.mem f).2 (.inl hf))⟩, hC, hL, fun f hf => h3 f ((h.mem f).2 (.inr hf))⟩
  · rintro ⟨⟨_, _, h3⟩, _, _, h4⟩
    refine ⟨hC, hJ, fun f hf => ?_⟩
    rcases (h.mem f).1 hf with h1 | h1
    · exact h3 f h1
    · exact h4 f h1
theorem join_left {A L J : List FB} (h : IsJoin A L J) (hJ : validL J = true) (hA : validL A = true) : hasB J A = true := has_iff.2 ⟨hJ, hA, fun f hf => (h.mem f).2 (.inl hf)⟩
theorem join_right {A L J : List FB} (h : IsJoin A L J) (hJ : validL J = true) (hL : validL L = true) : hasB J L = true := has_iff.2 ⟨hJ, hL, fun f hf => (h.mem f).2 (.inr hf)⟩
theorem both_left {A L : List FB} (hA : validL A = true) (hL : validL L = true) : hasB A (commonL A L) = true := has_iff.2 ⟨hA, valid_common hL, fun f hf => ((mem_common (valid_fun hA) f).1 hf).1⟩
theorem both_right {A L : List FB} (hA : validL A = true) (hL : validL L = true) : hasB L (commonL A L) = true := has_iff.2 ⟨hL, valid_common hL, fun f hf => ((mem_common (valid_fun hA) f).1 hf).2⟩
theorem both_has {A L C : List FB} (hA : validL A = true) (hL : validL L = true) (hC : validL C = true) : hasB (commonL A L) C = (hasB A C && hasB L C) := by
  rw [Bool.eq_iff_iff, Bool.and_eq_true, has_iff, has_iff, has_iff]
  constructor
  · rintro ⟨_, _, h3⟩
    exact ⟨⟨hA, hC, fun f hf => ((mem_common (valid_fun hA) f).1 (h3 f hf)).1⟩, hL, hC, fun f hf => ((mem_common (valid_fun hA) f).1 (h3 f hf)).2⟩
  · rintro ⟨⟨_, _, h3⟩, _, _, h4⟩
    exact ⟨valid_common hL, hC, fun f hf => (mem_common (valid_fun hA) f).2 ⟨h3 f hf, h4 f hf⟩⟩
end Go.Proofs.YtknggeofilfiaaaGreatDoor.Mk
