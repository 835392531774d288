/-
  The reference's functions on labels, in plain words (no walk).
-/
import Derived.Test.YtjdcdakedoljbaaDoorMkSameL
namespace Go.Proofs.YtjdcdakedoljbaaDoor.Mk
open Go Go.RowKit Go.Maps Go.Sort

/-! ### The reference's functions on labels, in plain words -/
/-- The value of a key, empty if there is none. -/
def rval : List FB → ByteArray → ByteArray
  | [], _ => ⟨#[]⟩
  | f :: L, k => if f.1 = k then f.2 else rval L k
theorem rval_none {L : List FB} {k : ByteArray} (h : ∀ g ∈ L, g.1 ≠ k) : rval L k = ⟨#[]⟩ := by
  induction L with
  | nil => rfl
  | cons f L ih =>
    simp only [rval]
    rw [if_neg (h f List.mem_cons_self)]
    exact ih fun g hg => h g (List.mem_cons_of_mem _ hg)
theorem rval_in {L : List FB} {k v : ByteArray} (hf : Fun L) (h : (k, v) ∈ L) : rval L k = v := by
  induction L with
  | nil => cases h
  | cons f L ih =>
    simp only [rval]
    by_cases e : f.1 = k
    · rw [if_pos e]
      exact hf f List.mem_cons_self (k, v) h e
    · rw [if_neg e]
      refine ih (fun a ha b hb => hf a (List.mem_cons_of_mem _ ha) b (List.mem_cons_of_mem _ hb)) ?_
      rcases List.mem_cons.1 h with h1 | h1
      · exact absurd (by rw [← h1]) e
      · exact h1
theorem rval_look {L : List FB} (hf : Fun L) (k : ByteArray) : rval L k = (lookL L k).getD ⟨#[]⟩ := by
  cases hl : lookL L k with
  | none => exact rval_none (look_none hl)
  | some v => exact rval_in hf (look_in hl)
/-- Values and keys are not empty. -/
def Full (L : List FB) : Prop := ∀ f ∈ L, f.1 ≠ ⟨#[]⟩ ∧ f.2 ≠ ⟨#[]⟩
theorem rval_iff {L : List FB} (hf : Fun L) {k v : ByteArray} (hv : v ≠ ⟨#[]⟩) : rval L k = v ↔ (k, v) ∈ L := by
  rw [rval_look hf]
  constructor
  · intro h
    cases hl : lookL L k with
    | none =>
      rw [hl] at h
      exact absurd h.symm hv
    | some u =>
      rw [hl] at h
      have : u = v := h
      rw [← this]
      exact look_in hl
  · intro h
    rw [(look_iff hf).2 h]
    rfl
theorem rval_empty {L : List FB} (hF : Full L) {k : ByteArray} : rval L k = ⟨#[]⟩ ↔ ∀ g ∈ L, g.1 ≠ k := by
  constructor
  · intro h
    induction L with
    | nil => exact fun g hg => by cases hg
    | cons f L ih =>
      simp only [rval] at h
      by_cases e : f.1 = k
      · rw [if_pos e] at h
        exact absurd h (hF f List.mem_cons_self).2
      · rw [if_neg e] at h
        intro g hg
        rcases List.mem_cons.1 hg with h1 | h1
        · rw [h1]; exact e
        · exact ih (fun a ha => hF a (List.mem_cons_of_mem _ ha)) h g h1
  · exact rval_none
/-- covers: all fields of the second are some of the first. -/
def coversL (A : List FB) : List FB → Bool
  | [] => true
  | f :: L => decide (rval A f.1 = f.2) && coversL A L
theorem covers_all (A L : List FB) : coversL A L = L.all fun f => decide (rval A f.1 = f.2) := by
  induction L with
  | nil => rfl
  | cons f L ih => rw [coversL, ih]; rfl
theorem covers_has {A L : List FB} (hA : Fun A) (hL : Full L) : coversL A L = decide ((commonL A L).length = L.length) := by
  rw [Bool.eq_iff_iff, decide_eq_true_eq, common_all hA, covers_all, List.all_eq_true]
  constructor
  · intro h f hf
    exact (rval_iff hA (hL f hf).2).1 (by simpa using h f hf)
  · intro h f hf
    simpa using (rval_iff hA (hL f hf).2).2 (h f hf)
/-- The reference's clash: the first key of the first label with another value in the second. -/
def rclash (L : List FB) : List FB → ByteArray
  | [] => ⟨#[]⟩
  | f :: A => if rval L f.1 ≠ ⟨#[]⟩ ∧ rval L f.1 ≠ f.2 then f.1 else rclash L A
theorem rclash_empty {A L : List FB} (hL : Fun L) (hFL : Full L) (hA : Full A) : rclash L A = ⟨#[]⟩ ↔ ∀ f ∈ A, ∀ g ∈ L, f.1 = g.1 → f.2 = g.2 := by
  induction A with
  | nil => simp [rclash]
  | cons f A ih =>
    have hA' : Full A := fun a ha => hA a (List.mem_cons_of_mem _ ha)
    simp only [rclash]
    by_cases e : rval L f.1 ≠ ⟨#[]⟩ ∧ rval L f.1 ≠ f.2
    · rw [if_pos e]
      constructor
      · intro h
        exact absurd h (hA f List.mem_cons_self).1
      · intro h
        exfalso
        have h1 : ¬ ∀ g ∈ L, g.1 ≠ f.1 := fun h1 => e.1 ((rval_empty hFL).2 h1)
        apply h1
        intro g hg e1
        have h2 := h f List.mem_cons_self g hg e1.symm
        exact e.2 (rval_in hL (by rw [h2, ← e1]; exact hg))
    · rw [if_neg e, ih hA']
      constructor
      · intro h a ha g hg e1
        rcases List.mem_cons.1 ha with h1 | h1
        · subst h1
          have h2 : rval L a.1 = g.2 := rval_in hL (by rw [e1]; exact hg)
          have h3 := (hFL g hg).2
          rw [h2] at e
          exact Decidable.byContradiction fun h4 => e ⟨h3, fun h5 => h4 h5.symm⟩
        · exact h a h1 g hg e1
      · exact fun h a ha => h a (List.mem_cons_of_mem _ ha)
theorem rclash_clash {A L : List FB} (hA : Fun A) (hL : Fun L) (hFA : Full A) (hFL : Full L) : decide (rclash L A = ⟨#[]⟩) = (clashL A L).isNone := by
  have h1 := rclash_empty (A := A) hL hFL hFA
  have h2 := clash_none (L := L) hA
  cases hc : (clashL A L) with
  | none =>
    rw [hc] at h2
    simpa using h1.2 (h2.1 rfl)
  | some k =>
    rw [hc] at h2
    simp only [Option.isSome_some, Bool.true_eq_false, false_iff] at h2
    simpa using fun h => h2 (h1.1 h)
/-! ### What merged makes -/
/-- The list has just the fields of the first label and of the beginning of the second, by ascending keys. -/
theorem merge_keep {A M : List FB} {f : FB} {O : List FB} (h : IsJoin A M O) (hA : Fun A) (hFA : Full A) (hc : ∀ a ∈ A, a.1 = f.1 → a.2 = f.2) (hv : rval A f.1 ≠ ⟨#[]⟩) : IsJoin A (M ++ [f]) O := by
  refine ⟨h.strict, fun g => ?_⟩
  rw [h.mem, List.mem_append, List.mem_singleton]
  constructor
  · rintro (h1 | h1)
    · exact .inl h1
    · exact .inr (.inl h1)
  · rintro (h1 | h1 | h1)
    · exact .inl h1
    · exact .inr h1
    · refine .inl ?_
      have h2 : ¬ ∀ g ∈ A, g.1 ≠ f.1 := fun h2 => hv ((rval_empty hFA).2 h2)
      have h3 : rval A f.1 = f.2 := Decidable.byContradiction fun h4 => h2 fun a ha e => h4 (rval_in hA (by rw [← hc a ha e, ← e]; exact ha))
      have h4 : f.2 ≠ ⟨#[]⟩ := by rw [← h3]; exact hv
      rw [h1]
      exact (rval_iff hA h4).1 h3
theorem merge_put {A M : List FB} {f : FB} {P S : List FB} (h : IsJoin A M (P ++ S)) (hP : ∀ p, P.getLast? = some p → ¬ klt f p) (hS : ∀ s ∈ S, klt f s) (hnew : ∀ g ∈ P ++ S, g.1 ≠ f.1) : IsJoin A (M ++ [f]) (P ++ f :: S) := by
  have hs := h.strict
  unfold Strict at hs
  rw [List.pairwise_append] at hs
  obtain ⟨h1, h2, h3⟩ := hs
  have hPf : ∀ p ∈ P, klt p f := by
    rcases List.eq_nil_or_concat P with rfl | ⟨Q, q, rfl⟩
    · intro p hp; cases hp
    · rw [List.concat_eq_append] at *
      have hq : ¬ klt f q := hP q (by simp)
      have hne : q.1 ≠ f.1 := hnew q (by simp)
      have hqf : klt q f := by
        unfold klt at hq ⊢
        exact Decidable.byContradiction fun h4 => hne (bytes_ext (List.le_antisymm (List.not_lt.1 hq) (List.not_lt.1 h4)))
      intro p hp
      rcases List.mem_append.1 hp with h5 | h5
      · exact klt_trans ((List.pairwise_append.1 h1).2.2 p h5 q (by simp)) hqf
      · rw [List.mem_singleton] at h5
        rw [h5]
        exact hqf
  refine ⟨?_, fun g => ?_⟩
  · unfold Strict
    rw [List.pairwise_append]
    refine ⟨h1, List.pairwise_cons.2 ⟨hS, h2⟩, fun p hp s hs => ?_⟩
    rcases List.mem_cons.1 hs with h4 | h4
    · rw [h4]
      exact hPf p hp
    · exact h3 p hp s h4
  · rw [List.mem_append, List.mem_cons, List.mem_append, List.mem_singleton]
    have h4 := h.mem g
    rw [List.mem_append] at h4
    constructor
    · rintro (h5 | h5 | h5)
      · rcases h4.1 (.inl h5) with h6 | h6
        · exact .inl h6
        · exact .inr (.inl h6)
      · exact .inr (.inr h5)
      · rcases h4.1 (.inr h5) with h6 | h6
        · exact .inl h6
        · exact .inr (.inl h6)
    · rintro (h5 | h5 | h5)
      · rcases h4.2 (.inl h5) with h6 | h6
        · exact .inl h6
        · exact .inr (.inr h6)
      · rcases h4.2 (.inr h5) with h6 | h6
        · exact .inl h6
        · exact .inr (.inr h6)
      · exact .inr (.inl h5)
theorem merge_new {A M : List FB} {f : FB} {O : List FB} (h : IsJoin A M O) (hFA : Full A) (hv : rval A f.1 = ⟨#[]⟩) (hM : ∀ m ∈ M, m.1 ≠ f.1) : ∀ g ∈ O, g.1 ≠ f.1 := by
  intro g hg
  rcases (h.mem g).1 hg with h1 | h1
  · exact (rval_empty hFA).1 hv g h1
  · exact hM g h1
theorem merge_start {A : List FB} (h : Strict A) : IsJoin A [] A := ⟨h, fun f => by simp⟩
theorem word_full {s : ByteArray} (h : wordL s.data.toList = true) : s ≠ ⟨#[]⟩ := by
  intro e
  rw [e] at h
  cases h
theorem valid_full {L : List FB} (h : validL L = true) : Full L := fun f hf => by
  have h1 := ((valid_iff L).1 h).2.1 f hf
  unfold validF at h1
  rw [Bool.and_eq_true] at h1
  exact ⟨word_full h1.1, word_full h1.2⟩
end Go.Proofs.YtjdcdakedoljbaaDoor.Mk
