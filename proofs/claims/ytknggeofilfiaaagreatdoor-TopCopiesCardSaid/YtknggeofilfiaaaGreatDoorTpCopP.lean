/-
  PLAIN MATHEMATICS for the law TopCopies: the fields of a label that are picked by their places; two such labels that leave nothing out are joined into the whole.
-/
import Derived.Test.YtknggeofilfiaaaGreatDoorMkSmall
namespace Go.Proofs.YtknggeofilfiaaaGreatDoor.Tp
open Go Go.RowKit Go.Proofs.YtknggeofilfiaaaGreatDoor.Mk

/-- The fields among the first ones whose places are picked. -/
def pk (p : Nat → Bool) (L : List FB) : Nat → List FB
  | 0 => []
  | k + 1 => match L[k]? with
    | none => pk p L k
    | some f => if p k = true then pk p L k ++ [f] else pk p L k
theorem pk_step {p : Nat → Bool} {L : List FB} {k : Nat} {f : FB} (h : L[k]? = some f) : pk p L (k + 1) = if p k = true then pk p L k ++ [f] else pk p L k := by
  show (match L[k]? with | none => _ | some f => _) = _
  rw [h]
theorem pk_end {p : Nat → Bool} {L : List FB} {k : Nat} (h : L[k]? = none) : pk p L (k + 1) = pk p L k := by
  show (match L[k]? with | none => _ | some f => _) = _
  rw [h]
theorem pk_mem (p : Nat → Bool) (L : List FB) (f : FB) : ∀ k, f ∈ pk p L k ↔ ∃ i, i < k ∧ p i = true ∧ L[i]? = some f
  | 0 => by simp [pk]
  | k + 1 => by
    have ih := pk_mem p L f k
    constructor
    · intro h
      cases hk : L[k]? with
      | none =>
        rw [pk_end hk, ih] at h
        obtain ⟨i, h1, h2⟩ := h
        exact ⟨i, by omega, h2⟩
      | some g =>
        rw [pk_step hk] at h
        by_cases hp : p k = true
        · rw [if_pos hp, List.mem_append, List.mem_singleton, ih] at h
          rcases h with ⟨i, h1, h2⟩ | rfl
          · exact ⟨i, by omega, h2⟩
          · exact ⟨k, by omega, hp, hk⟩
        · rw [if_neg hp, ih] at h
          obtain ⟨i, h1, h2⟩ := h
          exact ⟨i, by omega, h2⟩
    · rintro ⟨i, h1, h2, h3⟩
      by_cases e : i = k
      · subst e
        rw [pk_step h3, if_pos h2]
        exact List.mem_append_right _ (List.mem_singleton.2 rfl)
      · have hm := ih.2 ⟨i, by omega, h2, h3⟩
        cases hk : L[k]? with
        | none => rwa [pk_end hk]
        | some g =>
          rw [pk_step hk]
          split
          · exact List.mem_append_left _ hm
          · exact hm
theorem pk_sub (p : Nat → Bool) (L : List FB) : ∀ k, (pk p L k).Sublist (L.take k)
  | 0 => by simp [pk]
  | k + 1 => by
    have ih := pk_sub p L k
    cases hk : L[k]? with
    | none =>
      rw [pk_end hk]
      exact ih.trans (List.take_sublist_take_left (by omega))
    | some g =>
      rw [pk_step hk, take_next hk]
      split
      · exact ih.append (List.Sublist.refl _)
      · exact ih.trans (List.sublist_append_left _ _)
theorem pk_len (p : Nat → Bool) (L : List FB) (k : Nat) : (pk p L k).length ≤ L.length := Nat.le_trans (pk_sub p L k).length_le (by rw [List.length_take]; omega)
theorem pk_count {p q : Nat → Bool} {L : List FB} (h : ∀ i, i < L.length → (p i || q i) = true) : ∀ k, k ≤ L.length → (pk p L k).length + (pk q L k).length = k + (pk (fun i => p i && q i) L k).length
  | 0, _ => by simp [pk]
  | k + 1, hk => by
    have ih := pk_count h k (by omega)
    have hpq := h k (by omega)
    obtain ⟨f, hf⟩ : ∃ f, L[k]? = some f := ⟨_, List.getElem?_eq_getElem (by omega)⟩
    rw [pk_step hf, pk_step hf, pk_step hf]
    cases hp : p k <;> cases hq : q k <;> simp [hp, hq] at hpq ⊢ <;> omega
theorem valid_sub {A L : List FB} (h : validL L = true) (hs : A.Sublist L) : validL A = true := by
  rw [valid_iff] at h ⊢
  exact ⟨Nat.le_trans hs.length_le h.1, fun f hf => h.2.1 f (hs.subset hf), h.2.2.sublist hs⟩
theorem pk_all (p : Nat → Bool) (L : List FB) : (pk p L L.length).Sublist L := by
  have h := pk_sub p L L.length
  rwa [List.take_of_length_le (Nat.le_refl _)] at h
/-- What is true of two copies that leave nothing out. -/
structure Copies (A B L : List FB) : Prop where
  va : validL A = true
  vb : validL B = true
  fa : Fits A
  fb : Fits B
  je : joinE A B = 0
  jr : joinR A B = L
  be : bothE A B = 0
  br : (bothR A B).length + L.length = A.length + B.length
  ag : (clashL A B).isNone = true
theorem copies {p q : Nat → Bool} {L : List FB} (hv : validL L = true) (hs : Fits L) (h : ∀ i, i < L.length → (p i || q i) = true) : Copies (pk p L L.length) (pk q L L.length) L := by
  have sa := pk_all p L
  have sb := pk_all q L
  have va := valid_sub hv sa
  have vb := valid_sub hv sb
  have fa : Fits (pk p L L.length) := ⟨fun f hf => hs.out f (sa.subset hf)⟩
  have fb : Fits (pk q L L.length) := ⟨fun f hf => hs.out f (sb.subset hf)⟩
  have hvv : vv (pk p L L.length) (pk q L L.length) = true := by unfold vv; rw [va, vb]; rfl
  have hL := (valid_iff L).1 hv
  have hc : (clashL (pk p L L.length) (pk q L L.length)).isSome = false := (clash_none (valid_fun va)).2 fun f hf g hg e => by rw [strict_key hL.2.2 (sa.subset hf) (sb.subset hg) e]
  have hj := isJoin fa fb hvv hc
  have he : joinedL (pk p L L.length) (pk q L L.length) = L := strict_ext hj.strict hL.2.2 fun f => by
    rw [hj.mem]
    constructor
    · rintro (h1 | h1)
      · exact sa.subset h1
      · exact sb.subset h1
    · intro hf
      obtain ⟨i, hi⟩ := List.getElem?_of_mem hf
      have hil := (List.getElem?_eq_some_iff.1 hi).1
      have hpq := h i hil
      rw [Bool.or_eq_true] at hpq
      rcases hpq with h1 | h1
      · exact .inl ((pk_mem p L f _).2 ⟨i, hil, h1, hi⟩)
      · exact .inr ((pk_mem q L f _).2 ⟨i, hil, h1, hi⟩)
  have hE : joinE (pk p L L.length) (pk q L L.length) = 0 := by
    unfold joinE
    rw [if_pos hvv, hc, he, if_neg (by decide), if_neg (by omega)]
  have hbe : bothE (pk p L L.length) (pk q L L.length) = 0 := if_pos hvv
  have hbr : bothR (pk p L L.length) (pk q L L.length) = commonL (pk p L L.length) (pk q L L.length) := if_pos hvv
  have hco : commonL (pk p L L.length) (pk q L L.length) = pk (fun i => p i && q i) L L.length := strict_ext (strict_common ((valid_iff _).1 vb).2.2) (hL.2.2.sublist (pk_all _ L)) fun f => by
    rw [mem_common (valid_fun va), pk_mem, pk_mem, pk_mem]
    constructor
    · rintro ⟨⟨i, h1, h2, h3⟩, j, h4, h5, h6⟩
      have hij : i = j := (List.getElem?_inj h1 (strict_nodup hL.2.2)).1 (h3.trans h6.symm)
      subst hij
      exact ⟨i, h1, by rw [h2, h5]; rfl, h3⟩
    · rintro ⟨i, h1, h2, h3⟩
      rw [Bool.and_eq_true] at h2
      exact ⟨⟨i, h1, h2.1, h3⟩, i, h1, h2.2, h3⟩
  refine ⟨va, vb, fa, fb, hE, by unfold joinR; rw [if_pos hE, he], hbe, ?_, by rw [Option.isNone_iff_eq_none]; exact Option.isSome_eq_false_iff.1 hc |> Option.isNone_iff_eq_none.1⟩
  rw [hbr, hco]
  have := pk_count h L.length (Nat.le_refl _)
  omega
end Go.Proofs.YtknggeofilfiaaaGreatDoor.Tp
