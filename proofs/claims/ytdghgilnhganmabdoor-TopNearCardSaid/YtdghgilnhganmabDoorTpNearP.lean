/-
  PLAIN MATHEMATICS for the law TopNear: the numbers that are told to be near ascend, and are those whose marks differ in at most one sign.
-/
import Derived.Test.YtdghgilnhganmabDoorMkPlainC
namespace Go.Proofs.YtdghgilnhganmabDoor.Mk
open Go

theorem dgt_oth (n i j d : Nat) (hi : i < 6) (hj : j < 6) (hd : d < 10) (hn : n ≤ 999999) : dgt (oth n j d) i = if i = j then d else dgt n i := by
  have hc : j = 0 ∨ j = 1 ∨ j = 2 ∨ j = 3 ∨ j = 4 ∨ j = 5 := by omega
  have hc2 : i = 0 ∨ i = 1 ∨ i = 2 ∨ i = 3 ∨ i = 4 ∨ i = 5 := by omega
  rcases hc with rfl | rfl | rfl | rfl | rfl | rfl <;> rcases hc2 with rfl | rfl | rfl | rfl | rfl | rfl <;> first | rw [if_pos rfl] | rw [if_neg (by decide)]
  all_goals simp only [oth, dgt, pl]
  all_goals omega
theorem by_dgt {n k : Nat} (hn : n ≤ 999999) (hk : k ≤ 999999) (h : ∀ i, i < 6 → dgt n i = dgt k i) : n = k := by
  have h0 := h 0 (by decide)
  have h1 := h 1 (by decide)
  have h2 := h 2 (by decide)
  have h3 := h 3 (by decide)
  have h4 := h 4 (by decide)
  have h5 := h 5 (by decide)
  simp only [dgt, pl] at h0 h1 h2 h3 h4 h5
  omega
theorem mem_nearD (n k j : Nat) (x : Int) : ∀ D, x ∈ nearD n k j D ↔ ∃ d, d < D ∧ sel n k j d = true ∧ x = (oth n j d : Int)
  | 0 => by simp [nearD]
  | D + 1 => by
    rw [nearD, List.mem_append, mem_nearD n k j x D]
    constructor
    · rintro (⟨d, h1, h2, h3⟩ | h)
      · exact ⟨d, by omega, h2, h3⟩
      · by_cases hs : sel n k j D = true
        · rw [if_pos hs] at h
          exact ⟨D, by omega, hs, List.mem_singleton.1 h⟩
        · rw [if_neg hs] at h
          exact absurd h (by simp)
    · rintro ⟨d, h1, h2, h3⟩
      by_cases hd : d = D
      · subst hd
        exact .inr (by rw [if_pos h2]; exact List.mem_singleton.2 h3)
      · exact .inl ⟨d, by omega, h2, h3⟩
theorem mem_nearJ (n k : Nat) (x : Int) : ∀ J, x ∈ nearJ n k J ↔ x = (n : Int) ∨ ∃ j, j < J ∧ ∃ d, d < 10 ∧ sel n k j d = true ∧ x = (oth n j d : Int)
  | 0 => by simp [nearJ]
  | J + 1 => by
    rw [nearJ, List.mem_append, mem_nearJ n k x J, mem_nearD]
    constructor
    · rintro ((h | ⟨j, h1, h2⟩) | h)
      · exact .inl h
      · exact .inr ⟨j, by omega, h2⟩
      · exact .inr ⟨J, by omega, h⟩
    · rintro (h | ⟨j, h1, h2⟩)
      · exact .inl (.inl h)
      · by_cases hj : j = J
        · subst hj
          exact .inr h2
        · exact .inl (.inr ⟨j, by omega, h2⟩)
theorem nearD_nodup (n k j : Nat) (hn : n ≤ 999999) (hj : j < 6) : ∀ D, D ≤ 10 → (nearD n k j D).Nodup
  | 0, _ => List.nodup_nil
  | D + 1, hD => by
    rw [nearD, List.nodup_append]
    refine ⟨nearD_nodup n k j hn hj D (by omega), by split <;> simp, fun a ha b hb hab => ?_⟩
    obtain ⟨d, h1, -, h3⟩ := (mem_nearD n k j a D).1 ha
    split at hb
    · rw [List.mem_singleton] at hb
      have he : oth n j d = oth n j D := by omega
      have e1 := dgt_oth n j j d hj hj (by omega) hn
      have e2 := dgt_oth n j j D hj hj (by omega) hn
      rw [he, if_pos rfl] at e1
      rw [if_pos rfl] at e2
      omega
    · simp at hb
theorem nearJ_nodup (n k : Nat) (hn : n ≤ 999999) : ∀ J, J ≤ 6 → (nearJ n k J).Nodup
  | 0, _ => by simp [nearJ]
  | J + 1, hJ => by
    rw [nearJ, List.nodup_append]
    refine ⟨nearJ_nodup n k hn J (by omega), nearD_nodup n k J hn (by omega) 10 (Nat.le_refl _), fun a ha b hb hab => ?_⟩
    obtain ⟨d, h1, h2, h3⟩ := (mem_nearD n k J b 10).1 hb
    have e1 := dgt_oth n J J d (by omega) (by omega) h1 hn
    rw [if_pos rfl] at e1
    have hne : d ≠ dgt n J := by
      unfold sel at h2
      rw [Bool.and_eq_true] at h2
      simpa using h2.1
    rcases (mem_nearJ n k a J).1 ha with h | ⟨j, h4, e, h5, -, h6⟩
    · have : oth n J d = n := by omega
      rw [this] at e1
      omega
    · have e2 := dgt_oth n J j e (by omega) (by omega) h5 hn
      rw [if_neg (by omega)] at e2
      have : oth n J d = oth n j e := by omega
      rw [this] at e1
      omega
def nearL (n : Nat) : List Int := sorted (nearJ n (chk n) 6)
theorem near_asc (n : Nat) (hn : n ≤ 999999) : (nearL n).Pairwise (· < ·) := by
  have hp : (nearL n).Perm (nearJ n (chk n) 6) := List.mergeSort_perm _ _
  have hd : (nearL n).Nodup := hp.nodup_iff.2 (nearJ_nodup n (chk n) hn 6 (Nat.le_refl _))
  have h2 : (nearL n).Pairwise (fun x y => decide (x ≤ y) = true) := List.pairwise_mergeSort (fun a b c h1 h2 => by simp at *; omega) (fun a b => by simp; omega) _
  refine (h2.and hd).imp ?_
  intro a b h
  have h3 : a ≤ b := by simpa using h.1
  have h4 := h.2
  omega
theorem near_lt {n i : Nat} (hn : n ≤ 999999) {x y : Int} (h1 : (nearL n)[i]? = some x) (h2 : (nearL n)[i + 1]? = some y) : x < y := by
  obtain ⟨l1, rfl⟩ := List.getElem?_eq_some_iff.1 h1
  obtain ⟨l2, rfl⟩ := List.getElem?_eq_some_iff.1 h2
  exact List.pairwise_iff_getElem.1 (near_asc n hn) i (i + 1) l1 l2 (by omega)
/-- In how many of the first signs two marks differ. -/
def dif (n k : Nat) : Nat → Nat
  | 0 => 0
  | i + 1 => dif n k i + if (markL n).getD i 0 = (markL k).getD i 0 then 0 else 1
theorem dif_le (n k : Nat) : ∀ i, dif n k i ≤ i
  | 0 => Nat.le_refl _
  | i + 1 => by
    have := dif_le n k i
    rw [dif]
    split <;> omega
theorem byt_iff (n k i : Nat) : (byt (dgt n i) = byt (dgt k i)) = (dgt n i = dgt k i) := propext ⟨byt_inj (dgt_lt n i) (dgt_lt k i), fun h => by rw [h]⟩
theorem sg_iff (n k : Nat) : (sg (chk n) = sg (chk k)) = (chk n = chk k) := propext ⟨fun h => by
  have h1 := idx_sg _ (chk_lt n)
  have h2 := idx_sg _ (chk_lt k)
  rw [h] at h1
  omega, fun h => by rw [h]⟩
theorem dif_eight (n k : Nat) : dif n k 8 = (if dgt n 5 = dgt k 5 then 0 else 1) + (if dgt n 4 = dgt k 4 then 0 else 1) + (if dgt n 3 = dgt k 3 then 0 else 1) + (if dgt n 2 = dgt k 2 then 0 else 1) + (if dgt n 1 = dgt k 1 then 0 else 1) + (if dgt n 0 = dgt k 0 then 0 else 1) + (if chk n = chk k then 0 else 1) := by
  have e5 : ∀ m, dig m 0 = dgt m 5 := fun m => rfl
  have e4 : ∀ m, dig m 1 = dgt m 4 := fun m => rfl
  have e3 : ∀ m, dig m 2 = dgt m 3 := fun m => rfl
  have e2 : ∀ m, dig m 3 = dgt m 2 := fun m => rfl
  have e1 : ∀ m, dig m 4 = dgt m 1 := fun m => rfl
  have e0 : ∀ m, dig m 5 = dgt m 0 := fun m => by simp only [dig, dgt, pl, Nat.div_one]
  simp only [dif, markL_eq, List.getD_cons_zero, List.getD_cons_succ, byt_iff, sg_iff, if_true, Nat.add_zero, Nat.zero_add, e0, e1, e2, e3, e4, e5]
theorem near_has (n k : Nat) (hn : n ≤ 999999) (hk : k ≤ 999999) : (k : Int) ∈ nearL n ↔ dif n k 8 ≤ 1 := by
  have hp : (nearL n).Perm (nearJ n (chk n) 6) := List.mergeSort_perm _ _
  rw [hp.mem_iff, mem_nearJ, dif_eight]
  constructor
  · rintro (h | ⟨j, hj, d, hd, hs, h⟩)
    · have : k = n := by omega
      subst this
      simp
    · have hko : k = oth n j d := by omega
      unfold sel at hs
      rw [Bool.and_eq_true] at hs
      have hc : chk n = chk k := by
        have := hs.2
        rw [hko]
        exact (show chk (oth n j d) = chk n by simpa using this).symm
      have hg : ∀ i, i < 6 → dgt k i = if i = j then d else dgt n i := fun i hi => by rw [hko]; exact dgt_oth n i j d hi hj hd hn
      rw [if_pos hc, hg 0 (by decide), hg 1 (by decide), hg 2 (by decide), hg 3 (by decide), hg 4 (by decide), hg 5 (by decide)]
      have hcj : j = 0 ∨ j = 1 ∨ j = 2 ∨ j = 3 ∨ j = 4 ∨ j = 5 := by omega
      rcases hcj with rfl | rfl | rfl | rfl | rfl | rfl <;> simp <;> split <;> omega
  · intro h
    have one : ∀ j, j < 6 → (∀ i, i < 6 → i ≠ j → dgt n i = dgt k i) → dgt n j ≠ dgt k j → chk n = chk k → ∃ j, j < 6 ∧ ∃ d, d < 10 ∧ sel n (chk n) j d = true ∧ (k : Int) = (oth n j d : Int) := fun j hj hi hne hc => by
      have hko : k = oth n j (dgt k j) := by
        refine by_dgt hk (oth_le n j _ hn hj (dgt_lt k j)) fun i hi6 => ?_
        rw [dgt_oth n i j _ hi6 hj (dgt_lt k j) hn]
        by_cases hij : i = j
        · rw [if_pos hij, hij]
        · rw [if_neg hij, hi i hi6 hij]
      refine ⟨j, hj, dgt k j, dgt_lt k j, ?_, by omega⟩
      unfold sel
      rw [← hko, Bool.and_eq_true]
      exact ⟨by simpa using fun h => hne h.symm, by simpa using hc.symm⟩
    by_cases hall : ∀ i, i < 6 → dgt n i = dgt k i
    · exact .inl (by rw [by_dgt hn hk hall])
    · refine .inr ?_
      have hex : ∃ j, j < 6 ∧ dgt n j ≠ dgt k j := by
        refine Classical.byContradiction fun hno => hall fun i hi => Classical.byContradiction fun h2 => hno ⟨i, hi, h2⟩
      obtain ⟨j, hj, hne⟩ := hex
      have key : (∀ i, i < 6 → i ≠ j → dgt n i = dgt k i) ∧ chk n = chk k := by
        have hcj : j = 0 ∨ j = 1 ∨ j = 2 ∨ j = 3 ∨ j = 4 ∨ j = 5 := by omega
        have hall2 : ∀ (P : Nat → Prop), P 0 → P 1 → P 2 → P 3 → P 4 → P 5 → ∀ i, i < 6 → P i := fun P p0 p1 p2 p3 p4 p5 i hi => by
          have hci : i = 0 ∨ i = 1 ∨ i = 2 ∨ i = 3 ∨ i = 4 ∨ i = 5 := by omega
          rcases hci with rfl | rfl | rfl | rfl | rfl | rfl <;> assumption
        have hz : ∀ {p : Prop} [Decidable p] , (if p then 0 else 1) = 0 → p := fun {p} _ h => by
          by_cases hp : p
          · exact hp
          · rw [if_neg hp] at h; omega
        have hne1 : (if dgt n j = dgt k j then 0 else 1) = 1 := if_neg hne
        rcases hcj with rfl | rfl | rfl | rfl | rfl | rfl
        all_goals
          refine ⟨hall2 _ (fun h0 => ?_) (fun h0 => ?_) (fun h0 => ?_) (fun h0 => ?_) (fun h0 => ?_) (fun h0 => ?_), ?_⟩
          all_goals first | exact absurd rfl h0 | exact hz (by omega)
      exact one j hj key.1 hne key.2
theorem any_next {L : List Int} {i : Nat} {x : Int} (k : Int) (h : L[i]? = some x) : (L.take (i + 1)).any (· == k) = ((L.take i).any (· == k) || x == k) := by
  rw [List.take_add_one, h, List.any_append]
  simp
theorem any_mem (L : List Int) (k : Int) : L.any (· == k) = decide (k ∈ L) := by
  by_cases h : k ∈ L
  · rw [decide_eq_true h, List.any_eq_true]
    exact ⟨k, h, by simp⟩
  · rw [decide_eq_false h, List.any_eq_false]
    intro x hx
    have : x ≠ k := fun he => h (he ▸ hx)
    simp [this]
theorem near_size (n : Nat) : (nearL n).length ≤ 61 := by
  unfold nearL
  rw [sorted_len]
  exact nearJ_len n (chk n) 6
theorem form_mark (n : Nat) : form (markL n) = true := by
  rw [markL_eq]
  exact form_eight _ _ _ _ _ _ _ (isDig_byt (dig_lt n 0)) (isDig_byt (dig_lt n 1)) (isDig_byt (dig_lt n 2)) (isDig_byt (dig_lt n 3)) (isDig_byt (dig_lt n 4)) (isDig_byt (dig_lt n 5)) (by rw [idx_sg _ (chk_lt n)]; omega)
theorem mark_nums (n : Nat) (hn : n ≤ 999999) : numOf (markL n) = n ∧ signOf (markL n) = chk n := by
  refine ⟨?_, ?_⟩
  · have := number_mark n hn
    unfold number at this
    rw [if_pos (form_mark n)] at this
    split at this
    · exact (Prod.mk.inj this).1
    · exact absurd (Prod.mk.inj this).2 (by decide)
  · unfold signOf
    rw [if_pos (form_mark n), markL_eq]
    show (idx (sg (chk n))).toNat = chk n
    rw [idx_sg _ (chk_lt n)]
    omega
end Go.Proofs.YtdghgilnhganmabDoor.Mk
