/-
  PLAIN MATHEMATICS (layer 8, pest): how rooms are reached day by day, until no more are.
-/
import Derived.Test.YthkamfjjfkpekaaPeDays
namespace Go.Proofs.Ythkamfjjfkpekaa.Pe
open Go

theorem nextF_sub {ds : List Dr} {S i : Nat} (h : S.testBit i = true) : ∀ k : Nat, (nextF ds S k).testBit i = true
  | 0 => h
  | k + 1 => by
    unfold nextF
    have ih := nextF_sub h k (ds := ds)
    split
    · rw [Nat.testBit_or, ih]; rfl
    · exact ih
theorem spreadF_sub {ds : List Dr} {S i k : Nat} (h : (spreadF ds S k).testBit i = true) : ∀ j : Nat, (spreadF ds S (k + j)).testBit i = true
  | 0 => h
  | j + 1 => nextF_sub (spreadF_sub h j) _
theorem spreadF_still {ds : List Dr} {S m : Nat} (h : spreadF ds S (m + 1) = spreadF ds S m) : ∀ j : Nat, spreadF ds S (m + j) = spreadF ds S m
  | 0 => rfl
  | j + 1 => by
    show nextF ds (spreadF ds S (m + j)) ds.length = _
    rw [spreadF_still h j]
    exact h
/-- How many of the first rooms are in a set. -/
def cnt (n S : Nat) : Nat := (List.range n).countP fun i => S.testBit i
theorem cnt_le (n S : Nat) : cnt n S ≤ n := by
  have := List.countP_le_length (p := fun i => S.testBit i) (l := List.range n)
  rwa [List.length_range] at this
theorem countP_lt {p q : Nat → Bool} : ∀ {l : List Nat} {i : Nat}, i ∈ l → (∀ j ∈ l, p j = true → q j = true) → p i = false → q i = true → l.countP p < l.countP q
  | [], i, hi, _, _, _ => by cases hi
  | a :: l, i, hi, hpq, h1, h2 => by
    have hm : l.countP p ≤ l.countP q := List.countP_mono_left fun j hj => hpq j (List.mem_cons_of_mem _ hj)
    rcases List.mem_cons.1 hi with rfl | hi
    · rw [List.countP_cons_of_pos h2, List.countP_cons_of_neg (by simp [h1])]
      omega
    · have ih := countP_lt hi (fun j hj => hpq j (List.mem_cons_of_mem _ hj)) h1 h2
      rw [List.countP_cons, List.countP_cons]
      have := hpq a List.mem_cons_self
      cases ha : p a
      · simp; omega
      · simp [this ha]; omega
theorem cnt_lt {n S T : Nat} (hs : ∀ i, S.testBit i = true → T.testBit i = true) (hT : T < 2 ^ n) (hn : S ≠ T) : cnt n S < cnt n T := by
  by_cases h : ∃ i, i < n ∧ S.testBit i = false ∧ T.testBit i = true
  · obtain ⟨i, hi, h1, h2⟩ := h
    exact countP_lt (List.mem_range.2 hi) (fun j _ hj => hs j hj) h1 h2
  · exfalso
    apply hn
    apply Nat.eq_of_testBit_eq
    intro i
    cases h1 : T.testBit i with
    | false =>
      cases h2 : S.testBit i with
      | false => rfl
      | true => rw [hs i h2] at h1; cases h1
    | true =>
      cases h2 : S.testBit i with
      | true => rfl
      | false =>
        by_cases hi : i < n
        · exact absurd ⟨i, hi, h2, h1⟩ h
        · have : T < 2 ^ i := Nat.lt_of_lt_of_le hT (Nat.pow_le_pow_right (by omega) (by omega))
          rw [Nat.testBit_lt_two_pow this] at h1; cases h1
theorem cnt_pos {n S : Nat} (hS : S < 2 ^ n) (h : S ≠ 0) : 0 < cnt n S := by
  have := cnt_lt (S := 0) (T := S) (n := n) (fun i hi => by simp at hi) hS (Ne.symm h)
  omega
/-- Doors whose rooms are below a number. -/
def DoorsAt (R : Nat) (ds : List Dr) : Prop := ∀ d ∈ ds, 0 ≤ d.a ∧ d.a < R ∧ 0 ≤ d.b ∧ d.b < R
theorem DoorsAt.inn {R : Nat} {ds : List Dr} (h : DoorsAt R ds) (hR : R ≤ 12) : DoorsIn ds := fun d hd => by
  obtain ⟨h1, h2, h3, h4⟩ := h d hd
  exact ⟨h1, by omega, h3, by omega⟩
theorem nextF_below {R : Nat} {ds : List Dr} {S : Nat} (hd : DoorsAt R ds) (hS : S < 2 ^ R) : ∀ k : Nat, k ≤ ds.length → nextF ds S k < 2 ^ R
  | 0, _ => hS
  | k + 1, hk => by
    have ih := nextF_below hd hS k (by omega)
    unfold nextF
    have hm : ds.getD k default ∈ ds := by
      rw [List.getD_eq_getElem?_getD, List.getElem?_eq_getElem (by omega)]
      exact List.getElem_mem _
    obtain ⟨h1, h2, h3, h4⟩ := hd _ hm
    split
    · exact Nat.or_lt_two_pow ih (Nat.or_lt_two_pow (Nat.pow_lt_pow_right (by omega) (by omega)) (Nat.pow_lt_pow_right (by omega) (by omega)))
    · exact ih
theorem spreadF_below {R : Nat} {ds : List Dr} {S : Nat} (hd : DoorsAt R ds) (hS : S < 2 ^ R) : ∀ k : Nat, spreadF ds S k < 2 ^ R
  | 0 => hS
  | k + 1 => nextF_below hd (spreadF_below hd hS k) _ (Nat.le_refl _)
theorem nextF_zero (ds : List Dr) : ∀ k : Nat, nextF ds 0 k = 0
  | 0 => rfl
  | k + 1 => by
    unfold nextF
    rw [nextF_zero ds k]
    simp
theorem spreadF_grows {R : Nat} {ds : List Dr} {S : Nat} (hd : DoorsAt R ds) (hS : S < 2 ^ R) : ∀ m : Nat, (∀ k, k < m → spreadF ds S (k + 1) ≠ spreadF ds S k) → cnt R S + m ≤ cnt R (spreadF ds S m)
  | 0, _ => Nat.le_refl _
  | m + 1, h => by
    have ih := spreadF_grows hd hS m fun k hk => h k (by omega)
    have := cnt_lt (n := R) (fun i hi => spreadF_sub (k := m) hi 1) (spreadF_below hd hS (m + 1)) (Ne.symm (h m (by omega)))
    omega
theorem least_of {p : Nat → Prop} : ∀ n : Nat, p n → ∃ m, m ≤ n ∧ p m ∧ ∀ k, k < m → ¬ p k := by
  intro n
  induction n using Nat.strongRecOn with
  | _ n ih =>
    intro h
    by_cases hk : ∃ k, k < n ∧ p k
    · obtain ⟨k, h1, h2⟩ := hk
      obtain ⟨m, h3, h4⟩ := ih k h1 h2
      exact ⟨m, by omega, h4⟩
    · exact ⟨n, Nat.le_refl _, h, fun k h1 h2 => hk ⟨k, h1, h2⟩⟩
/-- The day on which the last room is reached: one of the first days, as many as there are rooms. -/
theorem spread_end {R : Nat} {ds : List Dr} {S : Nat} (hR : 1 ≤ R) (hd : DoorsAt R ds) (hS : S < 2 ^ R) : ∃ m, m + 1 ≤ R ∧ spreadF ds S (m + 1) = spreadF ds S m ∧ ∀ k, k < m → spreadF ds S (k + 1) ≠ spreadF ds S k := by
  have he : ∃ m, m < R ∧ spreadF ds S (m + 1) = spreadF ds S m := by
    apply Classical.byContradiction
    intro h
    have hg := spreadF_grows hd hS R fun k hk e => h ⟨k, hk, e⟩
    have := cnt_le R (spreadF ds S R)
    have h0 : S = 0 := by
      apply Classical.byContradiction
      intro h0
      have := cnt_pos hS h0
      omega
    exact h ⟨0, by omega, by subst h0; exact nextF_zero ds _⟩
  obtain ⟨n, hn, he⟩ := he
  obtain ⟨m, h1, h2, h3⟩ := least_of (p := fun m => spreadF ds S (m + 1) = spreadF ds S m) n he
  exact ⟨m, by omega, h2, h3⟩
/-- From the day on that has the number of the rooms nothing changes. -/
theorem spread_full {R : Nat} {ds : List Dr} {S : Nat} (hR : 1 ≤ R) (hd : DoorsAt R ds) (hS : S < 2 ^ R) {k : Nat} (hk : R ≤ k + 1) : spreadF ds S k = spreadF ds S (R - 1) := by
  obtain ⟨m, h1, h2, -⟩ := spread_end hR hd hS
  have e1 := spreadF_still h2 (k - m)
  have e2 := spreadF_still h2 (R - 1 - m)
  rw [show m + (k - m) = k by omega] at e1
  rw [show m + (R - 1 - m) = R - 1 by omega] at e2
  rw [e1, e2]
end Go.Proofs.Ythkamfjjfkpekaa.Pe
