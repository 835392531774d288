/-
  PLAIN MATHEMATICS (layer 8, pest): more sealed doors, fewer rooms; the first day of a room.
-/
import Derived.Test.YthkamfjjfkpekaaPeDayA
import Derived.Test.YthkamfjjfkpekaaPeSprd
namespace Go.Proofs.Ythkamfjjfkpekaa.Pe
open Go

theorem andNot_sub {S T : Nat} (hS : S < 9223372036854775808) (hT : T < 9223372036854775808) (h : ∀ i, S.testBit i = true → T.testBit i = true) : bits .andNot .i64 (S : Int) (T : Int) = 0 := by
  have e : (BitVec.ofInt 64 (S : Int) &&& ~~~ (BitVec.ofInt 64 (T : Int))) = 0#64 := by
    apply BitVec.eq_of_getLsbD_eq
    intro i hi
    rw [BitVec.getLsbD_and, BitVec.getLsbD_not, BitVec.ofInt_natCast, BitVec.ofInt_natCast, BitVec.getLsbD_ofNat, BitVec.getLsbD_ofNat, BitVec.getLsbD_zero]
    simp only [hi, decide_true, Bool.true_and]
    cases hs : S.testBit i with
    | false => rfl
    | true => rw [h i hs]; rfl
  show IntKind.i64.wrap ((BitVec.ofInt 64 (S : Int) &&& ~~~ (BitVec.ofInt 64 (T : Int))).toNat : Int) = 0
  rw [e]
  rfl
theorem nextF_iff {ds : List Dr} {S i : Nat} : ∀ k : Nat, (nextF ds S k).testBit i = true ↔ (S.testBit i = true ∨ ∃ j, j < k ∧ (S.testBit (ds.getD j default).a.toNat = true ∨ S.testBit (ds.getD j default).b.toNat = true) ∧ (i = (ds.getD j default).a.toNat ∨ i = (ds.getD j default).b.toNat))
  | 0 => by simp [nextF]
  | k + 1 => by
    have ih := nextF_iff (ds := ds) (S := S) (i := i) k
    unfold nextF
    constructor
    · intro h
      split at h
      · next hc =>
        rw [Bool.or_eq_true] at hc
        rw [Nat.testBit_or, Nat.testBit_or, Nat.testBit_two_pow, Nat.testBit_two_pow, Bool.or_eq_true, Bool.or_eq_true, decide_eq_true_eq, decide_eq_true_eq] at h
        rcases h with h | h | h
        · rcases ih.1 h with h | ⟨j, hj, h⟩
          · exact .inl h
          · exact .inr ⟨j, by omega, h⟩
        · exact .inr ⟨k, by omega, hc, .inl h.symm⟩
        · exact .inr ⟨k, by omega, hc, .inr h.symm⟩
      · rcases ih.1 h with h | ⟨j, hj, h⟩
        · exact .inl h
        · exact .inr ⟨j, by omega, h⟩
    · intro h
      have hold : (S.testBit i = true ∨ ∃ j, j < k ∧ (S.testBit (ds.getD j default).a.toNat = true ∨ S.testBit (ds.getD j default).b.toNat = true) ∧ (i = (ds.getD j default).a.toNat ∨ i = (ds.getD j default).b.toNat)) → (nextF ds S k).testBit i = true := ih.2
      rcases h with h | ⟨j, hj, hs, hi⟩
      · split
        · rw [Nat.testBit_or, hold (.inl h)]; rfl
        · exact hold (.inl h)
      · by_cases hjk : j = k
        · subst hjk
          rw [if_pos (by rw [Bool.or_eq_true]; exact hs), Nat.testBit_or, Nat.testBit_or, Nat.testBit_two_pow, Nat.testBit_two_pow]
          rcases hi with rfl | rfl <;> simp
        · have := hold (.inr ⟨j, by omega, hs, hi⟩)
          split
          · rw [Nat.testBit_or, this]; rfl
          · exact this
theorem getD_mem8 {ds : List Dr} {k : Nat} (h : k < ds.length) : ds.getD k default ∈ ds := by
  rw [List.getD_eq_getElem?_getD, List.getElem?_eq_getElem h]
  exact List.getElem_mem _
theorem nextF_mem {ds : List Dr} {S i : Nat} : (nextF ds S ds.length).testBit i = true ↔ (S.testBit i = true ∨ ∃ d ∈ ds, (S.testBit d.a.toNat = true ∨ S.testBit d.b.toNat = true) ∧ (i = d.a.toNat ∨ i = d.b.toNat)) := by
  rw [nextF_iff]
  constructor
  · rintro (h | ⟨j, hj, h⟩)
    · exact .inl h
    · exact .inr ⟨_, getD_mem8 hj, h⟩
  · rintro (h | ⟨d, hd, h⟩)
    · exact .inl h
    · obtain ⟨j, hj, rfl⟩ := List.mem_iff_getElem.1 hd
      refine .inr ⟨j, hj, ?_⟩
      rw [List.getD_eq_getElem?_getD, List.getElem?_eq_getElem hj]
      exact h
theorem spreadF_mono {ds ds2 : List Dr} (h : ∀ d ∈ ds, d ∈ ds2) {S i : Nat} : ∀ k : Nat, (spreadF ds S k).testBit i = true → (spreadF ds2 S k).testBit i = true := by
  intro k
  induction k generalizing i with
  | zero => exact fun h => h
  | succ k ih =>
    intro hk
    have hk2 := (nextF_mem (ds := ds)).1 hk
    refine (nextF_mem (ds := ds2)).2 ?_
    rcases hk2 with hk2 | ⟨d, hd, hs, hi⟩
    · exact .inl (ih hk2)
    · exact .inr ⟨d, h d hd, hs.imp ih ih, hi⟩
theorem openF_iff {ds : List Dr} {sl : List Int} {d : Dr} : ∀ k : Nat, d ∈ openF ds sl k ↔ ∃ j : Nat, j < k ∧ sl.contains (j : Int) = false ∧ d = ds.getD j default
  | 0 => by simp [openF]
  | k + 1 => by
    have ih := openF_iff (ds := ds) (sl := sl) (d := d) k
    unfold openF
    rw [List.mem_append, ih]
    constructor
    · rintro (⟨j, hj, h⟩ | h)
      · exact ⟨j, by omega, h⟩
      · split at h
        · cases h
        · next hc => exact ⟨k, by omega, by simpa using hc, List.mem_singleton.1 h⟩
    · rintro ⟨j, hj, hc, hd⟩
      by_cases hjk : j = k
      · subst hjk
        right
        rw [if_neg (by rw [hc]; decide)]
        exact List.mem_singleton.2 hd
      · exact .inl ⟨j, by omega, hc, hd⟩
/-- The first doors that are sealed, one of them by the way. -/
def moreF (sl : List Int) (door : Int) : Nat → List Int
  | 0 => []
  | k + 1 => moreF sl door k ++ if decide ((k : Int) = door) || sl.contains (k : Int) then [(k : Int)] else []
theorem moreF_iff {sl : List Int} {door z : Int} : ∀ k : Nat, z ∈ moreF sl door k ↔ ∃ j : Nat, j < k ∧ (decide ((j : Int) = door) || sl.contains (j : Int)) = true ∧ z = (j : Int)
  | 0 => by simp [moreF]
  | k + 1 => by
    have ih := moreF_iff (sl := sl) (door := door) (z := z) k
    unfold moreF
    rw [List.mem_append, ih]
    constructor
    · rintro (⟨j, hj, h⟩ | h)
      · exact ⟨j, by omega, h⟩
      · split at h
        · next hc => exact ⟨k, by omega, hc, List.mem_singleton.1 h⟩
        · cases h
    · rintro ⟨j, hj, hc, hd⟩
      by_cases hjk : j = k
      · subst hjk
        right
        rw [if_pos hc]
        exact List.mem_singleton.2 hd
      · exact .inl ⟨j, by omega, hc, hd⟩
theorem moreF_len (sl : List Int) (door : Int) : ∀ k : Nat, (moreF sl door k).length ≤ k
  | 0 => Nat.le_refl _
  | k + 1 => by
    have := moreF_len sl door k
    unfold moreF
    rw [List.length_append]
    split <;> simp <;> omega
/-- A row ascends exactly if each number is less than the next. -/
theorem ascF_iff {l : List Int} : ∀ n : Nat, ascF l n = true ↔ ∀ k : Nat, k + 1 < n → l.getD k 0 < l.getD (k + 1) 0
  | 0 => by simp [ascF]
  | n + 1 => by
    have ih := ascF_iff (l := l) n
    unfold ascF
    rw [Bool.and_eq_true, ih, Bool.or_eq_true, beq_iff_eq, decide_eq_true_eq]
    constructor
    · rintro ⟨h1, h2⟩ k hk
      by_cases hkn : k + 1 < n
      · exact h1 k hkn
      · have hkn2 : k + 1 = n := by omega
        rcases h2 with h2 | h2
        · omega
        · rw [← hkn2, Nat.add_sub_cancel] at h2
          exact h2
    · intro h
      refine ⟨fun k hk => h k (by omega), ?_⟩
      by_cases h0 : n = 0
      · exact .inl h0
      · right
        have := h (n - 1) (by omega)
        rwa [show n - 1 + 1 = n by omega] at this
theorem asc_snoc {l : List Int} {z : Int} (h : ascF l l.length = true) (hz : ∀ x ∈ l, x < z) : ascF (l ++ [z]) (l ++ [z]).length = true := by
  rw [ascF_iff] at h ⊢
  intro k hk
  rw [List.length_append, List.length_singleton] at hk
  by_cases hkl : k + 1 < l.length
  · have := h k hkl
    rw [List.getD_eq_getElem?_getD, List.getD_eq_getElem?_getD, List.getElem?_append_left (by omega), List.getElem?_append_left hkl, ← List.getD_eq_getElem?_getD, ← List.getD_eq_getElem?_getD]
    exact this
  · have hk2 : k + 1 = l.length := by omega
    rw [List.getD_eq_getElem?_getD, List.getD_eq_getElem?_getD, List.getElem?_append_left (by omega), List.getElem?_append_right (by omega), List.getElem?_eq_getElem (by omega)]
    have := hz l[k] (List.getElem_mem _)
    simpa [hk2] using this
theorem moreF_asc (sl : List Int) (door : Int) : ∀ k : Nat, ascF (moreF sl door k) (moreF sl door k).length = true
  | 0 => rfl
  | k + 1 => by
    have ih := moreF_asc sl door k
    unfold moreF
    split
    · refine asc_snoc ih fun x hx => ?_
      obtain ⟨j, hj, -, rfl⟩ := (moreF_iff k).1 hx
      omega
    · rw [List.append_nil]; exact ih
end Go.Proofs.Ythkamfjjfkpekaa.Pe
