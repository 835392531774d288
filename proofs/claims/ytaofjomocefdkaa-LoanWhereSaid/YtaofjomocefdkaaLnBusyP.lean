/-
  Plain mathematics of loans: the first day on which the most loans are out.
-/
import Derived.Test.YtaofjomocefdkaaLnIndex
import Derived.Test.YtaofjomocefdkaaLnOrd
namespace Go.Proofs.Ytaofjomocefdkaa.Ln
open Go Go.RowKit Go.Sort

/-- How many loans are out on a day. -/
def cntL (l : List Loan) (d : Int) : Nat := (l.filter fun x => outB x d).length
theorem idL_cnt (l : List Loan) (d : Int) : (idL (ixL (fun x => outB x d) l)).length = cntL l d := by
  rw [idL_len]
  unfold cntL
  rw [← ixL_snd, List.length_map]
theorem cntL_le (l : List Loan) (d : Int) : cntL l d ≤ l.length := List.length_filter_le _ _
/-- The first of the greatest, one after the other. -/
def bzF (c : Loan → Nat) : List Loan → Int × Nat → Int × Nat
  | [], p => p
  | x :: r, p => bzF c r (if p.2 < c x then (x.out, c x) else p)
theorem bzF_snoc (c : Loan → Nat) (l : List Loan) (x : Loan) (p : Int × Nat) : bzF c (l ++ [x]) p = if (bzF c l p).2 < c x then (x.out, c x) else bzF c l p := by
  induction l generalizing p with
  | nil => rfl
  | cons y l ih => rw [List.cons_append, bzF, bzF, ih]
def bzL (l : List Loan) (k : Nat) : Int × Nat := bzF (fun x => cntL l x.out) (l.take k) (0, 0)
theorem bzL_zero (l : List Loan) : bzL l 0 = (0, 0) := rfl
theorem bzL_succ {l : List Loan} {k : Nat} {x : Loan} (hx : l[k]? = some x) : bzL l (k + 1) = if (bzL l k).2 < cntL l x.out then (x.out, cntL l x.out) else bzL l k := by
  have hk := (List.getElem?_eq_some_iff.1 hx).1
  have e : l[k] = x := (List.getElem?_eq_some_iff.1 hx).2
  unfold bzL
  rw [List.take_succ_eq_append_getElem hk, e, bzF_snoc]
theorem bzF_le (c : Loan → Nat) {M : Nat} : ∀ (l : List Loan) (p : Int × Nat), p.2 ≤ M → (∀ x ∈ l, c x ≤ M) → (bzF c l p).2 ≤ M
  | [], _, hp, _ => hp
  | x :: r, p, hp, h => by
    rw [bzF]
    refine bzF_le c r _ ?_ fun y hy => h y (by simp [hy])
    split
    · exact h x (by simp)
    · exact hp
theorem bzL_le (l : List Loan) (k : Nat) : (bzL l k).2 ≤ l.length := bzF_le _ _ _ (Nat.zero_le _) fun _ _ => cntL_le _ _
theorem bzF_spec (c : Loan → Nat) : ∀ (l : List Loan) (p : Int × Nat), l.Pairwise (fun a b => a.out ≤ b.out) → (∀ x ∈ l, p.1 ≤ x.out) →
    (∀ x ∈ l, c x ≤ (bzF c l p).2) ∧ p.2 ≤ (bzF c l p).2 ∧ (∀ x ∈ l, c x = (bzF c l p).2 → (bzF c l p).1 ≤ x.out) ∧ (p.2 = (bzF c l p).2 → (bzF c l p).1 = p.1)
  | [], p, _, _ => ⟨by simp, Nat.le_refl _, by simp, fun _ => rfl⟩
  | x :: r, p, hs, hp => by
    rw [bzF]
    rw [List.pairwise_cons] at hs
    obtain ⟨p', hp'⟩ : ∃ p', (if p.2 < c x then (x.out, c x) else p) = p' := ⟨_, rfl⟩
    rw [hp']
    have hcs : (p.2 < c x ∧ p' = (x.out, c x)) ∨ (c x ≤ p.2 ∧ p' = p) := by
      by_cases h : p.2 < c x
      · exact .inl ⟨h, by rw [← hp', if_pos h]⟩
      · exact .inr ⟨by omega, by rw [← hp', if_neg h]⟩
    have hx := hp x (by simp)
    obtain ⟨h1, h2, h3, h4⟩ := bzF_spec c r p' hs.2 fun y hy => by
      rcases hcs with ⟨-, rfl⟩ | ⟨-, rfl⟩
      · exact hs.1 y hy
      · exact hp y (by simp [hy])
    have hc : c x ≤ p'.2 ∧ p.2 ≤ p'.2 ∧ p'.1 ≤ x.out := by
      rcases hcs with ⟨h, rfl⟩ | ⟨h, rfl⟩
      · exact ⟨Nat.le_refl _, Nat.le_of_lt h, Int.le_refl _⟩
      · exact ⟨h, Nat.le_refl _, hx⟩
    refine ⟨fun y hy => ?_, by omega, fun y hy he => ?_, fun he => ?_⟩
    · rcases List.mem_cons.1 hy with rfl | hy
      · omega
      · exact h1 y hy
    · rcases List.mem_cons.1 hy with rfl | hy
      · rw [h4 (by omega)]; exact hc.2.2
      · exact h3 y hy he
    · rw [h4 (by omega)]
      rcases hcs with ⟨h, rfl⟩ | ⟨h, rfl⟩
      · simp only at *; omega
      · rfl
theorem last_out {l : List Loan} {d : Int} (hs : l.Pairwise (fun a b => a.out ≤ b.out)) (h : 0 < cntL l d) : ∃ x ∈ l, outB x d = true ∧ cntL l d ≤ cntL l x.out := by
  obtain ⟨F, hF⟩ : ∃ F, (l.filter fun x => outB x d) = F := ⟨_, rfl⟩
  have hm : ∀ a, a ∈ F ↔ a ∈ l ∧ outB a d = true := by intro a; rw [← hF, List.mem_filter]
  have hsF : F.Pairwise (fun a b => a.out ≤ b.out) := by rw [← hF]; exact hs.sublist List.filter_sublist
  have hlen : 0 < F.length := by unfold cntL at h; rwa [hF] at h
  rcases List.eq_nil_or_concat F with rfl | ⟨P, x, rfl⟩
  · simp at hlen
  · have hx := (hm x).1 (by simp)
    rw [List.concat_eq_append, List.pairwise_append] at hsF
    refine ⟨x, hx.1, hx.2, ?_⟩
    unfold cntL
    have e : (l.filter fun y => outB y d) = (l.filter fun y => outB y x.out).filter fun y => outB y d := by
      rw [List.filter_filter]
      refine List.filter_congr fun y hy => ?_
      cases hyd : outB y d with
      | false => rfl
      | true =>
        have hyF := (hm y).2 ⟨hy, hyd⟩
        have hle : y.out ≤ x.out := by
          rw [List.concat_eq_append, List.mem_append, List.mem_singleton] at hyF
          rcases hyF with hyF | rfl
          · exact hsF.2.2 y hyF x (by simp)
          · exact Int.le_refl _
        have h1 := hx.2
        unfold outB at hyd h1 ⊢
        simp only [Bool.and_eq_true, decide_eq_true_eq] at hyd h1
        rw [decide_eq_true hle, decide_eq_true (show x.out < home y by omega)]
        rfl
    rw [e]
    exact List.length_filter_le _ _
theorem own_out {x : Loan} (h : okB x = true) : outB x x.out = true := by
  have : x.out < home x := by
    unfold okB at h
    simp only [Bool.and_eq_true, decide_eq_true_eq] at h
    have h2 := h.2.2
    unfold home
    split <;> omega
  unfold outB
  rw [decide_eq_true (Int.le_refl _), decide_eq_true this]
  rfl
theorem okB_out {x : Loan} (h : okB x = true) : 0 ≤ x.out ∧ x.out ≤ 100000 := by
  unfold okB at h
  simp only [Bool.and_eq_true, decide_eq_true_eq] at h
  omega
/-- On no day more are out than on the busiest, and as many on none before it. -/
theorem busy_most {l : List Loan} (hv : validL l = true) (hn : l ≠ []) (d : Int) : cntL l d < (bzL l l.length).2 ∨ (cntL l d = (bzL l l.length).2 ∧ (bzL l l.length).1 ≤ d) := by
  have hg : Good l := by
    rw [validL_eq, Bool.and_eq_true] at hv
    exact ordL_good hv.1
  have hsp := bzF_spec (fun x => cntL l x.out) l (0, 0) hg.2 fun x hx => (okB_out (hg.1 x hx)).1
  have e : bzL l l.length = bzF (fun x => cntL l x.out) l (0, 0) := by unfold bzL; rw [List.take_length]
  rw [← e] at hsp
  obtain ⟨h1, -, h3, -⟩ := hsp
  rcases Nat.eq_zero_or_pos (cntL l d) with h0 | h0
  · obtain ⟨x, hx⟩ := List.exists_mem_of_ne_nil l hn
    have : 0 < cntL l x.out := List.length_pos_of_mem (List.mem_filter.2 ⟨hx, own_out (hg.1 x hx)⟩)
    have := h1 x hx
    omega
  · obtain ⟨x, hx, hxd, hle⟩ := last_out hg.2 h0
    have h4 := h1 x hx
    have h5 := h3 x hx
    unfold outB at hxd
    simp only [Bool.and_eq_true, decide_eq_true_eq] at hxd
    by_cases h : cntL l d < (bzL l l.length).2
    · exact .inl h
    · have := h5 (by omega)
      exact .inr ⟨by omega, by omega⟩
end Go.Proofs.Ytaofjomocefdkaa.Ln
