/-
  Plain mathematics of loans: one more.
-/
import Derived.Test.YtaofjomocefdkaaLnBackP
namespace Go.Proofs.Ytaofjomocefdkaa.Ln
open Go Go.RowKit Go.Sort

/-- Whether one more loan may follow, as the program asks it, and as the reference asks it. -/
def mayB (l : List Loan) (x : Loan) : Bool := prevOk l x && lastOk (calL l x.p) x.out
def rmayB (l : List Loan) (x : Loan) : Bool := l.all fun y => !(decide (x.out < y.out) || ovB y x)
def lndB (l : List Loan) (x : Loan) : Bool := (validL l && okB x) && (x.back == 0)
def lendE (l : List Loan) (x : Loan) : Int := if lndB l x = true then (if mayB l x = true then (if l.length = 200 then 4 else 0) else 9) else 1
def lendL (l : List Loan) (x : Loan) : List Loan := if lendE l x = 0 then l ++ [x] else []
theorem may_eq {l : List Loan} {x : Loan} (hv : validL l = true) (hx : okB x = true) : mayB l x = rmayB l x := by
  obtain ⟨hg, -, hc⟩ := valid_good hv
  rw [Bool.eq_iff_iff]
  unfold mayB rmayB
  rw [Bool.and_eq_true, List.all_eq_true]
  constructor
  · rintro ⟨h1, h2⟩ y hy
    have h3 := prev_all hg.2 h1 y hy
    have h4 := (last_cl hg.2 hc h1).1 h2 y hy
    rw [ov_cl hx, h4, decide_eq_false (show ¬ x.out < y.out by omega)]
    rfl
  · intro h
    have h1 : prevOk l x = true := by
      rcases List.eq_nil_or_concat l with rfl | ⟨P, y, rfl⟩
      · rfl
      · have := h y (by simp)
        simp only [Bool.not_eq_true', Bool.or_eq_false_iff, decide_eq_false_iff_not] at this
        unfold prevOk
        simp only [List.concat_eq_append, List.getLast?_append, List.getLast?_singleton, Option.some_or, decide_eq_true_eq]
        omega
    refine ⟨h1, (last_cl hg.2 hc h1).2 fun a ha => ?_⟩
    have := h a ha
    simp only [Bool.not_eq_true', Bool.or_eq_false_iff, decide_eq_false_iff_not] at this
    rw [← ov_cl hx]
    exact this.2
theorem lendE_zero {l : List Loan} {x : Loan} (h : lendE l x = 0) : validL l = true ∧ okB x = true ∧ x.back = 0 ∧ mayB l x = true ∧ l.length ≠ 200 := by
  unfold lendE at h
  by_cases h1 : lndB l x = true
  · rw [if_pos h1] at h
    by_cases h2 : mayB l x = true
    · rw [if_pos h2] at h
      by_cases h3 : l.length = 200
      · rw [if_pos h3] at h
        cases h
      · unfold lndB at h1
        simp only [Bool.and_eq_true, beq_iff_eq] at h1
        exact ⟨h1.1.1, h1.1.2, h1.2, h2, h3⟩
    · rw [if_neg h2] at h
      cases h
  · rw [if_neg h1] at h
    cases h
theorem lend_valid {l : List Loan} {x : Loan} (h : lendE l x = 0) : validL (l ++ [x]) = true := by
  obtain ⟨h1, h2, -, h4, h5⟩ := lendE_zero h
  have hl := validL_len h1
  unfold mayB at h4
  rw [Bool.and_eq_true] at h4
  rw [validL_snoc, h1, Bool.true_and]
  unfold entB folB
  rw [h4.1, h4.2, h2, decide_eq_true (show l.length < 200 by omega)]
  rfl
theorem lend_where {l : List Loan} {x : Loan} (h : lendE l x = 0) : (whE (l ++ [x]) x.p x.out = 0 ∧ whV (l ++ [x]) x.p x.out = x.t) ∧ whE (l ++ [x]) x.p 100000 = 0 ∧ whV (l ++ [x]) x.p 100000 = x.t := by
  have hv := lend_valid h
  obtain ⟨h1, h2, h3, -, -⟩ := lendE_zero h
  obtain ⟨p1, p2, p3, -⟩ := okB_parts h2
  have e : ∀ d : Int, 0 ≤ d → d ≤ 100000 → whE (l ++ [x]) x.p d = 0 := fun d a b => by
    unfold whE allIn
    rw [hv, p1]
    simp [a, b, chkE]
  have o : ∀ d : Int, x.out ≤ d → d ≤ 100000 → outB x d = true := fun d a b => by
    unfold outB home
    rw [if_pos h3, decide_eq_true a, decide_eq_true (show d < 100001 by omega)]
    rfl
  have e1 := e x.out p3.1 (by omega)
  have e2 := e 100000 (by decide) (by decide)
  exact ⟨⟨e1, whV_eq e1 (.inl ⟨x, by simp, eqS_refl _, o _ (Int.le_refl _) (by omega), rfl⟩)⟩, e2, whV_eq e2 (.inl ⟨x, by simp, eqS_refl _, o _ (by omega) (by decide), rfl⟩)⟩
end Go.Proofs.Ytaofjomocefdkaa.Ln
