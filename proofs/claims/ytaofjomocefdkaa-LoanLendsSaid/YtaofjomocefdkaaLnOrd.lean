/-
  Plain mathematics of loans: loans in order, the first two that overlap, and which loans are valid.
-/
import Derived.Test.YtaofjomocefdkaaLnEnter
namespace Go.Proofs.Ytaofjomocefdkaa.Ln
open Go

def chk (f : List Loan → Loan → Bool) : List Loan → List Loan → Bool
  | _, [] => true
  | pre, x :: r => f pre x && chk f (pre ++ [x]) r
theorem chk_snoc (f : List Loan → Loan → Bool) (pre l : List Loan) (x : Loan) : chk f pre (l ++ [x]) = (chk f pre l && f (pre ++ l) x) := by
  induction l generalizing pre with
  | nil => simp [chk]
  | cons y l ih =>
    rw [List.cons_append, chk, chk, ih, Bool.and_assoc, List.append_assoc, List.singleton_append]
theorem chk_take (f : List Loan → Loan → Bool) {l : List Loan} {k : Nat} {x : Loan} (hx : l[k]? = some x) : chk f [] (l.take (k + 1)) = (chk f [] (l.take k) && f (l.take k) x) := by
  have hk := (List.getElem?_eq_some_iff.1 hx).1
  have e : l[k] = x := (List.getElem?_eq_some_iff.1 hx).2
  rw [List.take_succ_eq_append_getElem hk, e, chk_snoc, List.nil_append]
theorem chk_more (f : List Loan → Loan → Bool) (pre l r : List Loan) (h : chk f pre l = false) : chk f pre (l ++ r) = false := by
  induction l generalizing pre with
  | nil => simp [chk] at h
  | cons y l ih =>
    rw [List.cons_append, chk]
    rw [chk] at h
    cases he : f pre y with
    | false => rfl
    | true =>
      rw [he, Bool.true_and] at h
      rw [ih _ h, Bool.and_false]
theorem chk_no (f : List Loan → Loan → Bool) {l : List Loan} {k : Nat} (h : chk f [] (l.take k) = false) : chk f [] l = false := by
  have := chk_more f [] (l.take k) (l.drop k) h
  rwa [List.take_append_drop] at this
/-- Valid one by one, in order, and not too many. -/
def ordL (l : List Loan) : Bool := chk folB [] l
def rnd (pre : List Loan) (x : Loan) : Bool := prevOk pre x && okB x
theorem chk_rnd (pre l : List Loan) : chk folB pre l = (chk rnd pre l && (l.isEmpty || decide (pre.length + l.length ≤ 200))) := by
  induction l generalizing pre with
  | nil => simp [chk]
  | cons x r ih =>
    rw [chk, chk, ih]
    unfold folB
    rw [show rnd pre x = (prevOk pre x && okB x) from rfl]
    have e : (decide (pre.length < 200) && (r.isEmpty || decide ((pre ++ [x]).length + r.length ≤ 200))) = decide (pre.length + (x :: r).length ≤ 200) := by
      rw [Bool.eq_iff_iff]
      cases r with
      | nil => simp; omega
      | cons y r => simp; omega
    have e2 : (x :: r).isEmpty = false := rfl
    rw [e2, Bool.false_or, ← e]
    generalize prevOk pre x = P
    generalize okB x = O
    generalize chk rnd (pre ++ [x]) r = C
    generalize decide (pre.length < 200) = D
    generalize (r.isEmpty || decide ((pre ++ [x]).length + r.length ≤ 200)) = G
    cases P <;> cases O <;> cases C <;> cases D <;> cases G <;> rfl
theorem ordL_rnd (l : List Loan) : ordL l = (chk rnd [] l && decide (l.length ≤ 200)) := by
  unfold ordL
  rw [chk_rnd]
  cases l with
  | nil => simp [chk]
  | cons x r => simp
def Good (pre : List Loan) : Prop := (∀ a ∈ pre, okB a = true) ∧ pre.Pairwise (fun a b => a.out ≤ b.out)
theorem prev_all {pre : List Loan} {x : Loan} (h : pre.Pairwise (fun a b => a.out ≤ b.out)) (hp : prevOk pre x = true) : ∀ a ∈ pre, a.out ≤ x.out := by
  rcases List.eq_nil_or_concat pre with rfl | ⟨P, y, rfl⟩
  · intro a ha; cases ha
  · unfold prevOk at hp
    simp only [List.concat_eq_append, List.getLast?_append, List.getLast?_singleton, Option.some_or, decide_eq_true_eq] at hp
    rw [List.concat_eq_append, List.pairwise_append] at h
    intro a ha
    rw [List.concat_eq_append, List.mem_append, List.mem_singleton] at ha
    rcases ha with ha | rfl
    · have := h.2.2 a ha y (by simp)
      omega
    · exact hp
theorem good_snoc {pre : List Loan} {x : Loan} (h : Good pre) (hf : folB pre x = true) : Good (pre ++ [x]) := by
  unfold folB at hf
  simp only [Bool.and_eq_true] at hf
  refine ⟨fun a ha => ?_, ?_⟩
  · rw [List.mem_append, List.mem_singleton] at ha
    rcases ha with ha | rfl
    · exact h.1 a ha
    · exact hf.2
  · rw [List.pairwise_append]
    refine ⟨h.2, List.pairwise_singleton _ _, fun a ha b hb => ?_⟩
    rw [List.mem_singleton] at hb
    subst hb
    exact prev_all h.2 hf.1.1 a ha
theorem chk_good {pre l : List Loan} (hg : Good pre) (h : chk folB pre l = true) : Good (pre ++ l) := by
  induction l generalizing pre with
  | nil => rwa [List.append_nil]
  | cons x r ih =>
    rw [chk, Bool.and_eq_true] at h
    have := ih (good_snoc hg h.1) h.2
    rwa [List.append_assoc, List.singleton_append] at this
theorem ordL_good {l : List Loan} (h : ordL l = true) : Good l := by
  have := chk_good (pre := []) (l := l) ⟨by simp, List.Pairwise.nil⟩ h
  rwa [List.nil_append] at this
theorem last_cl {pre : List Loan} {x : Loan} (hs : pre.Pairwise (fun a b => a.out ≤ b.out)) (hc : pre.Pairwise (fun a b => clB a b = false)) (hp : prevOk pre x = true) : lastOk (calL pre x.p) x.out = true ↔ ∀ a ∈ pre, clB a x = false := by
  have hall := prev_all hs hp
  unfold lastOk calL
  rw [List.getLast?_map]
  obtain ⟨F, hF⟩ : ∃ F, (pre.filter fun y => eqS y.p x.p) = F := ⟨_, rfl⟩
  have hcF : F.Pairwise (fun a b => clB a b = false) := by rw [← hF]; exact hc.sublist List.filter_sublist
  have hm : ∀ a, a ∈ F ↔ a ∈ pre ∧ eqS a.p x.p = true := by intro a; rw [← hF, List.mem_filter]
  rw [hF]
  rcases List.eq_nil_or_concat F with rfl | ⟨P, y, rfl⟩
  · simp only [List.getLast?_nil, Option.map_none, true_iff]
    intro a ha
    unfold clB
    cases he : eqS a.p x.p with
    | false => rfl
    | true => exact absurd ((hm a).2 ⟨ha, he⟩) (by simp)
  · simp only [List.concat_eq_append, List.getLast?_append, List.getLast?_singleton, Option.some_or, Option.map_some, decide_eq_true_eq] at hm hcF ⊢
    have hy := (hm y).1 (by simp)
    have hye := eqS_iff.1 hy.2
    rw [List.pairwise_append] at hcF
    constructor
    · intro hh a ha
      unfold clB
      cases he : eqS a.p x.p with
      | false => rfl
      | true =>
        rw [Bool.true_and, decide_eq_false_iff_not]
        have haF := (hm a).2 ⟨ha, he⟩
        rw [List.mem_append, List.mem_singleton] at haF
        rcases haF with haP | rfl
        · have h1 := hcF.2.2 a haP y (by simp)
          unfold clB at h1
          rw [eqS_iff.1 he, hye, eqS_refl, Bool.true_and, decide_eq_false_iff_not] at h1
          have := hall y hy.1
          omega
        · omega
    · intro hh
      have h1 := hh y hy.1
      unfold clB at h1
      rw [hy.2, Bool.true_and, decide_eq_false_iff_not] at h1
      omega
theorem vlB_iff {pre l : List Loan} (hg : Good pre) (hc : pre.Pairwise (fun a b => clB a b = false)) : vlB pre l = true ↔ chk folB pre l = true ∧ (pre ++ l).Pairwise (fun a b => clB a b = false) := by
  induction l generalizing pre with
  | nil => simp [vlB, chk, hc]
  | cons x r ih =>
    rw [vlB, chk, Bool.and_eq_true, Bool.and_eq_true]
    unfold entB
    rw [Bool.and_eq_true]
    have hstep : ∀ _ : folB pre x = true, (lastOk (calL pre x.p) x.out = true ↔ ∀ a ∈ pre, clB a x = false) := fun hf => by
      unfold folB at hf
      simp only [Bool.and_eq_true] at hf
      exact last_cl hg.2 hc hf.1.1
    have hap : pre ++ x :: r = (pre ++ [x]) ++ r := by rw [List.append_assoc, List.singleton_append]
    constructor
    · rintro ⟨⟨h1, h2⟩, h3⟩
      have hc2 : (pre ++ [x]).Pairwise (fun a b => clB a b = false) := by
        rw [List.pairwise_append]
        refine ⟨hc, List.pairwise_singleton _ _, fun a ha b hb => ?_⟩
        rw [List.mem_singleton] at hb
        subst hb
        exact (hstep h1).1 h2 a ha
      have := (ih (good_snoc hg h1) hc2).1 h3
      exact ⟨⟨h1, this.1⟩, by rw [hap]; exact this.2⟩
    · rintro ⟨⟨h1, h2⟩, h3⟩
      rw [hap] at h3
      have hc2 := (List.pairwise_append.1 h3).1
      have h4 := (List.pairwise_append.1 hc2).2.2
      exact ⟨⟨h1, (hstep h1).2 fun a ha => h4 a ha x (by simp)⟩, (ih (good_snoc hg h1) hc2).2 ⟨h2, h3⟩⟩
/-- The first two of which something holds. -/
def fstPair (R : Loan → Loan → Bool) : Nat → List Loan → Option (Nat × Nat)
  | _, [] => none
  | i, x :: r => match r.findIdx? (R x) with
    | some k => some (i, i + 1 + k)
    | none => fstPair R (i + 1) r
theorem fst_none (R : Loan → Loan → Bool) (i : Nat) (l : List Loan) : fstPair R i l = none ↔ l.Pairwise (fun a b => R a b = false) := by
  induction l generalizing i with
  | nil => simp [fstPair]
  | cons x r ih =>
    rw [fstPair, List.pairwise_cons]
    cases h : r.findIdx? (R x) with
    | none =>
      rw [List.findIdx?_eq_none_iff] at h
      simp only
      rw [ih]
      exact ⟨fun h2 => ⟨h, h2⟩, fun h2 => h2.2⟩
    | some k =>
      simp only [reduceCtorEq, false_iff]
      rintro ⟨h1, -⟩
      rw [List.findIdx?_eq_none_iff.2 h1] at h
      cases h
theorem idx_congr {f g : Loan → Bool} {r : List Loan} (h : ∀ b ∈ r, f b = g b) : r.findIdx? f = r.findIdx? g := by
  induction r with
  | nil => rfl
  | cons y r ih =>
    rw [List.findIdx?_cons, List.findIdx?_cons, h y (by simp), ih fun b hb => h b (by simp [hb])]
theorem fst_congr {R S : Loan → Loan → Bool} {l : List Loan} (i : Nat) (h : l.Pairwise (fun a b => R a b = S a b)) : fstPair R i l = fstPair S i l := by
  induction l generalizing i with
  | nil => rfl
  | cons x r ih =>
    rw [List.pairwise_cons] at h
    rw [fstPair, fstPair, idx_congr h.1, ih _ h.2]
/-- The later one begins before the earlier one is over. -/
def ovB (a b : Loan) : Bool := eqS a.p b.p && (decide (a.back = 0) || decide (b.out < a.back))
/-- The same, as the program asks it of the later one. -/
def csB (a b : Loan) : Bool := eqS b.p a.p && (decide (a.out ≤ b.out) && decide (b.out < home a))
theorem eqS_comm (a b : ByteArray) : eqS a b = eqS b a := by
  rw [Bool.eq_iff_iff, eqS_iff, eqS_iff]
  exact ⟨fun h => h.symm, fun h => h.symm⟩
theorem okB_lt {x : Loan} (h : okB x = true) : x.out < 100001 := by
  unfold okB at h
  simp only [Bool.and_eq_true, decide_eq_true_eq] at h
  have := h.2.2
  omega
theorem ov_cl {a b : Loan} (hb : okB b = true) : ovB a b = clB a b := by
  have h := okB_lt hb
  unfold ovB clB home
  by_cases h0 : a.back = 0
  · simp [h0]; intro _; omega
  · simp [h0]
theorem cs_ov {a b : Loan} (hb : okB b = true) (h : a.out ≤ b.out) : csB a b = ovB a b := by
  rw [ov_cl hb]
  unfold csB clB
  rw [eqS_comm, decide_eq_true h, Bool.true_and]
theorem good_cs {l : List Loan} (h : Good l) : l.Pairwise (fun a b => csB a b = ovB a b) := by
  obtain ⟨h1, h2⟩ := h
  induction l with
  | nil => exact List.Pairwise.nil
  | cons x r ih =>
    rw [List.pairwise_cons] at h2 ⊢
    exact ⟨fun b hb => cs_ov (h1 b (by simp [hb])) (h2.1 b hb), ih (fun a ha => h1 a (by simp [ha])) h2.2⟩
theorem good_cl {l : List Loan} (h : ∀ a ∈ l, okB a = true) : l.Pairwise (fun a b => ovB a b = false) ↔ l.Pairwise (fun a b => clB a b = false) := by
  induction l with
  | nil => simp
  | cons x r ih =>
    rw [List.pairwise_cons, List.pairwise_cons, ih fun a ha => h a (by simp [ha])]
    constructor
    · rintro ⟨h1, h2⟩; exact ⟨fun b hb => by rw [← ov_cl (h b (by simp [hb]))]; exact h1 b hb, h2⟩
    · rintro ⟨h1, h2⟩; exact ⟨fun b hb => by rw [ov_cl (h b (by simp [hb]))]; exact h1 b hb, h2⟩
theorem validL_eq (l : List Loan) : validL l = (ordL l && (fstPair ovB 0 l).isNone) := by
  rw [Bool.eq_iff_iff, Bool.and_eq_true, Option.isNone_iff_eq_none, fst_none]
  unfold validL
  rw [vlB_iff (pre := []) ⟨by simp, List.Pairwise.nil⟩ List.Pairwise.nil, List.nil_append]
  constructor
  · rintro ⟨h1, h2⟩; exact ⟨h1, (good_cl (ordL_good h1).1).2 h2⟩
  · rintro ⟨h1, h2⟩; exact ⟨h1, (good_cl (ordL_good h1).1).1 h2⟩
/-- What Overlap answers: two indexes and an error. -/
def ovA (l : List Loan) : Int × Int × Int := if ordL l = true then (match fstPair ovB 0 l with | some (i, j) => ((i : Int), (j : Int), 0) | none => (0, 0, 8)) else (0, 0, 1)
theorem ovA_no {l : List Loan} (h : ordL l = false) : ovA l = (0, 0, 1) := by unfold ovA; rw [h]; rfl
theorem ovA_none {l : List Loan} (h : ordL l = true) (h2 : fstPair ovB 0 l = none) : ovA l = (0, 0, 8) := by unfold ovA; rw [h, h2]; rfl
theorem ovA_some {l : List Loan} {i j : Nat} (h : ordL l = true) (h2 : fstPair ovB 0 l = some (i, j)) : ovA l = ((i : Int), (j : Int), 0) := by unfold ovA; rw [h, h2]; rfl
theorem valid_ovA (l : List Loan) : validL l = decide ((ovA l).2.2 = 8) := by
  rw [validL_eq]
  cases h : ordL l with
  | false => rw [ovA_no h]; rfl
  | true =>
    cases h2 : fstPair ovB 0 l with
    | none => rw [ovA_none h h2]; rfl
    | some p => obtain ⟨i, j⟩ := p; rw [ovA_some h h2]; rfl
end Go.Proofs.Ytaofjomocefdkaa.Ln
