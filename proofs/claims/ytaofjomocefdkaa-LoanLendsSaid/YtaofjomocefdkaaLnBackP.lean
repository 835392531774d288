/-
  Plain mathematics of loans: one loan changed, and what stays valid.
-/
import Derived.Test.YtaofjomocefdkaaLnSeen
namespace Go.Proofs.Ytaofjomocefdkaa.Ln
open Go Go.RowKit Go.Sort

def openB (s : ByteArray) (x : Loan) : Bool := eqS x.p s && (x.back == 0)
theorem ix_first {q : Loan → Bool} : ∀ (l : List Loan) (n : Nat) (y : Nat × Loan) (t : List (Nat × Loan)), (((l.zipIdx n).filter fun p => q p.1).map fun p => (p.2, p.1)) = y :: t → ∃ i, y.1 = n + i ∧ l.findIdx? q = some i ∧ l[i]? = some y.2
  | [], n, y, t, h => by simp at h
  | x :: r, n, y, t, h => by
    rw [List.zipIdx_cons] at h
    cases hq : q x with
    | true =>
      rw [List.filter_cons_of_pos (by exact hq), List.map_cons, List.cons.injEq] at h
      refine ⟨0, by rw [← h.1]; rfl, by rw [List.findIdx?_cons, hq]; rfl, by rw [← h.1]; rfl⟩
    | false =>
      rw [List.filter_cons_of_neg (by simp [hq])] at h
      obtain ⟨i, h1, h2, h3⟩ := ix_first r (n + 1) y t h
      refine ⟨i + 1, by omega, ?_, by simpa using h3⟩
      rw [List.findIdx?_cons, hq, h2]
      rfl
theorem ixL_first {q : Loan → Bool} {l : List Loan} {y : Nat × Loan} {t : List (Nat × Loan)} (h : ixL q l = y :: t) : l.findIdx? q = some y.1 ∧ l[y.1]? = some y.2 := by
  unfold ixL ixP at h
  rw [List.take_of_length_le (by simp)] at h
  obtain ⟨i, h1, h2, h3⟩ := ix_first l 0 y t h
  rw [Nat.zero_add] at h1
  rw [h1]
  exact ⟨h2, h3⟩
theorem ixL_none {q : Loan → Bool} {l : List Loan} (h : ixL q l = []) : l.findIdx? q = none := by
  rw [List.findIdx?_eq_none_iff]
  intro x hx
  have : l.filter q = [] := by rw [← ixL_snd, h]; rfl
  rw [List.filter_eq_nil_iff] at this
  simpa using this x hx
/-- What is answered where one loan is changed: the loans and an error. -/
def chgE (l : List Loan) (s : ByteArray) (d : Int) (ok : Loan → Bool) : Int := if whE l s d = 0 then (match l.findIdx? (openB s) with
  | none => 8
  | some i => match l[i]? with
    | some x => if ok x = true then 0 else 9
    | none => 8) else whE l s d
def chgL (l : List Loan) (s : ByteArray) (d : Int) (ok : Loan → Bool) (ch : Loan → Loan) : List Loan := if whE l s d = 0 then (match l.findIdx? (openB s) with
  | none => []
  | some i => match l[i]? with
    | some x => if ok x = true then l.set i (ch x) else []
    | none => []) else []
theorem chg_err {l : List Loan} {s : ByteArray} {d : Int} {ok : Loan → Bool} {ch : Loan → Loan} (h : whE l s d ≠ 0) : chgE l s d ok = whE l s d ∧ chgL l s d ok ch = [] := by
  unfold chgE chgL
  rw [if_neg h, if_neg h]
  exact ⟨rfl, rfl⟩
theorem chg_none {l : List Loan} {s : ByteArray} {d : Int} {ok : Loan → Bool} {ch : Loan → Loan} (h : whE l s d = 0) (hf : l.findIdx? (openB s) = none) : chgE l s d ok = 8 ∧ chgL l s d ok ch = [] := by
  unfold chgE chgL
  rw [if_pos h, if_pos h, hf]
  exact ⟨rfl, rfl⟩
theorem chg_no {l : List Loan} {s : ByteArray} {d : Int} {ok : Loan → Bool} {ch : Loan → Loan} {i : Nat} {x : Loan} (h : whE l s d = 0) (hf : l.findIdx? (openB s) = some i) (hx : l[i]? = some x) (hk : ok x = false) : chgE l s d ok = 9 ∧ chgL l s d ok ch = [] := by
  unfold chgE chgL
  rw [if_pos h, if_pos h, hf]
  simp only [hx, hk]
  exact ⟨rfl, rfl⟩
theorem chg_yes {l : List Loan} {s : ByteArray} {d : Int} {ok : Loan → Bool} {ch : Loan → Loan} {i : Nat} {x : Loan} (h : whE l s d = 0) (hf : l.findIdx? (openB s) = some i) (hx : l[i]? = some x) (hk : ok x = true) : chgE l s d ok = 0 ∧ chgL l s d ok ch = l.set i (ch x) := by
  unfold chgE chgL
  rw [if_pos h, if_pos h, hf]
  simp only [hx, hk]
  exact ⟨rfl, rfl⟩
/-- All that no error leaves: which loan is changed. -/
theorem chg_zero {l : List Loan} {s : ByteArray} {d : Int} {ok : Loan → Bool} (ch : Loan → Loan) (h : chgE l s d ok = 0) : whE l s d = 0 ∧ ∃ i x, l[i]? = some x ∧ openB s x = true ∧ ok x = true ∧ chgL l s d ok ch = l.set i (ch x) := by
  by_cases h0 : whE l s d = 0
  · refine ⟨h0, ?_⟩
    cases hf : l.findIdx? (openB s) with
    | none => rw [(chg_none (ch := ch) h0 hf).1] at h; cases h
    | some i =>
      obtain ⟨hi, hq, -⟩ := List.findIdx?_eq_some_iff_getElem.1 hf
      have hx : l[i]? = some l[i] := List.getElem?_eq_getElem hi
      cases hk : ok l[i] with
      | false => rw [(chg_no (ch := ch) h0 hf hx hk).1] at h; cases h
      | true => exact ⟨i, l[i], hx, hq, hk, (chg_yes h0 hf hx hk).2⟩
  · rw [(chg_err (ch := ch) h0).1] at h
    exact absurd h h0
theorem good_chk2 {pre l : List Loan} (h : Good (pre ++ l)) : chk rnd pre l = true := by
  induction l generalizing pre with
  | nil => rfl
  | cons x r ih =>
    rw [chk, Bool.and_eq_true]
    refine ⟨?_, ih (by rwa [List.append_assoc, List.singleton_append])⟩
    unfold rnd
    rw [Bool.and_eq_true]
    refine ⟨?_, h.1 x (by simp)⟩
    rcases List.eq_nil_or_concat pre with rfl | ⟨P, y, rfl⟩
    · rfl
    · unfold prevOk
      simp only [List.concat_eq_append, List.getLast?_append, List.getLast?_singleton, Option.some_or, decide_eq_true_eq]
      exact (List.pairwise_append.1 h.2).2.2 y (by simp) x (by simp)
theorem valid_good {l : List Loan} (h : validL l = true) : Good l ∧ l.length ≤ 200 ∧ l.Pairwise (fun a b => clB a b = false) := by
  refine ⟨?_, validL_len h, valid_cl2 h⟩
  rw [validL_eq, Bool.and_eq_true] at h
  exact ordL_good h.1
theorem valid_of {l : List Loan} (hg : Good l) (hn : l.length ≤ 200) (hc : l.Pairwise (fun a b => clB a b = false)) : validL l = true := by
  rw [validL_eq, Bool.and_eq_true, Option.isNone_iff_eq_none, fst_none]
  refine ⟨?_, (good_cl hg.1).2 hc⟩
  rw [ordL_rnd, good_chk2 (pre := []) (by rwa [List.nil_append]), Bool.true_and]
  exact decide_eq_true hn
theorem set_cases {l : List Loan} {i j : Nat} {x' y : Loan} (h : (l.set i x')[j]? = some y) : (j = i ∧ y = x') ∨ (j ≠ i ∧ l[j]? = some y) := by
  by_cases e : i = j
  · subst e
    rw [List.getElem?_set] at h
    simp only [if_true] at h
    split at h
    · exact .inl ⟨rfl, (Option.some.inj h).symm⟩
    · cases h
  · rw [List.getElem?_set_ne e] at h
    exact .inr ⟨fun h2 => e h2.symm, h⟩
theorem pair_at {l : List Loan} {R : Loan → Loan → Prop} : l.Pairwise R ↔ ∀ (i j : Nat) (a b : Loan), i < j → l[i]? = some a → l[j]? = some b → R a b := by
  rw [List.pairwise_iff_getElem]
  constructor
  · intro h i j a b hij ha hb
    obtain ⟨hi, rfl⟩ := List.getElem?_eq_some_iff.1 ha
    obtain ⟨hj, rfl⟩ := List.getElem?_eq_some_iff.1 hb
    exact h i j hi hj hij
  · intro h i j hi hj hij
    exact h i j _ _ hij (List.getElem?_eq_getElem hi) (List.getElem?_eq_getElem hj)
/-- A loan changed that goes out as before and comes back no later: the loans stay valid. -/
theorem valid_set {l : List Loan} {i : Nat} {x x' : Loan} (h : validL l = true) (hx : l[i]? = some x) (hp : x'.p = x.p) (ho : x'.out = x.out) (hk : okB x' = true) (hh : home x' ≤ home x) : validL (l.set i x') = true := by
  obtain ⟨hg, hn, hc⟩ := valid_good h
  refine valid_of ⟨fun a ha => ?_, ?_⟩ (by rw [List.length_set]; exact hn) ?_
  · rcases List.mem_or_eq_of_mem_set ha with ha | rfl
    · exact hg.1 a ha
    · exact hk
  · rw [pair_at]
    have h2 := pair_at.1 hg.2
    intro m j a b hmj ha hb
    rcases set_cases ha with ⟨em, ea⟩ | ⟨h3, ha⟩ <;> rcases set_cases hb with ⟨ej, eb⟩ | ⟨h4, hb⟩
    · omega
    · rw [ea, ho]; exact h2 i j x b (em ▸ hmj) hx hb
    · rw [eb, ho]; exact h2 m i a x (ej ▸ hmj) ha hx
    · exact h2 m j a b hmj ha hb
  · rw [pair_at]
    have h2 := pair_at.1 hc
    intro m j a b hmj ha hb
    rcases set_cases ha with ⟨em, ea⟩ | ⟨h3, ha⟩ <;> rcases set_cases hb with ⟨ej, eb⟩ | ⟨h4, hb⟩
    · omega
    · have h5 := h2 i j x b (em ▸ hmj) hx hb
      rw [ea]
      unfold clB at h5 ⊢
      rw [hp]
      cases he : eqS x.p b.p with
      | false => rfl
      | true =>
        rw [he, Bool.true_and, decide_eq_false_iff_not] at h5
        rw [Bool.true_and, decide_eq_false_iff_not]
        omega
    · have h5 := h2 m i a x (ej ▸ hmj) ha hx
      rw [eb]
      unfold clB at h5 ⊢
      rw [hp, ho]
      exact h5
    · exact h2 m j a b hmj ha hb
def backL (d : Int) (x : Loan) : Loan := ⟨x.p, x.t, x.out, x.due, d⟩
def backOk (d : Int) (x : Loan) : Bool := decide (x.out < d)
def dueL (d : Int) (x : Loan) : Loan := ⟨x.p, x.t, x.out, d, x.back⟩
def dueOk (d : Int) (x : Loan) : Bool := decide (x.due < d)
theorem okB_parts {x : Loan} (h : okB x = true) : nameB x.p = true ∧ nameB x.t = true ∧ (0 ≤ x.out ∧ x.out < x.due ∧ x.due ≤ 100000) ∧ (x.back = 0 ∨ x.out < x.back ∧ x.back ≤ 100000) := by
  unfold okB at h
  simp only [Bool.and_eq_true, decide_eq_true_eq] at h
  exact ⟨h.1, h.2.1, h.2.2.1, h.2.2.2⟩
theorem okB_mk {x : Loan} (h1 : nameB x.p = true) (h2 : nameB x.t = true) (h3 : 0 ≤ x.out ∧ x.out < x.due ∧ x.due ≤ 100000) (h4 : x.back = 0 ∨ x.out < x.back ∧ x.back ≤ 100000) : okB x = true := by
  unfold okB
  rw [h1, h2, decide_eq_true ⟨h3, h4⟩]
  rfl
theorem openB_iff {s : ByteArray} {x : Loan} (h : openB s x = true) : x.p = s ∧ x.back = 0 := by
  unfold openB at h
  simp only [Bool.and_eq_true, beq_iff_eq] at h
  exact ⟨eqS_iff.1 h.1, h.2⟩
theorem back_valid {l : List Loan} {s : ByteArray} {d : Int} (h : chgE l s d (backOk d) = 0) : validL (chgL l s d (backOk d) (backL d)) = true := by
  obtain ⟨h0, i, x, hx, hq, hk, he⟩ := chg_zero (backL d) h
  obtain ⟨hv, hd⟩ := whE_zero h0
  obtain ⟨hp, hb⟩ := openB_iff hq
  have hok := okB_parts (validL_ok hv (List.mem_of_getElem? hx))
  have hk2 : x.out < d := of_decide_eq_true hk
  rw [he]
  refine valid_set hv hx rfl rfl (okB_mk hok.1 hok.2.1 hok.2.2.1 (.inr ⟨hk2, hd⟩)) ?_
  unfold home backL
  rw [if_pos hb]
  simp only
  rw [if_neg (by omega)]
  omega
theorem due_valid {l : List Loan} {s : ByteArray} {d : Int} (h : chgE l s d (dueOk d) = 0) : validL (chgL l s d (dueOk d) (dueL d)) = true := by
  obtain ⟨h0, i, x, hx, hq, hk, he⟩ := chg_zero (dueL d) h
  obtain ⟨hv, hd⟩ := whE_zero h0
  have hok := okB_parts (validL_ok hv (List.mem_of_getElem? hx))
  have hk2 : x.due < d := of_decide_eq_true hk
  rw [he]
  exact valid_set hv hx rfl rfl (okB_mk hok.1 hok.2.1 ⟨hok.2.2.1.1, by unfold dueL; simp only; omega, hd⟩ hok.2.2.2) (Int.le_refl _)
theorem whV_is {l : List Loan} {s : ByteArray} {d : Int} (h : whE l s d = 0) : WhIs l s d (whV l s d) := by
  unfold whV
  rw [if_pos h]
  exact whR_is (whE_zero h).2
theorem whV_eq {l : List Loan} {s : ByteArray} {d : Int} {r : ByteArray} (h : whE l s d = 0) (hr : WhIs l s d r) : whV l s d = r :=
  (wh_seen (whE_zero h).1 (whV_is h)).trans (wh_seen (whE_zero h).1 hr).symm
theorem whE_mk {l l' : List Loan} {s : ByteArray} {d d' : Int} (h : whE l s d = 0) (hv : validL l' = true) (h1 : 0 ≤ d') (h2 : d' ≤ 100000) : whE l' s d' = 0 := by
  obtain ⟨-, hn, -⟩ := chkE_zero h
  unfold whE allIn
  rw [hv, hn]
  simp [h1, h2, chkE]
/-- What comes back on a day is at home on it, and was not on the day before. -/
theorem back_where {l : List Loan} {s : ByteArray} {d : Int} (h : chgE l s d (backOk d) = 0) :
    (whE (chgL l s d (backOk d) (backL d)) s d = 0 ∧ whV (chgL l s d (backOk d) (backL d)) s d = ⟨#[]⟩) ∧ (whE (chgL l s d (backOk d) (backL d)) s (d - 1) = 0 ∧ ∃ c cs, (whV (chgL l s d (backOk d) (backL d)) s (d - 1)).toList = c :: cs) ∧ (0 ≤ d ∧ d ≤ 100000) := by
  have hva := back_valid h
  obtain ⟨h0, i, x, hx, hq, hk, he⟩ := chg_zero (backL d) h
  obtain ⟨hv, hd⟩ := whE_zero h0
  obtain ⟨hp, hb⟩ := openB_iff hq
  have hok := okB_parts (validL_ok hv (List.mem_of_getElem? hx))
  have hk2 : x.out < d := of_decide_eq_true hk
  have e1 := whE_mk (d' := d) h0 hva (by omega) hd
  have e2 := whE_mk (d' := d - 1) h0 hva (by omega) (by omega)
  have hhx : home x = 100001 := by unfold home; rw [if_pos hb]
  have hhb : home (backL d x) = d := by unfold home backL; simp only; rw [if_neg (by omega)]
  refine ⟨⟨e1, whV_eq e1 (.inr ⟨fun y hy hys => ?_, rfl⟩)⟩, ⟨e2, ?_⟩, by omega, hd⟩
  · rw [he] at hy
    obtain ⟨j, hj, rfl⟩ := List.mem_iff_getElem.1 hy
    have hy2 := List.getElem?_eq_getElem hj
    generalize (l.set i (backL d x))[j] = y at hy2 hys ⊢
    have hc := pair_at.1 (valid_cl2 hv)
    rcases set_cases hy2 with ⟨rfl, rfl⟩ | ⟨hne, hy3⟩
    · unfold outB
      rw [hhb, decide_eq_false (show ¬ d < d by omega), Bool.and_false]
    · have hyok := okB_parts (validL_ok hv (List.mem_of_getElem? hy3))
      have eyp := eqS_iff.1 hys
      rcases Nat.lt_or_gt_of_ne hne with hlt | hgt
      · have h5 := hc j i y x hlt hy3 hx
        unfold clB at h5
        rw [eyp, hp, eqS_refl, Bool.true_and, decide_eq_false_iff_not] at h5
        unfold outB
        rw [decide_eq_false (show ¬ d < home y by omega), Bool.and_false]
      · have h5 := hc i j x y hgt hx hy3
        unfold clB at h5
        rw [eyp, hp, eqS_refl, Bool.true_and, decide_eq_false_iff_not] at h5
        omega
  · have hm : backL d x ∈ chgL l s d (backOk d) (backL d) := by
      rw [he]
      have hi := (List.getElem?_eq_some_iff.1 hx).1
      exact List.mem_iff_getElem?.2 ⟨i, by rw [List.getElem?_set]; simp [hi]⟩
    have ho : outB (backL d x) (d - 1) = true := by
      unfold outB
      rw [hhb, decide_eq_true (show d - 1 < d by omega), Bool.and_true]
      exact decide_eq_true (by show x.out ≤ d - 1; omega)
    rw [whV_eq e2 (.inl ⟨_, hm, eqS_iff.2 hp, ho, rfl⟩)]
    have h3 := hok.2.1
    unfold nameB nameL at h3
    simp only [Bool.and_eq_true, decide_eq_true_eq] at h3
    show ∃ c cs, x.t.toList = c :: cs
    rw [Lib.toList_data]
    cases hd : x.t.data.toList with
    | nil => rw [hd] at h3; simp at h3
    | cons c cs => exact ⟨c, cs, rfl⟩
end Go.Proofs.Ytaofjomocefdkaa.Ln
