/-
  Plain mathematics of loans: what the map of borrowers says; where a piece is, by the program and by the reference.
-/
import Derived.Test.YtaofjomocefdkaaLnRWhere
import Derived.Test.YtaofjomocefdkaaLnText
import Derived.Test.YtaofjomocefdkaaLnOrd
namespace Go.Proofs.Ytaofjomocefdkaa.Ln
open Go Go.RowKit Go.Sort

def putF (f : ByteArray → ByteArray) (x : Loan) : ByteArray → ByteArray := fun u => if u = x.p then x.t else f u
/-- The borrowers of pieces, one after the other. -/
def seenF (L : List Loan) : ByteArray → ByteArray := L.foldl putF (fun _ => ⟨#[]⟩)
theorem seenF_snoc (L : List Loan) (x : Loan) : seenF (L ++ [x]) = fun u => if u = x.p then x.t else seenF L u := by
  unfold seenF
  rw [List.foldl_append]
  rfl
theorem fold_none : ∀ (L : List Loan) (f : ByteArray → ByteArray) (s : ByteArray), (∀ x ∈ L, x.p ≠ s) → L.foldl putF f s = f s
  | [], _, _, _ => rfl
  | x :: r, f, s, h => by
    rw [List.foldl_cons, fold_none r _ s fun y hy => h y (by simp [hy])]
    unfold putF
    rw [if_neg fun e => h x (by simp) e.symm]
theorem fold_mem : ∀ (L : List Loan) (f : ByteArray → ByteArray) (x : Loan), L.Pairwise (fun a b => a.p ≠ b.p) → x ∈ L → L.foldl putF f x.p = x.t
  | [], _, _, _, h => by cases h
  | y :: r, f, x, hp, h => by
    rw [List.pairwise_cons] at hp
    rw [List.foldl_cons]
    rcases List.mem_cons.1 h with rfl | h
    · rw [fold_none r _ _ fun z hz e => hp.1 z hz e.symm]
      unfold putF
      rw [if_pos rfl]
    · exact fold_mem r _ x hp.2 h
theorem seenF_none {L : List Loan} {s : ByteArray} (h : ∀ x ∈ L, x.p ≠ s) : seenF L s = ⟨#[]⟩ := fold_none L _ s h
theorem seenF_mem {L : List Loan} {x : Loan} (hp : L.Pairwise (fun a b => a.p ≠ b.p)) (h : x ∈ L) : seenF L x.p = x.t := fold_mem L _ x hp h
theorem valid_cl2 {l : List Loan} (h : validL l = true) : l.Pairwise (fun a b => clB a b = false) := by
  unfold validL at h
  have := ((vlB_iff (pre := []) ⟨by simp, List.Pairwise.nil⟩ List.Pairwise.nil).1 h).2
  rwa [List.nil_append] at this
/-- No two loans of a piece are out on one day. -/
theorem out_apart {l : List Loan} (h : validL l = true) (d : Int) : (l.filter fun x => outB x d).Pairwise (fun a b => a.p ≠ b.p) := by
  refine ((valid_cl2 h).sublist List.filter_sublist).imp_of_mem ?_
  intro a b ha hb hc e
  have ea := (List.mem_filter.1 ha).2
  have eb := (List.mem_filter.1 hb).2
  unfold clB at hc
  rw [e, eqS_refl, Bool.true_and, decide_eq_false_iff_not] at hc
  unfold outB at ea eb
  simp only [Bool.and_eq_true, decide_eq_true_eq] at ea eb
  omega
theorem wh_seen {l : List Loan} {s : ByteArray} {d : Int} {r : ByteArray} (hv : validL l = true) (h : WhIs l s d r) : r = seenF (l.filter fun x => outB x d) s := by
  rcases h with ⟨x, hx, hp, ho, rfl⟩ | ⟨hn, rfl⟩
  · rw [← eqS_iff.1 hp, seenF_mem (out_apart hv d) (List.mem_filter.2 ⟨hx, ho⟩)]
  · refine (seenF_none fun x hx e => ?_).symm
    have h1 := List.mem_filter.1 hx
    have h2 := hn x h1.1 (eqS_iff.2 e)
    rw [h2] at h1
    exact absurd h1.2 (by decide)
theorem whR_is {l : List Loan} {s : ByteArray} {d : Int} (hd : d ≤ 100000) : WhIs l s d (whR l s d) := by
  unfold whR
  cases hf : l.find? (fun x => eqS x.p s && rOutB x d) with
  | none =>
    refine .inr ⟨fun x hx hp => ?_, rfl⟩
    have := List.find?_eq_none.1 hf x hx
    rw [hp, Bool.true_and, rOut_eq hd] at this
    simpa using this
  | some x =>
    have h1 := List.find?_some hf
    rw [Bool.and_eq_true, rOut_eq hd] at h1
    exact .inl ⟨x, List.mem_of_find?_eq_some hf, h1.1, h1.2, rfl⟩
theorem whE_zero {l : List Loan} {s : ByteArray} {d : Int} (h : whE l s d = 0) : validL l = true ∧ d ≤ 100000 := by
  obtain ⟨h1, -, h3⟩ := chkE_zero h
  refine ⟨h1, ?_⟩
  unfold allIn at h3
  simp at h3
  exact h3.2
theorem whV_seen {l : List Loan} {s : ByteArray} {d : Int} (h : whE l s d = 0) : whV l s d = seenF (l.filter fun x => outB x d) s := by
  obtain ⟨h1, h2⟩ := whE_zero h
  unfold whV
  rw [if_pos h]
  exact wh_seen h1 (whR_is h2)
theorem whL_eq {l : List Loan} {s : ByteArray} {d : Int} {w w' : World} {e : Ending} (h : whL l s d w e w') : e = .returned (.tuple #[.string (whV l s d), .int .i64 (whE l s d)]) ∧ Below w.heap.size w w' := by
  obtain ⟨r, h1, h2, h3, h4⟩ := h
  refine ⟨?_, h4⟩
  have : r = whV l s d := by
    by_cases h0 : whE l s d = 0
    · rw [whV_seen h0]
      exact wh_seen (whE_zero h0).1 (h2 h0)
    · rw [h3 h0]
      unfold whV
      rw [if_neg h0]
  rw [h1, this]
/-- Where, in one word. -/
theorem WhereV_any (v : Value) (l : List Loan) (s : ByteArray) (d : Int) (w : World) (hv : LS w v l) (hm : l.length ≤ 4611686018427387904) (hs : s.size ≤ maxLen) : Calls Try.prog 23 #[v, .string s, .int .i64 d] w fun e w' => e = .returned (.tuple #[.string (whV l s d), .int .i64 (whE l s d)]) ∧ Below w.heap.size w w' :=
  (Where_any v l s d w hv hm hs).mono fun _ _ h => whL_eq h
/-- The loan at a place of those that are out. -/
theorem idL_at {q : Loan → Bool} {l : List Loan} {m : Nat} {k : Int} (h : (idL (ixL q l))[m]? = some k) : ∃ (j : Nat) (x : Loan), k = (j : Int) ∧ l[j]? = some x ∧ (l.filter q)[m]? = some x ∧ q x = true := by
  unfold idL at h
  rw [List.getElem?_map] at h
  cases hy : (ixL q l)[m]? with
  | none => rw [hy] at h; cases h
  | some y =>
    rw [hy] at h
    simp only [Option.map_some, Option.some.injEq] at h
    obtain ⟨-, h2, h3⟩ := ixP_mem (List.mem_of_getElem? hy)
    refine ⟨y.1, y.2, h.symm, h2, ?_, h3⟩
    rw [← ixL_snd, List.getElem?_map, hy]
    rfl
theorem seen_new {L : List Loan} {m : Nat} {x : Loan} (hp : L.Pairwise (fun a b => a.p ≠ b.p)) (hx : L[m]? = some x) : seenF (L.take m) x.p = ⟨#[]⟩ := by
  refine seenF_none fun y hy => ?_
  have hk := (List.getElem?_eq_some_iff.1 hx).1
  have e : L[m] = x := (List.getElem?_eq_some_iff.1 hx).2
  rw [← List.take_append_drop m L, List.drop_eq_getElem_cons hk, e, List.pairwise_append] at hp
  exact hp.2.2 y hy x (by simp)
theorem seen_next {L : List Loan} {m : Nat} {x : Loan} (hx : L[m]? = some x) : seenF (L.take (m + 1)) = fun u => if u = x.p then x.t else seenF (L.take m) u := by
  have hk := (List.getElem?_eq_some_iff.1 hx).1
  have e : L[m] = x := (List.getElem?_eq_some_iff.1 hx).2
  rw [List.take_succ_eq_append_getElem hk, e, seenF_snoc]
end Go.Proofs.Ytaofjomocefdkaa.Ln
