/-
  The first key with which two valid labels clash is the same for the program and the reference; what Clash answers, in plain words.
-/
import Derived.Test.YtjdcdakedoljbaaDoorMkPtC
import Derived.Test.YtjdcdakedoljbaaDoorMkPtD
namespace Go.Proofs.YtjdcdakedoljbaaDoor.Mk
open Go Go.RowKit Go.Maps Go.Sort

def blt (a b : ByteArray) : Prop := a.data.toList < b.data.toList
/-- A key has two values. -/
def TwoVals (A L : List FB) (k : ByteArray) : Prop := ∃ v u, (k, v) ∈ A ∧ (k, u) ∈ L ∧ v ≠ u
/-- The least key with two values. -/
def LeastTwo (A L : List FB) (k : ByteArray) : Prop := TwoVals A L k ∧ ∀ j, TwoVals A L j → ¬ blt j k
theorem least_unique {A L : List FB} {k j : ByteArray} (h1 : LeastTwo A L k) (h2 : LeastTwo A L j) : k = j :=
  bytes_ext (List.le_antisymm (List.not_lt.1 (h1.2 j h2.1)) (List.not_lt.1 (h2.2 k h1.1)))
theorem clashL_least {A L : List FB} (hA : Fun A) (hL : Strict L) {k : ByteArray} (h : clashL A L = some k) : LeastTwo A L k := by
  induction L with
  | nil => cases h
  | cons f L ih =>
    have hL2 : Strict L := (List.pairwise_cons.1 hL).2
    have hlt := (List.pairwise_cons.1 hL).1
    have hskip : (∀ v, (f.1, v) ∈ A → v = f.2) → LeastTwo A L k → LeastTwo A (f :: L) k := fun hv ⟨⟨v, u, h1, h2, h3⟩, h4⟩ => by
      refine ⟨⟨v, u, h1, List.mem_cons_of_mem _ h2, h3⟩, fun j ⟨v', u', g1, g2, g3⟩ => ?_⟩
      rcases List.mem_cons.1 g2 with e | e
      · have e1 : f.1 = j := by rw [← e]
        have e2 : f.2 = u' := by rw [← e]
        exact absurd (by rw [← e2]; exact hv v' (by rw [e1]; exact g1)) g3
      · exact h4 j ⟨v', u', g1, e, g3⟩
    simp only [clashL] at h
    cases hl : lookL A f.1 with
    | none =>
      rw [hl] at h
      exact hskip (fun v hv => absurd rfl (look_none hl (f.1, v) hv)) (ih hL2 h)
    | some v =>
      rw [hl] at h
      simp only at h
      by_cases e : v = f.2
      · rw [if_pos e] at h
        exact hskip (fun v' hv' => by rw [← e]; exact hA _ hv' (f.1, v) (look_in hl) rfl) (ih hL2 h)
      · rw [if_neg e] at h
        simp only [Option.some.injEq] at h
        rw [← h]
        refine ⟨⟨v, f.2, look_in hl, List.mem_cons_self, e⟩, fun j ⟨v', u', g1, g2, g3⟩ hb => ?_⟩
        rcases List.mem_cons.1 g2 with e1 | e1
        · rw [← e1] at hb
          exact List.lt_irrefl _ hb
        · exact List.lt_irrefl _ (List.lt_trans hb (hlt _ e1))
theorem rclash_least {A L : List FB} (hA : Strict A) (hL : Fun L) (hFL : Full L) (hFA : Full A) (h : rclash L A ≠ ⟨#[]⟩) : LeastTwo A L (rclash L A) := by
  induction A with
  | nil => exact absurd rfl h
  | cons f A ih =>
    have hA2 : Strict A := (List.pairwise_cons.1 hA).2
    have hlt := (List.pairwise_cons.1 hA).1
    have hFA2 : Full A := fun a ha => hFA a (List.mem_cons_of_mem _ ha)
    simp only [rclash] at h ⊢
    by_cases e : rval L f.1 ≠ ⟨#[]⟩ ∧ rval L f.1 ≠ f.2
    · rw [if_pos e]
      have hin : (f.1, rval L f.1) ∈ L := (rval_iff hL e.1).1 rfl
      refine ⟨⟨f.2, rval L f.1, List.mem_cons_self, hin, fun e2 => e.2 e2.symm⟩, fun j ⟨v', u', g1, g2, g3⟩ hb => ?_⟩
      rcases List.mem_cons.1 g1 with e1 | e1
      · rw [← e1] at hb
        exact List.lt_irrefl _ hb
      · exact List.lt_irrefl _ (List.lt_trans hb (hlt _ e1))
    · rw [if_neg e] at h ⊢
      obtain ⟨⟨v, u, h1, h2, h3⟩, h4⟩ := ih hA2 hFA2 h
      refine ⟨⟨v, u, List.mem_cons_of_mem _ h1, h2, h3⟩, fun j ⟨v', u', g1, g2, g3⟩ => ?_⟩
      rcases List.mem_cons.1 g1 with e1 | e1
      · exfalso
        have e2 : f.1 = j := by rw [← e1]
        have e3 : f.2 = v' := by rw [← e1]
        have hr : rval L f.1 = u' := rval_in hL (by rw [e2]; exact g2)
        apply e
        rw [hr]
        exact ⟨(hFL _ g2).2, fun e4 => g3 (by rw [← e3, e4])⟩
      · exact h4 j ⟨v', u', e1, g2, g3⟩
/-- For valid labels both clash alike. -/
theorem clash_same {A L : List FB} (hA : validL A = true) (hL : validL L = true) : rclash L A = (clashL A L).getD ⟨#[]⟩ := by
  have h1 := rclash_clash (valid_fun hA) (valid_fun hL) (valid_full hA) (valid_full hL)
  cases hc : clashL A L with
  | none =>
    rw [hc] at h1
    simpa using h1
  | some k =>
    rw [hc] at h1
    have h2 : rclash L A ≠ ⟨#[]⟩ := by simpa using h1
    exact least_unique (rclash_least ((valid_iff A).1 hA).2.2 (valid_fun hL) (valid_full hL) (valid_full hA) h2) (clashL_least (valid_fun hA) ((valid_iff L).1 hL).2.2 hc)
/-! ### What Clash answers -/
def CL (p : List PB) (i j : Nat) : Option ByteArray := match p[i]?, p[j]? with
  | some x, some y => clashL x.label y.label
  | _, _ => none
def Before (i j i' j' : Nat) : Prop := i < i' ∨ i = i' ∧ j < j'
/-- The first two parts that clash. -/
def ClashRes (p : List PB) : Option (Nat × Nat × ByteArray) → Prop
  | none => ∀ i j, i < j → j < p.length → CL p i j = none
  | some (i, j, k) => i < j ∧ j < p.length ∧ CL p i j = some k ∧ ∀ i' j', i' < j' → j' < p.length → Before i' j' i j → CL p i' j' = none
theorem clashRes_unique {p : List PB} {r s : Option (Nat × Nat × ByteArray)} (h1 : ClashRes p r) (h2 : ClashRes p s) : r = s := by
  match r, s, h1, h2 with
  | none, none, _, _ => rfl
  | none, some (i, j, k), h1, ⟨g1, g2, g3, _⟩ =>
    have := h1 i j g1 g2
    rw [this] at g3
    cases g3
  | some (i, j, k), none, ⟨g1, g2, g3, _⟩, h2 =>
    have := h2 i j g1 g2
    rw [this] at g3
    cases g3
  | some (i, j, k), some (i', j', k'), ⟨g1, g2, g3, g4⟩, ⟨f1, f2, f3, f4⟩ =>
    have hi : i = i' := by
      rcases Nat.lt_trichotomy i i' with h | h | h
      · have := f4 i j g1 g2 (.inl h)
        rw [this] at g3
        cases g3
      · exact h
      · have := g4 i' j' f1 f2 (.inl h)
        rw [this] at f3
        cases f3
    subst hi
    have hj : j = j' := by
      rcases Nat.lt_trichotomy j j' with h | h | h
      · have := f4 i j g1 g2 (.inr ⟨rfl, h⟩)
        rw [this] at g3
        cases g3
      · exact h
      · have := g4 i j' f1 f2 (.inr ⟨rfl, h⟩)
        rw [this] at f3
        cases f3
    subst hj
    rw [g3] at f3
    simp only [Option.some.injEq] at f3
    rw [f3]
def encRes : Option (Nat × Nat × ByteArray) → Value
  | none => .tuple #[.int .i64 0, .int .i64 0, .string ⟨#[]⟩, .int .i64 8]
  | some (i, j, k) => .tuple #[.int .i64 (i : Int), .int .i64 (j : Int), .string k, .int .i64 0]
theorem CL_at {p : List PB} {i j : Nat} {x y : PB} (hx : p[i]? = some x) (hy : p[j]? = some y) : CL p i j = clashL x.label y.label := by
  unfold CL
  rw [hx, hy]
/-- Valid parts have valid labels. -/
theorem validP_at {p : List PB} (h : validP p = true) {i : Nat} {x : PB} (hx : p[i]? = some x) : validL x.label = true ∧ wordL x.sign.data.toList = true ∧ placeB x i = true := by
  unfold validP at h
  rw [Bool.and_eq_true, List.all_eq_true] at h
  have hl := (List.getElem?_eq_some_iff.1 hx).1
  have h1 := h.2 i (by simpa using hl)
  rw [okP_parts hx] at h1
  simp only [Bool.and_eq_true] at h1
  exact ⟨h1.1.2, h1.1.1.2, h1.1.1.1⟩
theorem validP_size {p : List PB} (h : validP p = true) : 1 ≤ p.length ∧ p.length ≤ 100 := by
  unfold validP at h
  rw [Bool.and_eq_true, decide_eq_true_eq] at h
  exact h.1
theorem results_tmp4 {fn : Func} {t u v x : Tmp} (h : fn.results = #[.tmp t, .tmp u, .tmp v, .tmp x]) (tmps : Array Value) (P : Program) (w : World) :
    (results fn tmps).run P w = .ok (.tuple #[tmps.getD t undef, tmps.getD u undef, tmps.getD v undef, tmps.getD x undef]) w := by
  simp [results, h]
end Go.Proofs.YtjdcdakedoljbaaDoor.Mk
