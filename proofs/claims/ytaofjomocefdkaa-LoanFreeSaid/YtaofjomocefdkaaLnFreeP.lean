/-
  Plain mathematics of loans: the first day from which a piece is at home for some days in a row.
-/
import Derived.Test.YtaofjomocefdkaaLnRDays
import Derived.Test.YtaofjomocefdkaaLnOrd
namespace Go.Proofs.Ytaofjomocefdkaa.Ln
open Go Go.RowKit Go.Sort

/-- The spans one after the other: a span that some days from f on meet is waited for. -/
def frF (n : Int) : List (Int × Int) → Int → Int
  | [], f => f
  | q :: r, f => frF n r (if 0 < comI q.1 q.2 f (f + n) then q.2 else f)
theorem frF_snoc (n : Int) (S : List (Int × Int)) (q : Int × Int) (f : Int) : frF n (S ++ [q]) f = if 0 < comI q.1 q.2 (frF n S f) (frF n S f + n) then q.2 else frF n S f := by
  induction S generalizing f with
  | nil => rfl
  | cons x S ih => rw [List.cons_append, frF, frF, ih]
theorem frF_take {n : Int} {S : List (Int × Int)} {k : Nat} {q : Int × Int} {f : Int} (h : S[k]? = some q) : frF n (S.take (k + 1)) f = if 0 < comI q.1 q.2 (frF n (S.take k) f) (frF n (S.take k) f + n) then q.2 else frF n (S.take k) f := by
  have hk := (List.getElem?_eq_some_iff.1 h).1
  have e : S[k] = q := (List.getElem?_eq_some_iff.1 h).2
  rw [List.take_succ_eq_append_getElem hk, e, frF_snoc]
theorem frF_bd {n : Int} : ∀ (S : List (Int × Int)) (f : Int), (∀ q ∈ S, 0 ≤ q.2 ∧ q.2 ≤ 100001) → 0 ≤ f → f ≤ 100001 → 0 ≤ frF n S f ∧ frF n S f ≤ 100001
  | [], f, _, h1, h2 => ⟨h1, h2⟩
  | q :: r, f, hq, h1, h2 => by
    rw [frF]
    have := hq q (by simp)
    split
    · exact frF_bd r _ (fun y hy => hq y (by simp [hy])) this.1 this.2
    · exact frF_bd r _ (fun y hy => hq y (by simp [hy])) h1 h2
/-- No span meets the days. -/
def atHome (n : Int) (S : List (Int × Int)) (d : Int) : Prop := ∀ q ∈ S, comI q.1 q.2 d (d + n) = 0
theorem comI_pos {a b c d : Int} : 0 < comI a b c d ↔ (c < b ∧ a < d ∧ a < b ∧ c < d) := by
  unfold comI
  omega
theorem comI_nil {a b c d : Int} : comI a b c d = 0 ↔ ¬ (c < b ∧ a < d ∧ a < b ∧ c < d) := by
  unfold comI
  omega
theorem frF_spec {n : Int} (hn : 1 ≤ n) : ∀ (S : List (Int × Int)) (f : Int), S.Pairwise (fun a b => a.2 ≤ b.1) → (∀ q ∈ S, q.1 < q.2) →
    f ≤ frF n S f ∧ atHome n S (frF n S f) ∧ (∀ d, f ≤ d → d < frF n S f → ¬ atHome n S d) ∧ (frF n S f = f ∨ ∃ q ∈ S, frF n S f = q.2)
  | [], f, _, _ => ⟨Int.le_refl _, fun q hq => by simp at hq, fun d h1 h2 => absurd h2 (by rw [frF]; omega), .inl rfl⟩
  | q :: r, f, hs, hq => by
    rw [frF]
    rw [List.pairwise_cons] at hs
    have hqq := hq q (by simp)
    have hqr : ∀ y ∈ r, y.1 < y.2 := fun y hy => hq y (by simp [hy])
    obtain ⟨f1, hf1⟩ : ∃ f1, (if 0 < comI q.1 q.2 f (f + n) then q.2 else f) = f1 := ⟨_, rfl⟩
    rw [hf1]
    obtain ⟨h1, h2, h3, h4⟩ := frF_spec hn r f1 hs.2 hqr
    obtain ⟨F, hF⟩ : ∃ F, frF n r f1 = F := ⟨_, rfl⟩
    rw [hF] at h1 h2 h3 h4 ⊢
    by_cases hov : 0 < comI q.1 q.2 f (f + n)
    · rw [if_pos hov] at hf1
      subst hf1
      rw [comI_pos] at hov
      refine ⟨by omega, ?_, ?_, ?_⟩
      · intro y hy
        rcases List.mem_cons.1 hy with rfl | hy
        · rw [comI_nil]; omega
        · exact h2 y hy
      · intro d hd1 hd2 hat
        by_cases hd : q.2 ≤ d
        · exact h3 d hd hd2 fun y hy => hat y (by simp [hy])
        · have := hat q (by simp)
          rw [comI_nil] at this
          omega
      · rcases h4 with h4 | ⟨y, hy, h4⟩
        · exact .inr ⟨q, by simp, h4⟩
        · exact .inr ⟨y, by simp [hy], h4⟩
    · rw [if_neg hov] at hf1
      subst hf1
      have h0 : comI q.1 q.2 f (f + n) = 0 := by
        rw [comI_pos] at hov
        rw [comI_nil]
        exact hov
      have hFq : comI q.1 q.2 F (F + n) = 0 := by
        by_cases hlow : q.2 ≤ f
        · rw [comI_nil]; omega
        · have hup : f + n ≤ q.1 := by rw [comI_nil] at h0; omega
          have hfr : atHome n r f := fun y hy => by
            have h5 := hs.1 y hy
            have h6 := hqr y hy
            rw [comI_nil]
            omega
          have : ¬ f < F := fun h => h3 f (Int.le_refl _) h hfr
          have e : F = f := by omega
          rw [e]
          exact h0
      refine ⟨h1, ?_, ?_, ?_⟩
      · intro y hy
        rcases List.mem_cons.1 hy with rfl | hy
        · exact hFq
        · exact h2 y hy
      · intro d hd1 hd2 hat
        exact h3 d hd1 hd2 fun y hy => hat y (by simp [hy])
      · rcases h4 with h4 | ⟨y, hy, h4⟩
        · exact .inl h4
        · exact .inr ⟨y, by simp [hy], h4⟩
theorem valid_cl3 {l : List Loan} (h : validL l = true) : l.Pairwise (fun a b => clB a b = false) := by
  unfold validL at h
  have := ((vlB_iff (pre := []) ⟨by simp, List.Pairwise.nil⟩ List.Pairwise.nil).1 h).2
  rwa [List.nil_append] at this
/-- The spans of a piece lie one after the other. -/
theorem cal_sorted {l : List Loan} (h : validL l = true) (s : ByteArray) : (calL l s).Pairwise (fun a b => a.2 ≤ b.1) ∧ (∀ q ∈ calL l s, q.1 < q.2) := by
  refine ⟨?_, fun q hq => ?_⟩
  · unfold calL
    rw [List.pairwise_map]
    refine ((valid_cl3 h).sublist List.filter_sublist).imp_of_mem ?_
    intro a b ha hb hc
    have ea := eqS_iff.1 (List.mem_filter.1 ha).2
    have eb := eqS_iff.1 (List.mem_filter.1 hb).2
    unfold clB at hc
    rw [ea, eb, eqS_refl, Bool.true_and, decide_eq_false_iff_not] at hc
    simp only
    omega
  · obtain ⟨x, hx, -, rfl⟩ := calL_mem hq
    have hk := validL_ok h hx
    unfold okB at hk
    simp only [Bool.and_eq_true, decide_eq_true_eq] at hk
    simp only
    unfold home
    split <;> omega
theorem comI_swap (a b c d : Int) : comI a b c d = comI c d a b := by unfold comI; omega
theorem cal_bd {l : List Loan} (h : validL l = true) (s : ByteArray) : ∀ q ∈ calL l s, (0 ≤ q.1 ∧ q.1 ≤ 100000) ∧ (0 ≤ q.2 ∧ q.2 ≤ 100001) := by
  intro q hq
  obtain ⟨x, hx, -, rfl⟩ := calL_mem hq
  have := okB_days (validL_ok h hx)
  exact ⟨this.1, this.2.2⟩
/-- The first day, as the program finds it. -/
def frL (l : List Loan) (s : ByteArray) (fr n : Int) : Int := frF n (calL l s) fr
/-- The reference's test of one loan. -/
def meetB (s : ByteArray) (d n : Int) (x : Loan) : Bool := eqS x.p s && decide (comI d (d + n) x.out (home x) ≠ 0)
def freeB (l : List Loan) (s : ByteArray) (d n : Int) : Bool := l.all fun x => !meetB s d n x
theorem freeB_iff {l : List Loan} {s : ByteArray} {d n : Int} : freeB l s d n = true ↔ atHome n (calL l s) d := by
  unfold freeB atHome
  rw [List.all_eq_true]
  constructor
  · intro h q hq
    obtain ⟨x, hx, hp, rfl⟩ := calL_mem hq
    have := h x hx
    unfold meetB at this
    rw [hp, Bool.true_and] at this
    simp only [Bool.not_eq_true', decide_eq_false_iff_not, Decidable.not_not] at this
    rw [comI_swap]
    exact this
  · intro h x hx
    unfold meetB
    cases hp : eqS x.p s with
    | false => rfl
    | true =>
      have : (x.out, home x) ∈ calL l s := by
        unfold calL
        exact List.mem_map.2 ⟨x, List.mem_filter.2 ⟨hx, hp⟩, rfl⟩
      have := h _ this
      rw [comI_swap] at this
      simp only at this
      rw [this]
      rfl
/-- A day that may be tried. -/
def candB (l : List Loan) (s : ByteArray) (fr n d : Int) : Bool := decide (fr ≤ d) && (decide (d + n ≤ 100001) && freeB l s d n)
/-- The least of those that may be tried, or -1. -/
def bestF (c : Int → Bool) : List Int → Int → Int
  | [], b => b
  | d :: r, b => bestF c r (if c d = true ∧ (b < 0 ∨ d < b) then d else b)
theorem bestF_snoc (c : Int → Bool) (T : List Int) (d b : Int) : bestF c (T ++ [d]) b = if c d = true ∧ (bestF c T b < 0 ∨ d < bestF c T b) then d else bestF c T b := by
  induction T generalizing b with
  | nil => rfl
  | cons x T ih => rw [List.cons_append, bestF, bestF, ih]
theorem bestF_is {c : Int → Bool} {F : Int} (hc : ∀ d, c d = true → F ≤ d) (hF : 0 ≤ F) : ∀ (T : List Int) (b : Int), (b = -1 ∨ F ≤ b) → (F ∈ T ∨ b = F) → c F = true → bestF c T b = F
  | [], b, _, h, _ => by
    rcases h with h | h
    · simp at h
    · exact h
  | d :: r, b, hb, h, hcF => by
    rw [bestF]
    refine bestF_is hc hF r _ ?_ ?_ hcF
    · split
      · rename_i h2
        exact .inr (hc d h2.1)
      · exact hb
    · rcases h with h | h
      · rcases List.mem_cons.1 h with rfl | h
        · by_cases h2 : b < 0 ∨ F < b
          · rw [if_pos ⟨hcF, h2⟩]
            exact .inr rfl
          · rw [if_neg fun h3 => h2 h3.2]
            exact .inr (by omega)
        · exact .inl h
      · subst h
        rw [if_neg]
        · exact .inr rfl
        · rintro ⟨h3, h4⟩
          have := hc d h3
          omega
theorem bestF_no {c : Int → Bool} : ∀ (T : List Int) (b : Int), (∀ d ∈ T, c d = false) → bestF c T b = b
  | [], _, _ => rfl
  | d :: r, b, h => by
    rw [bestF, if_neg (by rw [h d (by simp)]; rintro ⟨h, -⟩; cases h)]
    exact bestF_no r b fun y hy => h y (by simp [hy])
theorem bestF_bd {c : Int → Bool} {M : Int} : ∀ (T : List Int) (b : Int), (b = -1 ∨ (0 ≤ b ∧ b ≤ M)) → (∀ d ∈ T, c d = true → 0 ≤ d ∧ d ≤ M) → bestF c T b = -1 ∨ (0 ≤ bestF c T b ∧ bestF c T b ≤ M)
  | [], _, h, _ => h
  | d :: r, b, h, hc => by
    rw [bestF]
    refine bestF_bd r _ ?_ fun y hy => hc y (by simp [hy])
    split
    · rename_i h2
      exact .inr (hc d (by simp) h2.1)
    · exact h
def triesL (l : List Loan) (fr : Int) : List Int := fr :: l.map (·.back)
/-- What the reference finds is what the program finds. -/
theorem best_free {l : List Loan} {s : ByteArray} {fr n : Int} (hv : validL l = true) (hn : 1 ≤ n) (h0 : 0 ≤ fr) :
    bestF (candB l s fr n) (triesL l fr) (-1) = if frL l s fr n + n ≤ 100001 then frL l s fr n else -1 := by
  obtain ⟨hs1, hs2⟩ := cal_sorted hv s
  obtain ⟨h1, h2, h3, h4⟩ := frF_spec hn (calL l s) fr hs1 hs2
  unfold frL
  obtain ⟨F, hF⟩ : ∃ F, frF n (calL l s) fr = F := ⟨_, rfl⟩
  rw [hF] at h1 h2 h3 h4 ⊢
  have hc : ∀ d, candB l s fr n d = true → F ≤ d ∧ d + n ≤ 100001 := fun d hd => by
    unfold candB at hd
    simp only [Bool.and_eq_true, decide_eq_true_eq] at hd
    refine ⟨?_, hd.2.1⟩
    by_cases h : F ≤ d
    · exact h
    · exact absurd (freeB_iff.1 hd.2.2) (h3 d hd.1 (by omega))
  by_cases hle : F + n ≤ 100001
  · rw [if_pos hle]
    refine bestF_is (fun d hd => (hc d hd).1) (by omega) _ _ (.inl rfl) (.inl ?_) ?_
    · unfold triesL
      rcases h4 with h4 | ⟨q, hq, h4⟩
      · rw [h4]; simp
      · obtain ⟨x, hx, -, rfl⟩ := calL_mem hq
        simp only at h4
        unfold home at h4
        split at h4
        · omega
        · rw [h4]
          exact List.mem_cons_of_mem _ (List.mem_map.2 ⟨x, hx, rfl⟩)
    · unfold candB
      rw [decide_eq_true h1, decide_eq_true hle, freeB_iff.2 h2]
      rfl
  · rw [if_neg hle]
    refine bestF_no _ _ fun d _ => ?_
    cases h : candB l s fr n d with
    | false => rfl
    | true =>
      have := hc d h
      omega
/-- Days that are all at home are none. -/
theorem dayN_zero {l : List Loan} {s : ByteArray} {d n : Int} : dayN l s d (d + n) = 0 ↔ atHome n (calL l s) d := by
  unfold dayN atHome
  constructor
  · intro h
    have key : ∀ (S : List (Int × Int)), (S.map fun q => comI d (d + n) q.1 q.2).sum = 0 → ∀ q ∈ S, comI q.1 q.2 d (d + n) = 0 := by
      intro S
      induction S with
      | nil => intro _ q hq; simp at hq
      | cons q S ih =>
        intro h y hy
        rw [List.map_cons, List.sum_cons] at h
        have p1 : 0 ≤ comI d (d + n) q.1 q.2 := by unfold comI; omega
        have p2 : ∀ S : List (Int × Int), 0 ≤ (S.map fun q => comI d (d + n) q.1 q.2).sum := by
          intro S
          induction S with
          | nil => simp
          | cons z S ih2 =>
            rw [List.map_cons, List.sum_cons]
            have : 0 ≤ comI d (d + n) z.1 z.2 := by unfold comI; omega
            omega
        have p3 := p2 S
        rcases List.mem_cons.1 hy with rfl | hy
        · rw [comI_swap]; omega
        · exact ih (by omega) y hy
    exact key _ h
  · intro h
    have key : ∀ (S : List (Int × Int)), (∀ q ∈ S, comI q.1 q.2 d (d + n) = 0) → (S.map fun q => comI d (d + n) q.1 q.2).sum = 0 := by
      intro S
      induction S with
      | nil => intro _; rfl
      | cons q S ih =>
        intro h
        rw [List.map_cons, List.sum_cons, ih fun y hy => h y (by simp [hy]), comI_swap, h q (by simp)]
        rfl
    exact key _ h
end Go.Proofs.Ytaofjomocefdkaa.Ln
