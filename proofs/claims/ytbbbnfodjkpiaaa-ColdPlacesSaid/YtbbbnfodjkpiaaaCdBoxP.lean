/-
  Plain mathematics of boxes: loads, the first hour with the greatest one, the first one that is above some number.
-/
import Derived.Test.YtbbbnfodjkpiaaaCdPlain
namespace Go.Proofs.Ytbbbnfodjkpiaaa.Cd

/-- A box: from, to, its size. -/
structure Bx where
  f : Int
  t : Int
  s : Int
deriving DecidableEq
def bxB (x : Bx) : Bool := inB 0 1000000 x.f && (inB 0 1000000 x.t && (decide (x.f < x.t) && inB 1 100 x.s))
theorem bx_iff {x : Bx} : bxB x = true ↔ (0 ≤ x.f ∧ x.f < x.t ∧ x.t ≤ 1000000) ∧ 1 ≤ x.s ∧ x.s ≤ 100 := by
  simp only [bxB, Bool.and_eq_true, in_iff, decide_eq_true_eq]; omega
def boxesB (l : List Bx) : Bool := decide (l.length ≤ 60) && l.all bxB
theorem boxes_iff {l : List Bx} : boxesB l = true ↔ l.length ≤ 60 ∧ ∀ x ∈ l, bxB x = true := by
  simp [boxesB]
/-- What is asked of the boxes that are there at an hour, added up. -/
def sumQ (q : Bx → Int) (l : List Bx) (h : Int) : Int := l.foldl (fun n x => if x.f ≤ h ∧ h < x.t then n + q x else n) 0
def szQ (x : Bx) : Int := x.s
def oneQ (_ : Bx) : Int := 1
theorem sumQ_snoc (q : Bx → Int) (l : List Bx) (x : Bx) (h : Int) : sumQ q (l ++ [x]) h = if x.f ≤ h ∧ h < x.t then sumQ q l h + q x else sumQ q l h := by
  unfold sumQ; rw [List.foldl_append]; rfl
theorem sumQ_take {l : List Bx} {q : Bx → Int} {h : Int} {k : Nat} {x : Bx} (hx : l[k]? = some x) : sumQ q (l.take (k + 1)) h = if x.f ≤ h ∧ h < x.t then sumQ q (l.take k) h + q x else sumQ q (l.take k) h := by
  have hk := (List.getElem?_eq_some_iff.1 hx).1
  have e : l[k] = x := (List.getElem?_eq_some_iff.1 hx).2
  rw [List.take_succ_eq_append_getElem hk, e, sumQ_snoc]
theorem sumQ_bd {q : Bx → Int} {M : Int} {l : List Bx} {h : Int} (hq : ∀ x ∈ l, 0 ≤ q x ∧ q x ≤ M) : ∀ k, k ≤ l.length → 0 ≤ sumQ q (l.take k) h ∧ sumQ q (l.take k) h ≤ M * k := by
  intro k
  induction k with
  | zero => intro _; simp [sumQ]
  | succ k ih =>
    intro hk'
    have ih := ih (by omega)
    have hk : k < l.length := by omega
    have hx : l[k]? = some l[k] := List.getElem?_eq_getElem hk
    have hb := hq l[k] (List.getElem_mem hk)
    rw [sumQ_take hx]
    have e : M * ((k + 1 : Nat) : Int) = M * (k : Int) + M := by rw [Int.natCast_add, Int.mul_add]; simp
    rw [e]
    split <;> omega
/-- At the hour at which a box comes there is at least what it asks for. -/
theorem sumQ_own {q : Bx → Int} {l : List Bx} (hq : ∀ x ∈ l, 1 ≤ q x) {x : Bx} (hx : x ∈ l) {h : Int} (h1 : x.f ≤ h) (h2 : h < x.t) : 1 ≤ sumQ q l h := by
  have key : ∀ (l : List Bx) (n : Int), (∀ x ∈ l, 1 ≤ q x) → (0 ≤ n) → (1 ≤ n ∨ ∃ x ∈ l, x.f ≤ h ∧ h < x.t) → 1 ≤ l.foldl (fun n x => if x.f ≤ h ∧ h < x.t then n + q x else n) n := by
    intro l
    induction l with
    | nil =>
      intro n _ _ h
      rcases h with h | ⟨x, hx, _⟩
      · exact h
      · cases hx
    | cons y l ih =>
      intro n hq hn hor
      have hy := hq y (by simp)
      rw [List.foldl_cons]
      refine ih _ (fun x hx => hq x (by simp [hx])) (by split <;> omega) ?_
      by_cases e : y.f ≤ h ∧ h < y.t
      · rw [if_pos e]; left; omega
      · rw [if_neg e]
        rcases hor with h | ⟨x, hx, hh⟩
        · exact .inl h
        · rcases List.mem_cons.1 hx with rfl | hx
          · exact absurd hh e
          · exact .inr ⟨x, hx, hh⟩
  exact key l 0 hq (Int.le_refl _) (.inr ⟨x, hx, h1, h2⟩)

/-! ### The first hour with the greatest sum -/
/-- An hour, with its sum, of some hours: none has a greater sum, and none before it has as great a one. -/
def IsG (s : Int → Int) (hs : List Int) (p : Int × Int) : Prop := p.1 ∈ hs ∧ s p.1 = p.2 ∧ ∀ h ∈ hs, s h ≤ p.2 ∧ (s h = p.2 → p.1 ≤ h)
theorem isG_one {s : Int → Int} {hs : List Int} {p r : Int × Int} (h : IsG s hs p) (g : IsG s hs r) : p = r := by
  obtain ⟨a, b⟩ := p
  obtain ⟨c, d⟩ := r
  obtain ⟨h1, h2, h3⟩ := h
  obtain ⟨g1, g2, g3⟩ := g
  have := h3 c g1
  have := g3 a h1
  simp only at *
  have e : b = d := by omega
  subst e
  have e2 : a = c := by
    have h4 := (h3 c g1).2 g2
    have h5 := (g3 a h1).2 h2
    omega
  rw [e2]
theorem isG_perm {s : Int → Int} {hs gs : List Int} {p : Int × Int} (hp : ∀ h, h ∈ hs ↔ h ∈ gs) (h : IsG s hs p) : IsG s gs p :=
  ⟨(hp _).1 h.1, h.2.1, fun x hx => h.2.2 x ((hp x).2 hx)⟩
def goG (s : Int → Int) (hs : List Int) : Int × Int := hs.foldl (fun q h => if q.2 < s h then (h, s h) else q) (0, 0)
def refG (s : Int → Int) (hs : List Int) : Int × Int := hs.foldl (fun q h => if q.2 < s h ∨ s h = q.2 ∧ h < q.1 then (h, s h) else q) (0, 0)
theorem goG_snoc (s : Int → Int) (hs : List Int) (h : Int) : goG s (hs ++ [h]) = if (goG s hs).2 < s h then (h, s h) else goG s hs := by
  unfold goG; rw [List.foldl_append]; rfl
theorem refG_snoc (s : Int → Int) (hs : List Int) (h : Int) : refG s (hs ++ [h]) = if (refG s hs).2 < s h ∨ s h = (refG s hs).2 ∧ h < (refG s hs).1 then (h, s h) else refG s hs := by
  unfold refG; rw [List.foldl_append]; rfl
theorem snoc_ind {α : Type} {P : List α → Prop} (h0 : P []) (hs : ∀ l x, P l → P (l ++ [x])) (l : List α) : P l := by
  have : ∀ n (l : List α), l.length = n → P l := by
    intro n
    induction n with
    | zero => intro l h; rw [List.eq_nil_of_length_eq_zero h]; exact h0
    | succ n ih =>
      intro l h
      have hne : l ≠ [] := fun e => by subst e; cases h
      have e := List.dropLast_concat_getLast hne
      rw [← e]
      exact hs _ _ (ih _ (by rw [List.length_dropLast, h]; rfl))
  exact this _ l rfl
theorem goG_is {s : Int → Int} (hs : List Int) : hs.Pairwise (· ≤ ·) → (∀ h ∈ hs, 1 ≤ s h) → hs ≠ [] → IsG s hs (goG s hs) := by
  refine snoc_ind (P := fun hs => hs.Pairwise (· ≤ ·) → (∀ h ∈ hs, 1 ≤ s h) → hs ≠ [] → IsG s hs (goG s hs)) (fun _ _ h => absurd rfl h) ?_ hs
  intro hs x ih hp h1 _
  rw [goG_snoc]
  have hx := h1 x (by simp)
  rw [List.pairwise_append] at hp
  by_cases e : hs = []
  · subst e
    have : goG s [] = (0, 0) := rfl
    rw [this, if_pos (by simp only; omega)]
    exact ⟨by simp, rfl, fun h hh => by simp at hh; subst hh; exact ⟨Int.le_refl _, fun _ => Int.le_refl _⟩⟩
  · have g := ih hp.1 (fun h hh => h1 h (by simp [hh])) e
    by_cases c : (goG s hs).2 < s x
    · rw [if_pos c]
      refine ⟨by simp, rfl, fun h hh => ?_⟩
      rcases List.mem_append.1 hh with k | k
      · have := g.2.2 h k; simp only; omega
      · rw [List.mem_singleton.1 k]; exact ⟨Int.le_refl _, fun _ => Int.le_refl _⟩
    · rw [if_neg c]
      refine ⟨by simp [g.1], g.2.1, fun h hh => ?_⟩
      rcases List.mem_append.1 hh with k | k
      · exact g.2.2 h k
      · rw [List.mem_singleton.1 k]
        have := hp.2.2 _ g.1 x (by simp)
        exact ⟨by omega, fun _ => this⟩
theorem refG_is {s : Int → Int} (hs : List Int) : (∀ h ∈ hs, 1 ≤ s h) → hs ≠ [] → IsG s hs (refG s hs) := by
  refine snoc_ind (P := fun hs => (∀ h ∈ hs, 1 ≤ s h) → hs ≠ [] → IsG s hs (refG s hs)) (fun _ h => absurd rfl h) ?_ hs
  intro hs x ih h1 _
  rw [refG_snoc]
  have hx := h1 x (by simp)
  by_cases e : hs = []
  · subst e
    have : refG s [] = (0, 0) := rfl
    rw [this, if_pos (by simp only; left; omega)]
    exact ⟨by simp, rfl, fun h hh => by simp at hh; subst hh; exact ⟨Int.le_refl _, fun _ => Int.le_refl _⟩⟩
  · have g := ih (fun h hh => h1 h (by simp [hh])) e
    by_cases c : (refG s hs).2 < s x ∨ s x = (refG s hs).2 ∧ x < (refG s hs).1
    · rw [if_pos c]
      refine ⟨by simp, rfl, fun h hh => ?_⟩
      rcases List.mem_append.1 hh with k | k
      · have := g.2.2 h k; simp only; omega
      · rw [List.mem_singleton.1 k]; exact ⟨Int.le_refl _, fun _ => Int.le_refl _⟩
    · rw [if_neg c]
      refine ⟨by simp [g.1], g.2.1, fun h hh => ?_⟩
      rcases List.mem_append.1 hh with k | k
      · exact g.2.2 h k
      · rw [List.mem_singleton.1 k]; omega
/-- The hours at which boxes come, in ascending order. -/
def comes (l : List Bx) : List Int := (l.map (·.f)).mergeSort (fun a b => decide (a ≤ b))
theorem comes_asc (l : List Bx) : (comes l).Pairwise (· ≤ ·) := by
  have := List.pairwise_mergeSort (le := fun (a b : Int) => decide (a ≤ b)) (by intro a b c; simp; omega) (by intro a b; simp; omega) (l.map (·.f))
  exact this.imp (by simp)
theorem comes_mem (l : List Bx) (h : Int) : h ∈ comes l ↔ h ∈ l.map (·.f) := (List.mergeSort_perm _ _).mem_iff
theorem comes_len (l : List Bx) : (comes l).length = l.length := by unfold comes; rw [List.length_mergeSort, List.length_map]
theorem one_own {l : List Bx} {q : Bx → Int} (hv : boxesB l = true) (hq : ∀ x ∈ l, 1 ≤ q x) : ∀ h ∈ l.map (·.f), 1 ≤ sumQ q l h := by
  intro h hh
  obtain ⟨x, hx, rfl⟩ := List.mem_map.1 hh
  have := bx_iff.1 ((boxes_iff.1 hv).2 x hx)
  exact sumQ_own hq hx (Int.le_refl _) (by omega)
/-- The program's first hour is the reference's. -/
theorem great_same {l : List Bx} {q : Bx → Int} (hv : boxesB l = true) (hq : ∀ x ∈ l, 1 ≤ q x) (hl : l ≠ []) : goG (sumQ q l) (comes l) = refG (sumQ q l) (l.map (·.f)) := by
  have h1 := one_own hv hq
  refine isG_one (goG_is _ (comes_asc l) (fun h hh => h1 h ((comes_mem l h).1 hh)) ?_) (isG_perm (fun h => (comes_mem l h).symm) (refG_is _ h1 (by simpa using hl)))
  intro e
  have := comes_len l
  rw [e] at this
  exact hl (List.eq_nil_of_length_eq_zero this.symm)
theorem great_is {l : List Bx} {q : Bx → Int} (hv : boxesB l = true) (hq : ∀ x ∈ l, 1 ≤ q x) (hl : l ≠ []) : IsG (sumQ q l) (l.map (·.f)) (goG (sumQ q l) (comes l)) := by
  rw [great_same hv hq hl]
  exact refG_is _ (one_own hv hq) (by simpa using hl)
/-- The first hour with a sum above some number. -/
def goO (s : Int → Int) (p : Int) (hs : List Int) : Option Int := hs.find? (fun h => decide (p < s h))
def refO (s : Int → Int) (p : Int) (hs : List Int) : Int := hs.foldl (fun a h => if p < s h ∧ (a < 0 ∨ h < a) then h else a) (-1)
theorem refO_snoc (s : Int → Int) (p : Int) (hs : List Int) (h : Int) : refO s p (hs ++ [h]) = if p < s h ∧ (refO s p hs < 0 ∨ h < refO s p hs) then h else refO s p hs := by
  unfold refO; rw [List.foldl_append]; rfl
theorem refO_is {s : Int → Int} {p : Int} (hs : List Int) : (∀ h ∈ hs, 0 ≤ h) → (refO s p hs < 0 → ∀ h ∈ hs, ¬ p < s h) ∧ (¬ refO s p hs < 0 → refO s p hs ∈ hs ∧ p < s (refO s p hs) ∧ ∀ h ∈ hs, p < s h → refO s p hs ≤ h) := by
  refine snoc_ind (P := fun hs => (∀ h ∈ hs, 0 ≤ h) → (refO s p hs < 0 → ∀ h ∈ hs, ¬ p < s h) ∧ (¬ refO s p hs < 0 → refO s p hs ∈ hs ∧ p < s (refO s p hs) ∧ ∀ h ∈ hs, p < s h → refO s p hs ≤ h)) ?_ ?_ hs
  · intro _
    exact ⟨fun _ h hh => (by cases hh), fun h => absurd (show (-1 : Int) < 0 by decide) h⟩
  · intro hs x ih h0
    have hx := h0 x (by simp)
    obtain ⟨g1, g2⟩ := ih (fun h hh => h0 h (by simp [hh]))
    rw [refO_snoc]
    by_cases c : p < s x ∧ (refO s p hs < 0 ∨ x < refO s p hs)
    · rw [if_pos c]
      refine ⟨fun h => by omega, fun _ => ⟨by simp, c.1, fun h hh hp => ?_⟩⟩
      rcases List.mem_append.1 hh with k | k
      · by_cases e : refO s p hs < 0
        · exact absurd hp (g1 e h k)
        · have := (g2 e).2.2 h k hp; omega
      · rw [List.mem_singleton.1 k]; exact Int.le_refl _
    · rw [if_neg c]
      refine ⟨fun h y hy => ?_, fun h => ?_⟩
      · rcases List.mem_append.1 hy with k | k
        · exact g1 h y k
        · rw [List.mem_singleton.1 k]; omega
      · obtain ⟨k1, k2, k3⟩ := g2 h
        refine ⟨by simp [k1], k2, fun y hy hp => ?_⟩
        rcases List.mem_append.1 hy with k | k
        · exact k3 y k hp
        · rw [List.mem_singleton.1 k] at hp ⊢; omega
theorem goO_is {s : Int → Int} {p : Int} : ∀ {hs : List Int}, hs.Pairwise (· ≤ ·) → (goO s p hs = none → ∀ h ∈ hs, ¬ p < s h) ∧ (∀ a, goO s p hs = some a → a ∈ hs ∧ p < s a ∧ ∀ h ∈ hs, p < s h → a ≤ h) := by
  intro hs
  induction hs with
  | nil => intro _; exact ⟨fun _ h hh => (by cases hh), fun a h => (by cases h)⟩
  | cons x hs ih =>
    intro hp
    obtain ⟨p1, p2⟩ := List.pairwise_cons.1 hp
    obtain ⟨g1, g2⟩ := ih p2
    unfold goO at g1 g2 ⊢
    rw [List.find?_cons]
    by_cases c : p < s x
    · rw [decide_eq_true c]
      refine ⟨fun h => (by cases h), fun a h => ?_⟩
      cases h
      refine ⟨by simp, c, fun h hh _ => ?_⟩
      rcases List.mem_cons.1 hh with rfl | k
      · exact Int.le_refl _
      · exact p1 h k
    · rw [decide_eq_false c]
      refine ⟨fun h y hy => ?_, fun a h => ?_⟩
      · rcases List.mem_cons.1 hy with rfl | k
        · exact c
        · exact g1 h y k
      · obtain ⟨k1, k2, k3⟩ := g2 a h
        refine ⟨by simp [k1], k2, fun y hy hq => ?_⟩
        rcases List.mem_cons.1 hy with rfl | k
        · exact absurd hq c
        · exact k3 y k hq
def optI (o : Option Int) : Int := o.getD (-1)
theorem over_same {l : List Bx} {p : Int} (hv : boxesB l = true) : optI (goO (sumQ szQ l) p (comes l)) = refO (sumQ szQ l) p (l.map (·.f)) := by
  have h0 : ∀ h ∈ l.map (·.f), 0 ≤ h := fun h hh => by
    obtain ⟨x, hx, rfl⟩ := List.mem_map.1 hh
    exact (bx_iff.1 ((boxes_iff.1 hv).2 x hx)).1.1
  obtain ⟨g1, g2⟩ := goO_is (s := sumQ szQ l) (p := p) (comes_asc l)
  obtain ⟨r1, r2⟩ := refO_is (s := sumQ szQ l) (p := p) (l.map (·.f)) h0
  cases c : goO (sumQ szQ l) p (comes l) with
  | none =>
    by_cases e : refO (sumQ szQ l) p (l.map (·.f)) < 0
    · have hm : ∀ hs : List Int, (∀ h ∈ hs, ¬ p < sumQ szQ l h) → refO (sumQ szQ l) p hs = -1 := by
        intro hs
        refine snoc_ind (P := fun hs => (∀ h ∈ hs, ¬ p < sumQ szQ l h) → refO (sumQ szQ l) p hs = -1) (fun _ => rfl) ?_ hs
        intro hs x ih hn
        rw [refO_snoc, if_neg (fun h => hn x (by simp) h.1)]
        exact ih (fun h hh => hn h (by simp [hh]))
      exact (hm _ (r1 e)).symm
    · have := r2 e
      exact absurd this.2.1 (g1 c _ ((comes_mem l _).2 this.1))
  | some a =>
    obtain ⟨k1, k2, k3⟩ := g2 a c
    have k1' := (comes_mem l a).1 k1
    by_cases e : refO (sumQ szQ l) p (l.map (·.f)) < 0
    · exact absurd k2 (r1 e a k1')
    · obtain ⟨m1, m2, m3⟩ := r2 e
      have h4 := k3 _ ((comes_mem l _).2 m1) m2
      have h5 := m3 a k1' k2
      show a = _
      omega
theorem over_pos {l : List Bx} {p a : Int} (hv : boxesB l = true) (h : goO (sumQ szQ l) p (comes l) = some a) : 0 ≤ a ∧ a ≤ 1000000 := by
  obtain ⟨x, hx, rfl⟩ := List.mem_map.1 ((comes_mem l a).1 (((goO_is (s := sumQ szQ l) (p := p) (comes_asc l)).2 a h).1))
  have := bx_iff.1 ((boxes_iff.1 hv).2 x hx)
  omega
/-- Boxes fit exactly if no hour is over. -/
theorem fit_same {l : List Bx} {p : Int} (hv : boxesB l = true) (hp : 0 ≤ p) : ((refG (sumQ szQ l) (l.map (·.f))).2 ≤ p) ↔ goO (sumQ szQ l) p (comes l) = none := by
  obtain ⟨g1, g2⟩ := goO_is (s := sumQ szQ l) (p := p) (comes_asc l)
  by_cases e : l = []
  · subst e
    simp only [List.map_nil]
    refine ⟨fun _ => ?_, fun _ => hp⟩
    simp [goO, comes]
  · have r := refG_is (s := sumQ szQ l) (l.map (·.f)) (one_own hv (fun x hx => (bx_iff.1 ((boxes_iff.1 hv).2 x hx)).2.1)) (by simpa using e)
    constructor
    · intro h
      cases c : goO (sumQ szQ l) p (comes l) with
      | none => rfl
      | some a =>
        obtain ⟨k1, k2, _⟩ := g2 a c
        have := (r.2.2 a ((comes_mem l a).1 k1)).1
        omega
    · intro h
      have := g1 h _ ((comes_mem l _).2 r.1)
      rw [r.2.1] at this
      omega
end Go.Proofs.Ytbbbnfodjkpiaaa.Cd
