/-
  PLAIN (layer 7, scene): numbers in a range, grounds, eyes.
-/
namespace Go.Proofs.Ytjnggchljilooaa.Sc

def allIn (lo hi : Int) (L : List Int) : Bool := L.all fun n => decide (lo ≤ n) && decide (n ≤ hi)
/-- One number in a range. -/
def inB (lo hi n : Int) : Bool := decide (lo ≤ n) && decide (n ≤ hi)
theorem allIn_one (lo hi n : Int) : allIn lo hi [n] = inB lo hi n := by simp [allIn, inB]
theorem inB_iff {lo hi n : Int} : inB lo hi n = true ↔ lo ≤ n ∧ n ≤ hi := by simp [inB]
theorem allIn_two {lo hi x y : Int} : allIn lo hi [x, y] = true ↔ (lo ≤ x ∧ x ≤ hi) ∧ lo ≤ y ∧ y ≤ hi := by simp [allIn]
theorem allIn_at {lo hi x : Int} {L : List Int} {k : Nat} (h : allIn lo hi L = true) (hx : L[k]? = some x) : lo ≤ x ∧ x ≤ hi := by
  have := List.all_eq_true.1 h x (List.mem_of_getElem? hx)
  simpa using this
/-- A valid ground. -/
def gdB (wd dp : Int) (L : List Int) : Bool := allIn 1 24 [wd, dp] && (decide ((L.length : Int) = wd * dp) && allIn 0 1000 L)
/-- An eye. -/
structure Ey where
  x : Int
  b : Int
  h : Int
/-- An eye that stands before a ground of this width. -/
def eyB (wd : Int) (e : Ey) : Bool := inB 0 (wd - 1) e.x && (inB 1 100 e.b && inB 0 2000 e.h)
theorem eyB_iff {wd : Int} {e : Ey} : eyB wd e = true ↔ (0 ≤ e.x ∧ e.x ≤ wd - 1) ∧ (1 ≤ e.b ∧ e.b ≤ 100) ∧ 0 ≤ e.h ∧ e.h ≤ 2000 := by simp [eyB, inB]
theorem gdB_iff {wd dp : Int} {L : List Int} (h : gdB wd dp L = true) : (1 ≤ wd ∧ wd ≤ 24) ∧ (1 ≤ dp ∧ dp ≤ 24) ∧ (L.length : Int) = wd * dp ∧ allIn 0 1000 L = true := by
  unfold gdB at h
  rw [Bool.and_eq_true, Bool.and_eq_true, decide_eq_true_eq] at h
  have := allIn_two.1 h.1
  exact ⟨this.1, this.2, h.2.1, h.2.2⟩
/-- What 'checked' answers. -/
def chkE (r g e : Bool) : Int := if g && e then if r then 0 else 7 else 1
end Go.Proofs.Ytjnggchljilooaa.Sc
