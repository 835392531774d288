/-
  Plain mathematics of layer 4: what is valid, stretches of hours. No memory, no program.
-/
import Init
namespace Go.Proofs.YteidabpflfkdcaaDoor.Cd

/-- In a range. -/
def inB (a b n : Int) : Bool := decide (a ≤ n) && decide (n ≤ b)
theorem in_iff {a b n : Int} : inB a b n = true ↔ a ≤ n ∧ n ≤ b := by simp [inB]
theorem in_yes {a b n : Int} (h : a ≤ n) (g : n ≤ b) : inB a b n = true := in_iff.2 ⟨h, g⟩
theorem in_no {a b n : Int} (h : n < a ∨ b < n) : inB a b n = false := by
  rw [← Bool.not_eq_true, in_iff]; omega
theorem in_not {a b n : Int} (h : inB a b n = false) : n < a ∨ b < n := by
  rw [← Bool.not_eq_true, in_iff] at h; omega
def allB (a b : Int) (l : List Int) : Bool := l.all (inB a b)
theorem all_snoc {l : List Int} {k : Nat} {a b : Int} (hk : k < l.length) (h : (l.take k).all (inB a b) = true) (g : inB a b l[k] = true) : (l.take (k + 1)).all (inB a b) = true := by
  rw [List.take_succ_eq_append_getElem hk, List.all_append, h]; simp [g]
theorem all_not {l : List Int} {k : Nat} {a b : Int} (hk : k < l.length) (g : inB a b l[k] = false) : allB a b l = false := by
  unfold allB
  rw [List.all_eq_false]; exact ⟨_, List.getElem_mem hk, by rw [g]; decide⟩
theorem allB0 (a b : Int) : allB a b [] = true := rfl
theorem allB1 (a b x : Int) : allB a b [x] = inB a b x := by simp [allB]
theorem allB2 (a b x y : Int) : allB a b [x, y] = (inB a b x && inB a b y) := by simp [allB]

/-- A reading: its hour, its temperature. -/
structure Rd where
  h : Int
  t : Int
deriving DecidableEq
def prev (l : List Rd) : Nat → Option Rd
  | 0 => none
  | j + 1 => l[j]?
def precB : Option Rd → Rd → Bool
  | none, _ => true
  | some y, x => decide (y.h < x.h)
/-- A reading is valid behind another one. -/
def folB (p : Option Rd) (x : Rd) : Bool := precB p x && (inB 0 1000000 x.h && inB (-1000) 1000 x.t)
def okAt (l : List Rd) (i : Nat) : Bool :=
  match l[i]? with
  | none => true
  | some x => folB (prev l i) x
def okUp (l : List Rd) (k : Nat) : Bool := (List.range k).all (okAt l)
def readB (l : List Rd) : Bool := inB 1 200 l.length && okUp l l.length
theorem okAt_at {l : List Rd} {i : Nat} {x : Rd} (h : l[i]? = some x) : okAt l i = folB (prev l i) x := by unfold okAt; rw [h]
theorem okUp_succ (l : List Rd) (k : Nat) : okUp l (k + 1) = (okUp l k && okAt l k) := by
  unfold okUp; rw [List.range_succ, List.all_append]; simp
theorem okUp_step {l : List Rd} {k : Nat} (h : okUp l k = true) (g : okAt l k = true) : okUp l (k + 1) = true := by
  rw [okUp_succ, h, g]; rfl
theorem okUp_at {l : List Rd} {k i : Nat} (h : okUp l k = true) (hi : i < k) : okAt l i = true := by
  unfold okUp at h; rw [List.all_eq_true] at h; exact h i (List.mem_range.2 hi)
theorem okUp_not {l : List Rd} {k i : Nat} (hi : i < k) (g : okAt l i = false) : okUp l k = false := by
  unfold okUp; rw [List.all_eq_false]; exact ⟨i, List.mem_range.2 hi, by rw [g]; decide⟩
theorem read_len {l : List Rd} (h : readB l = true) : 1 ≤ l.length ∧ l.length ≤ 200 := by
  unfold readB at h; rw [Bool.and_eq_true, in_iff] at h; omega
theorem read_no {l : List Rd} {i : Nat} (hi : i < l.length) (g : okAt l i = false) : readB l = false := by
  unfold readB; rw [okUp_not hi g, Bool.and_false]
theorem read_long {l : List Rd} (h : l.length = 0 ∨ 200 < l.length) : readB l = false := by
  unfold readB; rw [in_no (by omega)]; rfl
theorem read_yes {l : List Rd} (h0 : 1 ≤ l.length) (h1 : l.length ≤ 200) (g : okUp l l.length = true) : readB l = true := by
  unfold readB; rw [in_yes (by omega) (by omega), g]; rfl
theorem read_fol {l : List Rd} {i : Nat} {x : Rd} (h : readB l = true) (hx : l[i]? = some x) : folB (prev l i) x = true := by
  have hi := (List.getElem?_eq_some_iff.1 hx).1
  unfold readB at h; rw [Bool.and_eq_true] at h
  rw [← okAt_at hx]; exact okUp_at h.2 hi
theorem read_bd {l : List Rd} {i : Nat} {x : Rd} (h : readB l = true) (hx : l[i]? = some x) : (0 ≤ x.h ∧ x.h ≤ 1000000) ∧ -1000 ≤ x.t ∧ x.t ≤ 1000 := by
  have := read_fol h hx
  unfold folB at this
  rw [Bool.and_eq_true, Bool.and_eq_true, in_iff, in_iff] at this
  exact this.2
theorem read_asc {l : List Rd} {i : Nat} {x y : Rd} (h : readB l = true) (hx : l[i]? = some x) (hy : l[i + 1]? = some y) : x.h < y.h := by
  have := read_fol h hy
  unfold folB at this
  rw [show prev l (i + 1) = l[i]? from rfl, hx] at this
  simp only [precB, Bool.and_eq_true, decide_eq_true_eq] at this
  exact this.1
theorem read_asc' {l : List Rd} {i j : Nat} {x y : Rd} (h : readB l = true) (hij : i < j) (hx : l[i]? = some x) (hy : l[j]? = some y) : x.h < y.h := by
  induction j generalizing y with
  | zero => omega
  | succ j ih =>
    have hj := (List.getElem?_eq_some_iff.1 hy).1
    by_cases e : i = j
    · subst e; exact read_asc h hx hy
    · have := ih (by omega) (List.getElem?_eq_getElem (show j < l.length by omega))
      have := read_asc h (List.getElem?_eq_getElem (show j < l.length by omega)) hy
      omega

/-- The hour to which a reading holds. -/
def tillL (l : List Rd) (e : Int) (i : Nat) : Int :=
  match l[i + 1]? with
  | some y => y.h
  | none => e
/-- A stretch of hours: from, to, its temperature. -/
structure Sg where
  f : Int
  t : Int
  c : Int
deriving DecidableEq
def sgAt (l : List Rd) (e : Int) (i : Nat) : Sg := ⟨(l.getD i ⟨0, 0⟩).h, tillL l e i, (l.getD i ⟨0, 0⟩).t⟩
def strs (l : List Rd) (e : Int) (k : Nat) : List Sg := (List.range k).map (sgAt l e)
theorem strs_succ (l : List Rd) (e : Int) (k : Nat) : strs l e (k + 1) = strs l e k ++ [sgAt l e k] := by
  unfold strs; rw [List.range_succ, List.map_append]; rfl
theorem strs_prefix (l : List Rd) (e : Int) {k m : Nat} (h : k ≤ m) : strs l e k <+: strs l e m := by
  obtain ⟨d, rfl⟩ : ∃ d, m = k + d := ⟨m - k, by omega⟩
  unfold strs; rw [List.range_add, List.map_append]; exact List.prefix_append _ _
theorem strs_length (l : List Rd) (e : Int) (k : Nat) : (strs l e k).length = k := by simp [strs]
theorem sgAt_at {l : List Rd} {e : Int} {i : Nat} {x : Rd} (h : l[i]? = some x) : sgAt l e i = ⟨x.h, tillL l e i, x.t⟩ := by
  unfold sgAt; rw [List.getD_eq_getElem?_getD, h]; rfl
/-- What has come is so many stretches, and the next one is known. -/
theorem strs_pre {l : List Rd} {e : Int} {m : Nat} {pre : List Sg} {x : Sg} (h : pre ++ [x] <+: strs l e m) : pre.length < m ∧ pre = strs l e pre.length ∧ x = sgAt l e pre.length := by
  have hl := h.length_le
  rw [strs_length, List.length_append, List.length_singleton] at hl
  have h2 := List.prefix_of_prefix_length_le h (strs_prefix l e (show pre.length + 1 ≤ m by omega)) (by simp [strs_length])
  have h3 := h2.eq_of_length (by simp [strs_length])
  rw [strs_succ] at h3
  have h4 := List.append_inj h3 (by simp [strs_length])
  exact ⟨by omega, h4.1, by simpa using h4.2⟩
/-- The end is not before the last reading, nor too late. -/
def endB (l : List Rd) (e : Int) : Bool := inB ((l.getD (l.length - 1) ⟨0, 0⟩).h) 1000000 e
end Go.Proofs.YteidabpflfkdcaaDoor.Cd
