/-
  Plain mathematics of loans: names, days, which loans are valid, which overlap.
-/
import Derived.WalkKit
import Derived.Lib.Strings
namespace Go.Proofs.Ytaofjomocefdkaa.Ln
open Go

/-- A loan. -/
structure Loan where
  p : ByteArray
  t : ByteArray
  out : Int
  due : Int
  back : Int
/-- A small letter, a digit or a hyphen. -/
def isN (b : UInt8) : Bool := decide (97 ≤ b.toNat ∧ b.toNat ≤ 122 ∨ 48 ≤ b.toNat ∧ b.toNat ≤ 57 ∨ b.toNat = 45)
def nameL (l : List UInt8) : Bool := decide (1 ≤ l.length ∧ l.length ≤ 30) && l.all isN
def nameB (s : ByteArray) : Bool := nameL s.data.toList
theorem nameL_len {l : List UInt8} (h : ¬ (1 ≤ l.length ∧ l.length ≤ 30)) : nameL l = false := by
  unfold nameL
  rw [decide_eq_false h]
  rfl
theorem nameL_bad {l : List UInt8} {p : Nat} (hp : p < l.length) (h : isN l[p] = false) : nameL l = false := by
  have : l.all isN = false := by
    rw [List.all_eq_false]
    exact ⟨l[p], List.getElem_mem hp, by rw [h]; decide⟩
  unfold nameL
  rw [this, Bool.and_false]
theorem nameL_yes {l : List UInt8} (h1 : 1 ≤ l.length) (h2 : l.length ≤ 30) (h : l.all isN = true) : nameL l = true := by
  unfold nameL
  rw [h, decide_eq_true ⟨h1, h2⟩]
  rfl
/-- The kinds of a rune, seen by the tests of Name. -/
theorem rune_kind (c : Nat) : c < 45 ∨ c = 45 ∨ (45 < c ∧ c < 48) ∨ (48 ≤ c ∧ c ≤ 57) ∨ (57 < c ∧ c < 97) ∨ (97 ≤ c ∧ c ≤ 122) ∨ 122 < c := by omega
def dayB (n : Int) : Bool := decide (0 ≤ n) && decide (n ≤ 100000)
/-- All numbers in a range. -/
def allIn (lo hi : Int) (L : List Int) : Bool := L.all fun n => decide (lo ≤ n) && decide (n ≤ hi)
def okB (x : Loan) : Bool := nameB x.p && (nameB x.t && decide ((0 ≤ x.out ∧ x.out < x.due ∧ x.due ≤ 100000) ∧ (x.back = 0 ∨ x.out < x.back ∧ x.back ≤ 100000)))
/-- The first day on which the piece is back. -/
def home (x : Loan) : Int := if x.back = 0 then 100001 else x.back
/-- Two texts are one. -/
def eqS (a b : ByteArray) : Bool := a.toList == b.toList
theorem eqS_iff {a b : ByteArray} : eqS a b = true ↔ a = b := by
  unfold eqS
  rw [beq_iff_eq]
  constructor
  · intro h
    apply ByteArray.ext
    apply Array.ext'
    rw [← Lib.toList_data, ← Lib.toList_data, h]
  · rintro rfl; rfl
theorem eqS_refl (a : ByteArray) : eqS a a = true := eqS_iff.2 rfl
/-- The earlier one is still out when the later one begins. -/
def clB (a b : Loan) : Bool := eqS a.p b.p && decide (b.out < home a)
/-- The days of a piece, in the order of its loans. -/
def calL (l : List Loan) (p : ByteArray) : List (Int × Int) := (l.filter fun x => eqS x.p p).map fun x => (x.out, home x)
theorem calL_snoc (l : List Loan) (x : Loan) (p : ByteArray) : calL (l ++ [x]) p = calL l p ++ if eqS x.p p = true then [(x.out, home x)] else [] := by
  unfold calL
  rw [List.filter_append, List.map_append]
  cases h : eqS x.p p <;> simp [h]
theorem calL_len (l : List Loan) (p : ByteArray) : (calL l p).length ≤ l.length := by
  unfold calL
  rw [List.length_map]
  exact List.length_filter_le _ _
/-- The last of the spans is over. -/
def lastOk (s : List (Int × Int)) (day : Int) : Bool := match s.getLast? with
  | none => true
  | some q => decide (q.2 ≤ day)
/-- The loan before has not gone out later. -/
def prevOk (l : List Loan) (x : Loan) : Bool := match l.getLast? with
  | none => true
  | some y => decide (y.out ≤ x.out)
def folB (l : List Loan) (x : Loan) : Bool := (prevOk l x && decide (l.length < 200)) && okB x
/-- One loan more may be entered. -/
def entB (l : List Loan) (x : Loan) : Bool := folB l x && lastOk (calL l x.p) x.out
/-- All can be entered, one after the other. -/
def vlB : List Loan → List Loan → Bool
  | _, [] => true
  | pre, x :: r => entB pre x && vlB (pre ++ [x]) r
theorem vlB_snoc (pre l : List Loan) (x : Loan) : vlB pre (l ++ [x]) = (vlB pre l && entB (pre ++ l) x) := by
  induction l generalizing pre with
  | nil => simp [vlB]
  | cons y l ih =>
    rw [List.cons_append, vlB, vlB, ih, Bool.and_assoc, List.append_assoc, List.singleton_append]
def validL (l : List Loan) : Bool := vlB [] l
theorem validL_snoc (l : List Loan) (x : Loan) : validL (l ++ [x]) = (validL l && entB l x) := by
  unfold validL
  rw [vlB_snoc, List.nil_append]
theorem validL_take {l : List Loan} {k : Nat} {x : Loan} (hx : l[k]? = some x) : validL (l.take (k + 1)) = (validL (l.take k) && entB (l.take k) x) := by
  have hk := (List.getElem?_eq_some_iff.1 hx).1
  have e : l[k] = x := (List.getElem?_eq_some_iff.1 hx).2
  rw [List.take_succ_eq_append_getElem hk, e, validL_snoc]
theorem vlB_no (pre l r : List Loan) (h : vlB pre l = false) : vlB pre (l ++ r) = false := by
  induction l generalizing pre with
  | nil => simp [vlB] at h
  | cons y l ih =>
    rw [List.cons_append, vlB]
    rw [vlB] at h
    cases he : entB pre y with
    | false => rfl
    | true =>
      rw [he, Bool.true_and] at h
      rw [ih _ h, Bool.and_false]
theorem validL_no {l : List Loan} {k : Nat} (h : validL (l.take k) = false) : validL l = false := by
  have := vlB_no [] (l.take k) (l.drop k) h
  rwa [List.take_append_drop] at this
end Go.Proofs.Ytaofjomocefdkaa.Ln
