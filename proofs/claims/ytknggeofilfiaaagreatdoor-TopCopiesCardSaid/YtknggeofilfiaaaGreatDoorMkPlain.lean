/-
  PLAIN MATHEMATICS for the marks of numbers (layer 1): six digits, the check sign, what a text of a mark's form holds. No program in this text.
-/
import Derived.Lib.ItoaNum
import Derived.Lib.Repeat
import Derived.Lib.Bytealg
namespace Go.Proofs.YtknggeofilfiaaaGreatDoor.Mk
open Go

/-- The k-th digit of a number of six digits, the first one at 0. -/
def dig (n : Nat) : Nat → Nat
  | 0 => n / 100000 % 10
  | 1 => n / 10000 % 10
  | 2 => n / 1000 % 10
  | 3 => n / 100 % 10
  | 4 => n / 10 % 10
  | _ => n % 10
theorem dig_lt (n k : Nat) : dig n k < 10 := by
  unfold dig
  split <;> exact Nat.mod_lt _ (by decide)
def byt (k : Nat) : UInt8 := UInt8.ofNat (48 + k)
theorem byt_toNat {k : Nat} (h : k < 10) : (byt k).toNat = 48 + k := by
  simp [byt]
  omega
def six (n : Nat) : List UInt8 := [byt (dig n 0), byt (dig n 1), byt (dig n 2), byt (dig n 3), byt (dig n 4), byt (dig n 5)]
theorem six_length (n : Nat) : (six n).length = 6 := rfl
/-- The weighted sum of the first p digits. -/
def ws (n : Nat) : Nat → Nat
  | 0 => 0
  | p + 1 => ws n p + (p + 2) * dig n p
theorem ws_six (n : Nat) : ws n 6 = 2 * dig n 0 + 3 * dig n 1 + 4 * dig n 2 + 5 * dig n 3 + 6 * dig n 4 + 7 * dig n 5 := by
  simp [ws]
def chk (n : Nat) : Nat := (11 - ws n 6 % 11) % 11
theorem chk_lt (n : Nat) : chk n < 11 := by unfold chk; omega
def signs : List UInt8 := [48, 49, 50, 51, 52, 53, 54, 55, 56, 57, 88]
def sg (k : Nat) : UInt8 := signs.getD k 0
def markL (n : Nat) : List UInt8 := six n ++ [45, sg (chk n)]
theorem markL_length (n : Nat) : (markL n).length = 8 := rfl

/-- The decimal numeral with zeros before it. -/
theorem dec_lt10 {n : Nat} (h : n < 10) : Lib.decDigits n = [byt n] := by
  rw [Lib.decDigits, dif_pos h]; rfl
theorem dec_ge10 {n : Nat} (h : ¬ n < 10) : Lib.decDigits n = Lib.decDigits (n / 10) ++ [byt (n % 10)] := by
  rw [Lib.decDigits, dif_neg h]; rfl
theorem six_of_dec (n : Nat) (h : n ≤ 999999) : (Lib.decDigits n).length ≤ 6 ∧ 1 ≤ (Lib.decDigits n).length ∧ List.replicate (6 - (Lib.decDigits n).length) 48 ++ Lib.decDigits n = six n := by
  have z : byt 0 = 48 := rfl
  by_cases h1 : n < 10
  · rw [dec_lt10 h1]
    have e0 : dig n 0 = 0 := by simp only [dig] <;> omega
    have e1 : dig n 1 = 0 := by simp only [dig] <;> omega
    have e2 : dig n 2 = 0 := by simp only [dig] <;> omega
    have e3 : dig n 3 = 0 := by simp only [dig] <;> omega
    have e4 : dig n 4 = 0 := by simp only [dig] <;> omega
    have e5 : dig n 5 = n := by simp only [dig] <;> omega
    simp [six, e0, e1, e2, e3, e4, e5, z]
  rw [dec_ge10 h1]
  by_cases h2 : n / 10 < 10
  · rw [dec_lt10 h2]
    have e0 : dig n 0 = 0 := by simp only [dig] <;> omega
    have e1 : dig n 1 = 0 := by simp only [dig] <;> omega
    have e2 : dig n 2 = 0 := by simp only [dig] <;> omega
    have e3 : dig n 3 = 0 := by simp only [dig] <;> omega
    have e4 : dig n 4 = n / 10 := by simp only [dig] <;> omega
    have e5 : dig n 5 = n % 10 := by simp only [dig] <;> omega
    simp [six, e0, e1, e2, e3, e4, e5, z]
  rw [dec_ge10 h2]
  by_cases h3 : n / 10 / 10 < 10
  · rw [dec_lt10 h3]
    have e0 : dig n 0 = 0 := by simp only [dig] <;> omega
    have e1 : dig n 1 = 0 := by simp only [dig] <;> omega
    have e2 : dig n 2 = 0 := by simp only [dig] <;> omega
    have e3 : dig n 3 = n / 10 / 10 := by simp only [dig] <;> omega
    have e4 : dig n 4 = n / 10 % 10 := by simp only [dig] <;> omega
    have e5 : dig n 5 = n % 10 := by simp only [dig] <;> omega
    simp [six, e0, e1, e2, e3, e4, e5, z]
  rw [dec_ge10 h3]
  by_cases h4 : n / 10 / 10 / 10 < 10
  · rw [dec_lt10 h4]
    have e0 : dig n 0 = 0 := by simp only [dig] <;> omega
    have e1 : dig n 1 = 0 := by simp only [dig] <;> omega
    have e2 : dig n 2 = n / 10 / 10 / 10 := by simp only [dig] <;> omega
    have e3 : dig n 3 = n / 10 / 10 % 10 := by simp only [dig] <;> omega
    have e4 : dig n 4 = n / 10 % 10 := by simp only [dig] <;> omega
    have e5 : dig n 5 = n % 10 := by simp only [dig] <;> omega
    simp [six, e0, e1, e2, e3, e4, e5, z]
  rw [dec_ge10 h4]
  by_cases h5 : n / 10 / 10 / 10 / 10 < 10
  · rw [dec_lt10 h5]
    have e0 : dig n 0 = 0 := by simp only [dig] <;> omega
    have e1 : dig n 1 = n / 10 / 10 / 10 / 10 := by simp only [dig] <;> omega
    have e2 : dig n 2 = n / 10 / 10 / 10 % 10 := by simp only [dig] <;> omega
    have e3 : dig n 3 = n / 10 / 10 % 10 := by simp only [dig] <;> omega
    have e4 : dig n 4 = n / 10 % 10 := by simp only [dig] <;> omega
    have e5 : dig n 5 = n % 10 := by simp only [dig] <;> omega
    simp [six, e0, e1, e2, e3, e4, e5, z]
  rw [dec_ge10 h5, dec_lt10 (by omega : n / 10 / 10 / 10 / 10 / 10 < 10)]
  have e0 : dig n 0 = n / 10 / 10 / 10 / 10 / 10 := by simp only [dig] <;> omega
  have e1 : dig n 1 = n / 10 / 10 / 10 / 10 % 10 := by simp only [dig] <;> omega
  have e2 : dig n 2 = n / 10 / 10 / 10 % 10 := by simp only [dig] <;> omega
  have e3 : dig n 3 = n / 10 / 10 % 10 := by simp only [dig] <;> omega
  have e4 : dig n 4 = n / 10 % 10 := by simp only [dig] <;> omega
  have e5 : dig n 5 = n % 10 := by simp only [dig] <;> omega
  simp [six, e0, e1, e2, e3, e4, e5]

/-! ### What a text holds -/
def isDig (b : UInt8) : Bool := decide (48 ≤ b.toNat ∧ b.toNat ≤ 57)
/-- The number that digits give, read from the left onto v. -/
def step (n : Nat) (b : UInt8) : Nat := n * 10 + (b.toNat - 48)
def dvalOn (v : Nat) (l : List UInt8) : Nat := l.foldl step v
theorem dvalOn_cons (v : Nat) (b : UInt8) (l : List UInt8) : dvalOn v (b :: l) = dvalOn (step v b) l := by
  unfold dvalOn; rw [List.foldl_cons]
def dval (l : List UInt8) : Nat := dvalOn 0 l
theorem dval_snoc (l : List UInt8) (b : UInt8) : dval (l ++ [b]) = step (dval l) b := by
  unfold dval dvalOn; rw [List.foldl_append, List.foldl_cons, List.foldl_nil]
/-- The place of a byte among the signs; -1 if it is none. -/
def idx (b : UInt8) : Int := Lib.indexByte signs b
theorem indexByte_bd (c : UInt8) (l : List UInt8) : -1 ≤ Lib.indexByte l c ∧ Lib.indexByte l c < (l.length : Int) := by
  induction l with
  | nil => simp [Lib.indexByte]
  | cons b l ih =>
    obtain ⟨h1, h2⟩ := ih
    rw [Lib.indexByte, List.length_cons]
    split
    · omega
    · split <;> omega
theorem idx_bd (b : UInt8) : -1 ≤ idx b ∧ idx b ≤ 10 := by
  have := indexByte_bd b signs
  have h : (signs.length : Int) = 11 := rfl
  unfold idx
  omega
/-- Is a text of a mark's form? -/
def form (l : List UInt8) : Bool := decide (l.length = 8) && l.getD 6 0 == 45 && (l.take 6).all isDig && decide (0 ≤ idx (l.getD 7 0))
def numOf (l : List UInt8) : Nat := if form l then dval (l.take 6) else 0
def signOf (l : List UInt8) : Nat := if form l then (idx (l.getD 7 0)).toNat else 0
/-- What Number returns: the number, and the error. -/
def number (l : List UInt8) : Nat × Nat := if form l then (if signOf l = chk (numOf l) then (numOf l, 0) else (0, 12)) else (0, 2)

theorem dval_lt (l : List UInt8) (h : l.all isDig = true) (k : Nat) (hk : l.length = k) : dval l < 10 ^ k := by
  subst hk
  have : ∀ (l : List UInt8) (v : Nat), l.all isDig = true → dvalOn v l < (v + 1) * 10 ^ l.length := by
    intro l
    induction l with
    | nil => intro v _; simp [dvalOn]
    | cons b l ih =>
      intro v h
      simp only [List.all_cons, Bool.and_eq_true] at h
      have hb : 48 ≤ b.toNat ∧ b.toNat ≤ 57 := by simpa [isDig] using h.1
      have := ih (step v b) h.2
      rw [dvalOn_cons, List.length_cons]
      refine Nat.lt_of_lt_of_le this ?_
      rw [Nat.pow_succ, Nat.mul_comm (10 ^ l.length) 10, ← Nat.mul_assoc]
      exact Nat.mul_le_mul_right _ (by unfold step; omega)
  unfold dval
  have := this l 0 h
  omega
theorem dval_small (l : List UInt8) (h : l.all isDig = true) (hl : l.length ≤ 5) : dval l ≤ 99999 := by
  have := dval_lt l h _ rfl
  have h2 : 10 ^ l.length ≤ 10 ^ 5 := Nat.pow_le_pow_right (by decide) hl
  omega
theorem numOf_lt (l : List UInt8) : numOf l ≤ 999999 := by
  unfold numOf
  split
  · rename_i h
    simp only [form, Bool.and_eq_true, decide_eq_true_eq] at h
    have := dval_lt (l.take 6) h.1.2 6 (by simp [h.1.1.1])
    omega
  · omega
end Go.Proofs.YtknggeofilfiaaaGreatDoor.Mk
