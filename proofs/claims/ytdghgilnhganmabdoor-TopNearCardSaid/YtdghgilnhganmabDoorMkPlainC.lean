/-
  PLAIN MATHEMATICS (3): the numbers near a mark's text, place by place and digit by digit.
-/
import Derived.Test.YtdghgilnhganmabDoorMkPlainB
namespace Go.Proofs.YtdghgilnhganmabDoor.Mk
open Go

def pl : Nat → Nat
  | 0 => 1
  | 1 => 10
  | 2 => 100
  | 3 => 1000
  | 4 => 10000
  | 5 => 100000
  | _ => 1000000
def dgt (n j : Nat) : Nat := n / pl j % 10
theorem dgt_lt (n j : Nat) : dgt n j < 10 := Nat.mod_lt _ (by decide)
/-- n with the digit at place j turned into d. -/
def oth (n j d : Nat) : Nat := n - dgt n j * pl j + d * pl j
theorem oth_le (n j d : Nat) (hn : n ≤ 999999) (hj : j < 6) (hd : d < 10) : oth n j d ≤ 999999 := by
  have hc : j = 0 ∨ j = 1 ∨ j = 2 ∨ j = 3 ∨ j = 4 ∨ j = 5 := by omega
  rcases hc with rfl | rfl | rfl | rfl | rfl | rfl <;> simp only [oth, dgt, pl] <;> omega
theorem dgt_pl_le (n j : Nat) (hj : j < 6) : dgt n j * pl j ≤ n := by
  have hc : j = 0 ∨ j = 1 ∨ j = 2 ∨ j = 3 ∨ j = 4 ∨ j = 5 := by omega
  rcases hc with rfl | rfl | rfl | rfl | rfl | rfl <;> simp only [dgt, pl] <;> omega
def sel (n k j d : Nat) : Bool := d != dgt n j && chk (oth n j d) == k
def nearD (n k j : Nat) : Nat → List Int
  | 0 => []
  | d + 1 => nearD n k j d ++ if sel n k j d = true then [(oth n j d : Int)] else []
def nearJ (n k : Nat) : Nat → List Int
  | 0 => [(n : Int)]
  | j + 1 => nearJ n k j ++ nearD n k j 10
theorem nearD_len (n k j : Nat) : ∀ d, (nearD n k j d).length ≤ d
  | 0 => Nat.le_refl _
  | d + 1 => by
    have := nearD_len n k j d
    simp only [nearD, List.length_append]
    split <;> simp <;> omega
theorem nearJ_len (n k : Nat) : ∀ j, (nearJ n k j).length ≤ 1 + 10 * j
  | 0 => Nat.le_refl _
  | j + 1 => by
    have h1 := nearJ_len n k j
    have h2 := nearD_len n k j 10
    simp only [nearJ, List.length_append]
    omega
theorem nearJ_pos (n k : Nat) : ∀ j, 1 ≤ (nearJ n k j).length
  | 0 => Nat.le_refl _
  | j + 1 => by
    have h1 := nearJ_pos n k j
    simp only [nearJ, List.length_append]
    omega
def le2 (x y : Int) : Bool := decide (x ≤ y)
def sorted (l : List Int) : List Int := l.mergeSort fun x y => decide (x ≤ y)
/-- A list that ascends and has the same numbers is the sorted one. -/
theorem sorted_unique (l r : List Int) (hp : r.Perm l) (hs : r.Pairwise (· ≤ ·)) : r = sorted l := by
  have h1 : (sorted l).Perm l := List.mergeSort_perm l _
  have h2 : (sorted l).Pairwise (fun x y => decide (x ≤ y) = true) := List.pairwise_mergeSort (fun a b c h1 h2 => by simp at *; omega) (fun a b => by simp; omega) l
  have h3 : (sorted l).Pairwise (· ≤ ·) := h2.imp (by intro a b h; simpa using h)
  exact List.Perm.eq_of_pairwise (fun a b _ _ h1 h2 => Int.le_antisymm h1 h2) hs h3 (hp.trans h1.symm)
theorem sorted_len (l : List Int) : (sorted l).length = l.length := (List.mergeSort_perm l _).length_eq
/-- One number more, put where it belongs: what stands ahead is not greater, what stands behind is greater. -/
theorem put_sorted (pre suf : List Int) (x : Int) (h : (pre ++ suf).Pairwise (· ≤ ·)) (h1 : ∀ y ∈ pre, y ≤ x) (h2 : ∀ y ∈ suf, x ≤ y) : (pre ++ x :: suf).Pairwise (· ≤ ·) := by
  obtain ⟨ha, hb, hc⟩ := List.pairwise_append.1 h
  refine List.pairwise_append.2 ⟨ha, List.pairwise_cons.2 ⟨h2, hb⟩, fun a h3 b h4 => ?_⟩
  rcases List.mem_cons.1 h4 with rfl | h5
  · exact h1 a h3
  · exact hc a h3 b h5
theorem put_perm (pre suf : List Int) (x : Int) : (pre ++ x :: suf).Perm ((pre ++ suf) ++ [x]) := by
  have h1 : (pre ++ x :: suf).Perm (x :: (pre ++ suf)) := List.perm_middle
  exact h1.trans (List.perm_append_singleton x (pre ++ suf)).symm
/-- In an ascending list all that stands ahead of one that is not greater than x is not greater. -/
theorem pre_le (pre : List Int) (y x : Int) (h : (pre ++ [y]).Pairwise (· ≤ ·)) (hy : y ≤ x) : ∀ z ∈ pre ++ [y], z ≤ x := by
  obtain ⟨_, _, hc⟩ := List.pairwise_append.1 h
  intro z hz
  rcases List.mem_append.1 hz with h1 | h1
  · exact Int.le_trans (hc z h1 y (by simp)) hy
  · have : z = y := by simpa using h1
    omega
end Go.Proofs.YtdghgilnhganmabDoor.Mk
