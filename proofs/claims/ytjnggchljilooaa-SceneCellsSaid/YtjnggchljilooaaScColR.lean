/-
  PLAIN (layer 7, scene): the cells of a row over which the line goes, as the document words it.
-/
import Derived.Test.YtjnggchljilooaaScHideP
namespace Go.Proofs.Ytjnggchljilooaa.Sc

/-- A cell is at most a half from where the line crosses its row. -/
def crB (e : Ey) (x y r c : Int) : Bool := inB (-(y + e.b)) (y + e.b) (2 * (c * (y + e.b) - acr e x y r))
/-- Of the first cells of a row those over which the line goes. -/
def colR (e : Ey) (x y r : Int) (k : Nat) : List Int := ((List.range k).map fun (i : Nat) => (i : Int)).filter (crB e x y r)
theorem colR_zero (e : Ey) (x y r : Int) : colR e x y r 0 = [] := rfl
theorem colR_succ (e : Ey) (x y r : Int) (k : Nat) : colR e x y r (k + 1) = colR e x y r k ++ if crB e x y r k = true then [(k : Int)] else [] := by
  unfold colR
  rw [List.range_succ, List.map_append, List.filter_append]
  cases h : crB e x y r k <;> simp [h]
theorem colR_le (e : Ey) (x y r : Int) (k : Nat) : (colR e x y r k).length ≤ k := by
  unfold colR
  refine Nat.le_trans (List.length_filter_le _ _) ?_
  simp
theorem crB_iff {e : Ey} {x y r c : Int} (h : Bd e x y r) : crB e x y r c = true ↔ fst e x y r ≤ c ∧ c ≤ lst e x y r := by
  obtain ⟨-, ⟨b1, b2⟩, -, -, d1, d2, d3⟩ := h
  unfold crB fst lst
  rw [inB_iff]
  generalize acr e x y r = A
  obtain ⟨Y, hY⟩ : ∃ Y, y + e.b = Y := ⟨_, rfl⟩
  rw [hY]
  have hp : 0 < 2 * Y := by omega
  have e1 : (c + 1) * (2 * Y) = 2 * (c * Y) + 2 * Y := by rw [Int.add_mul, Int.one_mul, ← Int.mul_assoc, Int.mul_comm c 2, Int.mul_assoc]
  have e2 : c * (2 * Y) = 2 * (c * Y) := by rw [← Int.mul_assoc, Int.mul_comm c 2, Int.mul_assoc]
  have f1 : (2 * A + Y - 1) / (2 * Y) ≤ c ↔ 2 * A + Y - 1 < 2 * (c * Y) + 2 * Y := by
    rw [← e1, ← Int.ediv_lt_iff_lt_mul hp]
    omega
  have f2 : c ≤ (2 * A + Y) / (2 * Y) ↔ 2 * (c * Y) ≤ 2 * A + Y := by rw [← e2, Int.le_ediv_iff_mul_le hp]
  rw [f1, f2]
  generalize c * Y = m
  omega
theorem colR_nat {e : Ey} {x y r : Int} {F T : Nat} (h : Bd e x y r) (hF : fst e x y r = (F : Int)) (hT : lst e x y r = (T : Int)) (hFT : F ≤ T) (k : Nat) :
    colR e x y r k = (List.range (min k (T + 1) - F)).map fun (i : Nat) => (F : Int) + (i : Int) := by
  induction k with
  | zero => rw [colR_zero, Nat.zero_min, Nat.zero_sub]; rfl
  | succ k ih =>
    rw [colR_succ, ih]
    have hi := crB_iff (c := (k : Int)) h
    rw [hF, hT] at hi
    by_cases h1 : k < F
    · rw [if_neg (fun q => by have := (hi.1 q).1; omega), List.append_nil]
      congr 2
      omega
    · by_cases h2 : k ≤ T
      · rw [if_pos (hi.2 ⟨by omega, by omega⟩), show min (k + 1) (T + 1) - F = (min k (T + 1) - F) + 1 by omega, List.range_succ, List.map_append]
        congr 1
        simp only [List.map_cons, List.map_nil, List.cons.injEq, and_true]
        omega
      · rw [if_neg (fun q => by have := (hi.1 q).2; omega), List.append_nil]
        congr 2
        omega
theorem colR_all {e : Ey} {x y r : Int} {n : Nat} (h : Bd e x y r) (hn : lst e x y r ≤ (n : Int) - 1) : colR e x y r n = colL e x y r := by
  obtain ⟨b1, b2, -⟩ := cross_bd h
  obtain ⟨F, hF⟩ := Int.eq_ofNat_of_zero_le b1
  obtain ⟨T, hT⟩ := Int.eq_ofNat_of_zero_le (Int.le_trans b1 b2)
  rw [colR_nat h hF hT (by omega) n]
  unfold colL
  rw [hF, hT]
  congr 2
  omega
end Go.Proofs.Ytjnggchljilooaa.Sc
