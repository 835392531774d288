/-
  Plain mathematics of layer 3, second part: the greatest common divisor, the water that is needed.
-/
import Derived.Test.YteidabpflfkdcaaDoorBtPlain
namespace Go.Proofs.YteidabpflfkdcaaDoor.Bt

/-! ### The greatest common divisor -/
theorem gcd_step {a b : Nat} : Nat.gcd b (a % b) = Nat.gcd a b := by
  rw [Nat.gcd_comm b (a % b), ← Nat.gcd_rec, Nat.gcd_comm]
theorem gcd_step' {a b g : Nat} (e : Nat.gcd a b = g) : Nat.gcd b (a % b) = g := gcd_step.trans e

/-! ### Water -/
def G : Int := 1000000000
/-- The least amount of water with which it is weak enough; n is above 0 where there is acid. -/
def need (a n d : Int) : Int := if 0 < a then (a * d + n - 1) / n else 1
def watR (W a n d : Int) : Int := if need a n d - W < 0 then 0 else need a n d - W
theorem ceil_le {x n k : Int} (hn : 0 < n) : (x + n - 1) / n ≤ k ↔ x ≤ n * k := by
  have h := Int.ediv_lt_iff_lt_mul (a := x + n - 1) (b := k + 1) hn
  have e : (k + 1) * n = n * k + n := by rw [Int.add_mul, Int.one_mul, Int.mul_comm]
  rw [e] at h
  constructor
  · intro g
    have := h.1 (by omega)
    omega
  · intro g
    have := h.2 (by omega)
    omega
theorem need_le {a n d k : Int} (hn : 0 ≤ n) (ha : 0 ≤ a) (h : 0 < a → 0 < n) (hk : 1 ≤ k) : need a n d ≤ k ↔ a * d ≤ n * k := by
  unfold need
  by_cases h0 : 0 < a
  · rw [if_pos h0]; exact ceil_le (h h0)
  · rw [if_neg h0]
    obtain rfl : a = 0 := by omega
    have := Int.mul_nonneg hn (show 0 ≤ k by omega)
    rw [Int.zero_mul]
    omega
theorem need_pos {a n d : Int} (hd : 1 ≤ d) (h : 0 < a → 0 < n) : 1 ≤ need a n d := by
  unfold need
  by_cases h0 : 0 < a
  · rw [if_pos h0]
    have h1 := ceil_le (x := a * d) (k := 0) (h h0)
    have h2 := Int.mul_pos h0 (show 0 < d by omega)
    rw [Int.mul_zero] at h1
    omega
  · rw [if_neg h0]; omega
/-- No amount is enough. -/
def short (a n d : Int) : Bool := decide (n * 1000000000 < a * d)
theorem short_no {a n d : Int} (hn : 0 ≤ n) (ha : 0 ≤ a) (hd : 1 ≤ d) (h : short a n d = false) : (0 < a → 0 < n) ∧ need a n d ≤ 1000000000 := by
  have h1 : ¬ n * 1000000000 < a * d := by simpa [short] using h
  have h2 : 0 < a → 0 < n := fun h0 => by
    have h3 := Int.mul_pos h0 (show 0 < d by omega)
    omega
  exact ⟨h2, (need_le hn ha h2 (by omega)).2 (by omega)⟩
theorem short_yes {a n d : Int} (hn : 0 ≤ n) (ha : 0 ≤ a) (h : short a n d = true) : 0 < a ∧ (0 < n → 1000000000 < need a n d) := by
  have h1 : n * 1000000000 < a * d := by simpa [short] using h
  have h0 : 0 < a := by
    rcases Int.lt_or_le 0 a with g | g
    · exact g
    · obtain rfl : a = 0 := by omega
      rw [Int.zero_mul] at h1
      omega
  refine ⟨h0, fun g => ?_⟩
  have := need_le (d := d) (k := 1000000000) hn ha (fun _ => g) (by omega)
  omega
theorem wat_search {W a n d hi : Int} (hn : 0 ≤ n) (ha : 0 ≤ a) (hd : 1 ≤ d) (hs : 0 < a → 0 < n) (h1 : a * d ≤ n * hi) (h0 : 1 ≤ hi) (hw : W ≤ hi)
    (h2 : (hi = 1 ∨ hi = W) ∨ n * (hi - 1) < a * d) (h3 : hi = 1 → W = 0 ∨ W = 1) : hi - W = watR W a n d := by
  have a1 := (need_le (d := d) (k := hi) hn ha hs h0).2 h1
  have a2 := need_pos hd hs
  unfold watR
  rcases h2 with (h2 | h2) | h2
  · rcases h3 h2 with h | h
    · rw [if_neg (by omega)]; omega
    · by_cases hh : need a n d - W < 0
      · rw [if_pos hh]; omega
      · rw [if_neg hh]; omega
  · by_cases hh : need a n d - W < 0
    · rw [if_pos hh]; omega
    · rw [if_neg hh]; omega
  · by_cases hh : 1 ≤ hi - 1
    · have a3 := need_le (d := d) (k := hi - 1) hn ha hs hh
      rw [if_neg (by omega)]
      omega
    · rw [if_neg (by omega)]
      omega
/-- The water that is told is enough, and one grain less is not. -/
theorem wat_least {W a n d : Int} (hn : 0 ≤ n) (ha : 0 ≤ a) (hd : 1 ≤ d) (hs : short a n d = false) :
    0 ≤ watR W a n d ∧ 1 ≤ W + watR W a n d ∧ a * d ≤ n * (W + watR W a n d) ∧ (watR W a n d = 0 ∨ W + watR W a n d = 1 ∨ n * (W + watR W a n d - 1) < a * d) ∧ (W ≤ 1000000000 → W + watR W a n d ≤ 1000000000) := by
  obtain ⟨h1, h2⟩ := short_no hn ha hd hs
  have a2 := need_pos hd h1
  unfold watR
  by_cases hh : need a n d - W < 0
  · rw [if_pos hh]
    have a1 := (need_le (d := d) (k := W) hn ha h1 (by omega)).1 (by omega)
    rw [Int.add_zero]
    omega
  · rw [if_neg hh]
    rw [show W + (need a n d - W) = need a n d by omega]
    have a1 := (need_le (d := d) (k := need a n d) hn ha h1 (by omega)).1 (by omega)
    refine ⟨by omega, by omega, a1, ?_, by omega⟩
    by_cases h3 : need a n d = 1
    · exact .inr (.inl h3)
    · have a3 := need_le (d := d) (k := need a n d - 1) hn ha h1 (by omega)
      omega
end Go.Proofs.YteidabpflfkdcaaDoor.Bt
