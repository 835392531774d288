/-
  PLAIN MATHEMATICS (2): what Number makes of a mark, of a mark with one sign changed, of a mark with two neighbouring digits exchanged.
-/
import Derived.Test.YtknggeofilfiaaaGreatDoorMkPlain
namespace Go.Proofs.YtknggeofilfiaaaGreatDoor.Mk
open Go

theorem isDig_byt {d : Nat} (h : d < 10) : isDig (byt d) = true := by
  unfold isDig
  rw [byt_toNat h]
  exact decide_eq_true (by omega)
theorem byt_of_dig {c : UInt8} (h : isDig c = true) : ∃ d, d < 10 ∧ c = byt d := by
  have h2 : 48 ≤ c.toNat ∧ c.toNat ≤ 57 := by simpa [isDig] using h
  refine ⟨c.toNat - 48, by omega, ?_⟩
  apply UInt8.toNat_inj.1
  rw [byt_toNat (by omega)]
  omega
theorem byt_inj {d e : Nat} (hd : d < 10) (he : e < 10) (h : byt d = byt e) : d = e := by
  have h1 := byt_toNat hd
  have h2 := byt_toNat he
  rw [h] at h1
  omega
theorem idx_sg (k : Nat) (h : k < 11) : idx (sg k) = k := by
  have hc : k = 0 ∨ k = 1 ∨ k = 2 ∨ k = 3 ∨ k = 4 ∨ k = 5 ∨ k = 6 ∨ k = 7 ∨ k = 8 ∨ k = 9 ∨ k = 10 := by omega
  rcases hc with rfl | rfl | rfl | rfl | rfl | rfl | rfl | rfl | rfl | rfl | rfl <;> decide +kernel
theorem indexByte_at (c : UInt8) (l : List UInt8) (h : 0 ≤ Lib.indexByte l c) : l.getD (Lib.indexByte l c).toNat 0 = c := by
  induction l with
  | nil => simp [Lib.indexByte] at h
  | cons b l ih =>
    rw [Lib.indexByte] at h ⊢
    by_cases hb : (b == c) = true
    · rw [if_pos hb]
      simpa using hb
    · rw [if_neg hb] at h ⊢
      have hbd := indexByte_bd c l
      by_cases h1 : (Lib.indexByte l c == -1) = true
      · rw [if_pos h1] at h; omega
      · rw [if_neg h1] at h ⊢
        have h2 : Lib.indexByte l c ≠ -1 := by simpa using h1
        have h3 := ih (by omega)
        rw [show (Lib.indexByte l c + 1).toNat = (Lib.indexByte l c).toNat + 1 by omega, List.getD_cons_succ]
        exact h3
theorem sg_idx (c : UInt8) (h : 0 ≤ idx c) : sg (idx c).toNat = c := by
  unfold sg idx at *
  exact indexByte_at c signs h

def w6 (d0 d1 d2 d3 d4 d5 : Nat) : Nat := 2 * d0 + 3 * d1 + 4 * d2 + 5 * d3 + 6 * d4 + 7 * d5
def n6 (d0 d1 d2 d3 d4 d5 : Nat) : Nat := ((((d0 * 10 + d1) * 10 + d2) * 10 + d3) * 10 + d4) * 10 + d5
theorem step_byt (n d : Nat) (h : d < 10) : step n (byt d) = n * 10 + d := by
  unfold step
  rw [byt_toNat h]
  omega
theorem dval_six {d0 d1 d2 d3 d4 d5 : Nat} (h0 : d0 < 10) (h1 : d1 < 10) (h2 : d2 < 10) (h3 : d3 < 10) (h4 : d4 < 10) (h5 : d5 < 10) :
    dval [byt d0, byt d1, byt d2, byt d3, byt d4, byt d5] = n6 d0 d1 d2 d3 d4 d5 := by
  unfold dval dvalOn
  simp only [List.foldl_cons, List.foldl_nil]
  rw [step_byt 0 d0 h0, step_byt _ d1 h1, step_byt _ d2 h2, step_byt _ d3 h3, step_byt _ d4 h4, step_byt _ d5 h5]
  unfold n6
  omega
theorem chk_n6 {d0 d1 d2 d3 d4 d5 : Nat} (h0 : d0 < 10) (h1 : d1 < 10) (h2 : d2 < 10) (h3 : d3 < 10) (h4 : d4 < 10) (h5 : d5 < 10) :
    chk (n6 d0 d1 d2 d3 d4 d5) = (11 - w6 d0 d1 d2 d3 d4 d5 % 11) % 11 := by
  unfold chk
  rw [ws_six]
  have e0 : dig (n6 d0 d1 d2 d3 d4 d5) 0 = d0 := by simp only [dig, n6]; omega
  have e1 : dig (n6 d0 d1 d2 d3 d4 d5) 1 = d1 := by simp only [dig, n6]; omega
  have e2 : dig (n6 d0 d1 d2 d3 d4 d5) 2 = d2 := by simp only [dig, n6]; omega
  have e3 : dig (n6 d0 d1 d2 d3 d4 d5) 3 = d3 := by simp only [dig, n6]; omega
  have e4 : dig (n6 d0 d1 d2 d3 d4 d5) 4 = d4 := by simp only [dig, n6]; omega
  have e5 : dig (n6 d0 d1 d2 d3 d4 d5) 5 = d5 := by simp only [dig, n6]; omega
  rw [e0, e1, e2, e3, e4, e5]
  rfl
theorem form_eight (x0 x1 x2 x3 x4 x5 s : UInt8) (h0 : isDig x0 = true) (h1 : isDig x1 = true) (h2 : isDig x2 = true) (h3 : isDig x3 = true) (h4 : isDig x4 = true) (h5 : isDig x5 = true) (hs : 0 ≤ idx s) :
    form [x0, x1, x2, x3, x4, x5, 45, s] = true := by
  simp [form, h0, h1, h2, h3, h4, h5, hs]
theorem form_not (x0 x1 x2 x3 x4 x5 h s : UInt8) (hn : (isDig x0 && isDig x1 && isDig x2 && isDig x3 && isDig x4 && isDig x5) = false) :
    form [x0, x1, x2, x3, x4, x5, h, s] = false := by
  have : (List.take 6 [x0, x1, x2, x3, x4, x5, h, s]).all isDig = false := by
    rw [← hn]
    simp [Bool.and_assoc]
  unfold form
  rw [this]
  simp
theorem number_digits {d0 d1 d2 d3 d4 d5 : Nat} (h0 : d0 < 10) (h1 : d1 < 10) (h2 : d2 < 10) (h3 : d3 < 10) (h4 : d4 < 10) (h5 : d5 < 10) (s : UInt8) (hs : 0 ≤ idx s) :
    number [byt d0, byt d1, byt d2, byt d3, byt d4, byt d5, 45, s] = if (idx s).toNat = (11 - w6 d0 d1 d2 d3 d4 d5 % 11) % 11 then (n6 d0 d1 d2 d3 d4 d5, 0) else (0, 12) := by
  have hf := form_eight _ _ _ _ _ _ s (isDig_byt h0) (isDig_byt h1) (isDig_byt h2) (isDig_byt h3) (isDig_byt h4) (isDig_byt h5) hs
  have hn : numOf [byt d0, byt d1, byt d2, byt d3, byt d4, byt d5, 45, s] = n6 d0 d1 d2 d3 d4 d5 := by
    unfold numOf
    rw [if_pos hf]
    exact dval_six h0 h1 h2 h3 h4 h5
  have hg : signOf [byt d0, byt d1, byt d2, byt d3, byt d4, byt d5, 45, s] = (idx s).toNat := by
    unfold signOf
    rw [if_pos hf]
    rfl
  unfold number
  rw [if_pos hf, hn, hg, chk_n6 h0 h1 h2 h3 h4 h5]
/-- A number's digits. -/
theorem digits_of (n : Nat) (hn : n ≤ 999999) : n6 (dig n 0) (dig n 1) (dig n 2) (dig n 3) (dig n 4) (dig n 5) = n := by
  simp only [n6, dig]
  omega
theorem markL_eq (n : Nat) : markL n = [byt (dig n 0), byt (dig n 1), byt (dig n 2), byt (dig n 3), byt (dig n 4), byt (dig n 5), 45, sg (chk n)] := rfl
theorem chk_eq (n : Nat) : chk n = (11 - w6 (dig n 0) (dig n 1) (dig n 2) (dig n 3) (dig n 4) (dig n 5) % 11) % 11 := by
  unfold chk
  rw [ws_six]
  rfl
theorem number_mark (n : Nat) (hn : n ≤ 999999) : number (markL n) = (n, 0) := by
  have hi := idx_sg (chk n) (chk_lt n)
  rw [markL_eq, number_digits (dig_lt n 0) (dig_lt n 1) (dig_lt n 2) (dig_lt n 3) (dig_lt n 4) (dig_lt n 5) _ (by rw [hi]; omega), hi, if_pos (by rw [← chk_eq]; omega), digits_of n hn]

/-- A mark with the sign at a changed. -/
def turnL (l : List UInt8) (a : Nat) (c : UInt8) : List UInt8 := l.take a ++ [c] ++ l.drop (a + 1)
def swapL (l : List UInt8) (a : Nat) : List UInt8 := l.take a ++ (l.drop (a + 1)).take 1 ++ (l.drop a).take 1 ++ l.drop (a + 2)
theorem number_bad {x0 x1 x2 x3 x4 x5 h s : UInt8} (hn : (isDig x0 && isDig x1 && isDig x2 && isDig x3 && isDig x4 && isDig x5) = false) : (number [x0, x1, x2, x3, x4, x5, h, s]).2 ≠ 0 := by
  unfold number
  rw [form_not _ _ _ _ _ _ _ _ hn, if_neg (by decide)]
  decide
theorem turned_digit {d0 d1 d2 d3 d4 d5 : Nat} (h0 : d0 < 10) (h1 : d1 < 10) (h2 : d2 < 10) (h3 : d3 < 10) (h4 : d4 < 10) (h5 : d5 < 10) (k : Nat) (hk : k < 11) (hne : k ≠ (11 - w6 d0 d1 d2 d3 d4 d5 % 11) % 11) :
    number [byt d0, byt d1, byt d2, byt d3, byt d4, byt d5, 45, sg k] = (0, 12) := by
  have hi := idx_sg k hk
  rw [number_digits h0 h1 h2 h3 h4 h5 _ (by rw [hi]; omega), hi, if_neg (by omega)]
theorem number_turned (n a : Nat) (c : UInt8) (ha : a ≤ 7) (ha6 : a ≠ 6) (hc : c ≠ (markL n).getD a 0) : (number (turnL (markL n) a c)).2 ≠ 0 := by
  have hk := chk_lt n
  have hce := chk_eq n
  rw [markL_eq] at hc ⊢
  have g0 := dig_lt n 0
  have g1 := dig_lt n 1
  have g2 := dig_lt n 2
  have g3 := dig_lt n 3
  have g4 := dig_lt n 4
  have g5 := dig_lt n 5
  generalize dig n 0 = d0 at *
  generalize dig n 1 = d1 at *
  generalize dig n 2 = d2 at *
  generalize dig n 3 = d3 at *
  generalize dig n 4 = d4 at *
  generalize dig n 5 = d5 at *
  generalize chk n = k at *
  unfold w6 at hce
  have hcase : a = 0 ∨ a = 1 ∨ a = 2 ∨ a = 3 ∨ a = 4 ∨ a = 5 ∨ a = 7 := by omega
  rcases hcase with rfl | rfl | rfl | rfl | rfl | rfl | rfl
  · show (number [c, byt d1, byt d2, byt d3, byt d4, byt d5, 45, sg k]).2 ≠ 0
    by_cases hd : isDig c = true
    · obtain ⟨e, he, rfl⟩ := byt_of_dig hd
      have hne : e ≠ d0 := fun h => hc (by rw [h]; rfl)
      rw [turned_digit he g1 g2 g3 g4 g5 k hk (by unfold w6; omega)]; decide
    · exact number_bad (by simp [hd])
  · show (number [byt d0, c, byt d2, byt d3, byt d4, byt d5, 45, sg k]).2 ≠ 0
    by_cases hd : isDig c = true
    · obtain ⟨e, he, rfl⟩ := byt_of_dig hd
      have hne : e ≠ d1 := fun h => hc (by rw [h]; rfl)
      rw [turned_digit g0 he g2 g3 g4 g5 k hk (by unfold w6; omega)]; decide
    · exact number_bad (by simp [hd])
  · show (number [byt d0, byt d1, c, byt d3, byt d4, byt d5, 45, sg k]).2 ≠ 0
    by_cases hd : isDig c = true
    · obtain ⟨e, he, rfl⟩ := byt_of_dig hd
      have hne : e ≠ d2 := fun h => hc (by rw [h]; rfl)
      rw [turned_digit g0 g1 he g3 g4 g5 k hk (by unfold w6; omega)]; decide
    · exact number_bad (by simp [hd])
  · show (number [byt d0, byt d1, byt d2, c, byt d4, byt d5, 45, sg k]).2 ≠ 0
    by_cases hd : isDig c = true
    · obtain ⟨e, he, rfl⟩ := byt_of_dig hd
      have hne : e ≠ d3 := fun h => hc (by rw [h]; rfl)
      rw [turned_digit g0 g1 g2 he g4 g5 k hk (by unfold w6; omega)]; decide
    · exact number_bad (by simp [hd])
  · show (number [byt d0, byt d1, byt d2, byt d3, c, byt d5, 45, sg k]).2 ≠ 0
    by_cases hd : isDig c = true
    · obtain ⟨e, he, rfl⟩ := byt_of_dig hd
      have hne : e ≠ d4 := fun h => hc (by rw [h]; rfl)
      rw [turned_digit g0 g1 g2 g3 he g5 k hk (by unfold w6; omega)]; decide
    · exact number_bad (by simp [hd])
  · show (number [byt d0, byt d1, byt d2, byt d3, byt d4, c, 45, sg k]).2 ≠ 0
    by_cases hd : isDig c = true
    · obtain ⟨e, he, rfl⟩ := byt_of_dig hd
      have hne : e ≠ d5 := fun h => hc (by rw [h]; rfl)
      rw [turned_digit g0 g1 g2 g3 g4 he k hk (by unfold w6; omega)]; decide
    · exact number_bad (by simp [hd])
  · show (number [byt d0, byt d1, byt d2, byt d3, byt d4, byt d5, 45, c]).2 ≠ 0
    by_cases hi : 0 ≤ idx c
    · rw [number_digits g0 g1 g2 g3 g4 g5 c hi, if_neg]
      · decide
      · intro h
        refine hc ?_
        rw [← sg_idx c hi, h]
        show sg _ = sg k
        rw [hce]
        rfl
    · unfold number
      rw [if_neg]
      · decide
      · simp [form, hi]
theorem number_swapped (n a : Nat) (ha : a < 5) (hc : (markL n).getD a 0 ≠ (markL n).getD (a + 1) 0) : number (swapL (markL n) a) = (0, 12) := by
  have hk := chk_lt n
  have hce := chk_eq n
  rw [markL_eq] at hc ⊢
  have g0 := dig_lt n 0
  have g1 := dig_lt n 1
  have g2 := dig_lt n 2
  have g3 := dig_lt n 3
  have g4 := dig_lt n 4
  have g5 := dig_lt n 5
  generalize dig n 0 = d0 at *
  generalize dig n 1 = d1 at *
  generalize dig n 2 = d2 at *
  generalize dig n 3 = d3 at *
  generalize dig n 4 = d4 at *
  generalize dig n 5 = d5 at *
  generalize chk n = k at *
  unfold w6 at hce
  have hcase : a = 0 ∨ a = 1 ∨ a = 2 ∨ a = 3 ∨ a = 4 := by omega
  rcases hcase with rfl | rfl | rfl | rfl | rfl
  · have hne : d0 ≠ d1 := fun h => hc (by rw [h]; rfl)
    exact turned_digit g1 g0 g2 g3 g4 g5 k hk (by unfold w6; omega)
  · have hne : d1 ≠ d2 := fun h => hc (by rw [h]; rfl)
    exact turned_digit g0 g2 g1 g3 g4 g5 k hk (by unfold w6; omega)
  · have hne : d2 ≠ d3 := fun h => hc (by rw [h]; rfl)
    exact turned_digit g0 g1 g3 g2 g4 g5 k hk (by unfold w6; omega)
  · have hne : d3 ≠ d4 := fun h => hc (by rw [h]; rfl)
    exact turned_digit g0 g1 g2 g4 g3 g5 k hk (by unfold w6; omega)
  · have hne : d4 ≠ d5 := fun h => hc (by rw [h]; rfl)
    exact turned_digit g0 g1 g2 g3 g5 g4 k hk (by unfold w6; omega)
end Go.Proofs.YtknggeofilfiaaaGreatDoor.Mk
