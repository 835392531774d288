/-
  The law BathBetween, its ways put together.
-/
import Derived.Test.YtopbbghjmdhplaaBtBetB
namespace Go.Proofs.Ytopbbghjmdhplaa.Bt
open Go Go.RowKit

theorem cmpI_same {a b c d : Int} (h : a - b = c - d) : cmpI a b = cmpI c d := by
  unfold cmpI
  by_cases h1 : a < b
  · rw [if_pos h1, if_pos (by omega)]
  · rw [if_neg h1, if_neg (show ¬ c < d by omega)]
    by_cases h2 : b < a
    · rw [if_pos h2, if_pos (by omega)]
    · rw [if_neg h2, if_neg (by omega)]
theorem cmpI_sq (a b : Int) : 0 ≤ cmpI a b * cmpI a b ∧ cmpI a b * cmpI a b ≤ 1 := by
  unfold cmpI
  split
  · decide
  · split <;> decide
/-- The strength of two baths that are mixed lies between theirs. -/
theorem between {a b : Ba} (h : mixE a b = 0) (h1 : stgE a (mixV a b) = 0) (h2 : stgE (mixV a b) b = 0) : 0 ≤ stgV a (mixV a b) * stgV (mixV a b) b ∧ stgV a (mixV a b) * stgV (mixV a b) b ≤ 1 := by
  have hm : mixV a b = addB a b := by unfold mixV; rw [if_pos h]
  have e1 : stgV a (mixV a b) = cmpI (a.a * (a.w + b.w)) ((a.a + b.a) * a.w) := by unfold stgV; rw [if_pos h1, hm]; rfl
  have e2 : stgV (mixV a b) b = cmpI ((a.a + b.a) * b.w) (b.a * (a.w + b.w)) := by unfold stgV; rw [if_pos h2, hm]; rfl
  have e3 : cmpI (a.a * (a.w + b.w)) ((a.a + b.a) * a.w) = cmpI ((a.a + b.a) * b.w) (b.a * (a.w + b.w)) := cmpI_same (by
    rw [Int.mul_add, Int.add_mul, Int.add_mul, Int.mul_add]; omega)
  rw [e1, e2, e3]
  exact cmpI_sq _ _
theorem wat_zero {W S A n d : Int} (h : watE W S A n d = 0) : bathB ⟨W, S, A⟩ = true ∧ fracB n d = true ∧ short A n d = false ∧ watA W S A n d = watR W A n d := by
  unfold watE at h
  split at h
  · split at h
    · split at h
      · cases h
      · rename_i h1 h2 h3
        have h3' : short A n d = false := by simpa using h3
        exact ⟨h1, h2, h3', by unfold watA; rw [h1, h2, h3']; rfl⟩
    · cases h
  · cases h
theorem between_a (x y z u v r n d m0 m1 m2 k p f q g : Int) (w : World) 
    (H1 : Kp (MixC 50 x y z u v r m0 m1 m2 k)) (H2 : Kp (StgC x y z m0 m1 m2 p f)) (H3 : Kp (StgC m0 m1 m2 u v r q g)) (hk : (k == 0) = false) :
    Calls Try.prog 13 #[.agg #[.int .i64 x, .int .i64 y, .int .i64 z], .agg #[.int .i64 u, .int .i64 v, .int .i64 r], .agg #[.int .i64 n, .int .i64 d]] w (Ends w) := by
  by_cases h : watE x y z n d = 0
  · obtain ⟨hb, hf, hs, hA⟩ := wat_zero h
    obtain ⟨⟨n0, n1⟩, d0, d1⟩ := frac_iff.1 hf
    obtain ⟨⟨w0, w1⟩, -, a0, a1⟩ := bath_iff.1 hb
    simp only at w0 w1 a0 a1
    obtain ⟨y0, y1, y7, y10, y2⟩ := wat_least (W := x) n0 a0 d0 hs
    have y2 := y2 w1
    have H4 : Kp (WatC x y z n d (watR x z n d) 0) := ⟨fun W => (Water_any x y z n d W).mono fun _ _ ⟨he, hb⟩ => ⟨by rw [he, hA, h], hb⟩⟩
    obtain ⟨ww, hww⟩ : ∃ ww, watR x z n d = ww := ⟨_, rfl⟩
    rw [hww] at H4 y0 y1 y7 y10 y2
    obtain ⟨y3, y4⟩ := mul_bd (x := z) (y := d) a0 a1 (show 0 ≤ d by omega) d1
    obtain ⟨y5, y6⟩ := mul_bd (x := n) (y := x + ww) n0 n1 (by omega) y2
    by_cases c1 : ww = 0
    · exact between_aB1 x y z u v r n d m0 m1 m2 k p f q g ww w H1 H2 H3 H4 hk y0 y1 y2 y3 y4 y5 y6 y7 (by rw [c1]; rfl)
    · have e1 : (ww == 0) = false := by rw [beq_eq_false_iff_ne]; exact c1
      by_cases c2 : x + ww = 1
      · exact between_aB2 x y z u v r n d m0 m1 m2 k p f q g ww w H1 H2 H3 H4 hk y0 y1 y2 y3 y4 y5 y6 y7 e1 (by rw [c2]; rfl)
      · obtain ⟨y8, y9⟩ := mul_bd (x := n) (y := x + ww - 1) (n := 1000000000) n0 n1 (by omega) (by omega)
        exact between_aB3 x y z u v r n d m0 m1 m2 k p f q g ww w H1 H2 H3 H4 hk y0 y1 y2 y3 y4 y5 y6 y7 e1 (by rw [beq_eq_false_iff_ne]; exact c2) y8 y9 (by omega)
  · exact between_aA x y z u v r n d m0 m1 m2 k p f q g _ _ w H1 H2 H3 ⟨fun W => Water_any x y z n d W⟩ hk (by rw [bne_iff_ne]; exact h)
theorem between_b (x y z u v r n d m0 m1 m2 p f q g : Int) (w : World) 
    (H1 : Kp (MixC 50 x y z u v r m0 m1 m2 0)) (H2 : Kp (StgC x y z m0 m1 m2 p f)) (H3 : Kp (StgC m0 m1 m2 u v r q g)) (hfx : (f == 0) = false) :
    Calls Try.prog 13 #[.agg #[.int .i64 x, .int .i64 y, .int .i64 z], .agg #[.int .i64 u, .int .i64 v, .int .i64 r], .agg #[.int .i64 n, .int .i64 d]] w (Ends w) := by
  by_cases h : watE x y z n d = 0
  · obtain ⟨hb, hf, hs, hA⟩ := wat_zero h
    obtain ⟨⟨n0, n1⟩, d0, d1⟩ := frac_iff.1 hf
    obtain ⟨⟨w0, w1⟩, -, a0, a1⟩ := bath_iff.1 hb
    simp only at w0 w1 a0 a1
    obtain ⟨y0, y1, y7, y10, y2⟩ := wat_least (W := x) n0 a0 d0 hs
    have y2 := y2 w1
    have H4 : Kp (WatC x y z n d (watR x z n d) 0) := ⟨fun W => (Water_any x y z n d W).mono fun _ _ ⟨he, hb⟩ => ⟨by rw [he, hA, h], hb⟩⟩
    obtain ⟨ww, hww⟩ : ∃ ww, watR x z n d = ww := ⟨_, rfl⟩
    rw [hww] at H4 y0 y1 y7 y10 y2
    obtain ⟨y3, y4⟩ := mul_bd (x := z) (y := d) a0 a1 (show 0 ≤ d by omega) d1
    obtain ⟨y5, y6⟩ := mul_bd (x := n) (y := x + ww) n0 n1 (by omega) y2
    by_cases c1 : ww = 0
    · exact between_bB1 x y z u v r n d m0 m1 m2 p f q g ww w H1 H2 H3 H4 hfx y0 y1 y2 y3 y4 y5 y6 y7 (by rw [c1]; rfl)
    · have e1 : (ww == 0) = false := by rw [beq_eq_false_iff_ne]; exact c1
      by_cases c2 : x + ww = 1
      · exact between_bB2 x y z u v r n d m0 m1 m2 p f q g ww w H1 H2 H3 H4 hfx y0 y1 y2 y3 y4 y5 y6 y7 e1 (by rw [c2]; rfl)
      · obtain ⟨y8, y9⟩ := mul_bd (x := n) (y := x + ww - 1) (n := 1000000000) n0 n1 (by omega) (by omega)
        exact between_bB3 x y z u v r n d m0 m1 m2 p f q g ww w H1 H2 H3 H4 hfx y0 y1 y2 y3 y4 y5 y6 y7 e1 (by rw [beq_eq_false_iff_ne]; exact c2) y8 y9 (by omega)
  · exact between_bA x y z u v r n d m0 m1 m2 p f q g _ _ w H1 H2 H3 ⟨fun W => Water_any x y z n d W⟩ hfx (by rw [bne_iff_ne]; exact h)
theorem between_c (x y z u v r n d m0 m1 m2 p q g : Int) (w : World) 
    (H1 : Kp (MixC 50 x y z u v r m0 m1 m2 0)) (H2 : Kp (StgC x y z m0 m1 m2 p 0)) (H3 : Kp (StgC m0 m1 m2 u v r q g)) (hg : (g == 0) = false) :
    Calls Try.prog 13 #[.agg #[.int .i64 x, .int .i64 y, .int .i64 z], .agg #[.int .i64 u, .int .i64 v, .int .i64 r], .agg #[.int .i64 n, .int .i64 d]] w (Ends w) := by
  by_cases h : watE x y z n d = 0
  · obtain ⟨hb, hf, hs, hA⟩ := wat_zero h
    obtain ⟨⟨n0, n1⟩, d0, d1⟩ := frac_iff.1 hf
    obtain ⟨⟨w0, w1⟩, -, a0, a1⟩ := bath_iff.1 hb
    simp only at w0 w1 a0 a1
    obtain ⟨y0, y1, y7, y10, y2⟩ := wat_least (W := x) n0 a0 d0 hs
    have y2 := y2 w1
    have H4 : Kp (WatC x y z n d (watR x z n d) 0) := ⟨fun W => (Water_any x y z n d W).mono fun _ _ ⟨he, hb⟩ => ⟨by rw [he, hA, h], hb⟩⟩
    obtain ⟨ww, hww⟩ : ∃ ww, watR x z n d = ww := ⟨_, rfl⟩
    rw [hww] at H4 y0 y1 y7 y10 y2
    obtain ⟨y3, y4⟩ := mul_bd (x := z) (y := d) a0 a1 (show 0 ≤ d by omega) d1
    obtain ⟨y5, y6⟩ := mul_bd (x := n) (y := x + ww) n0 n1 (by omega) y2
    by_cases c1 : ww = 0
    · exact between_cB1 x y z u v r n d m0 m1 m2 p q g ww w H1 H2 H3 H4 hg y0 y1 y2 y3 y4 y5 y6 y7 (by rw [c1]; rfl)
    · have e1 : (ww == 0) = false := by rw [beq_eq_false_iff_ne]; exact c1
      by_cases c2 : x + ww = 1
      · exact between_cB2 x y z u v r n d m0 m1 m2 p q g ww w H1 H2 H3 H4 hg y0 y1 y2 y3 y4 y5 y6 y7 e1 (by rw [c2]; rfl)
      · obtain ⟨y8, y9⟩ := mul_bd (x := n) (y := x + ww - 1) (n := 1000000000) n0 n1 (by omega) (by omega)
        exact between_cB3 x y z u v r n d m0 m1 m2 p q g ww w H1 H2 H3 H4 hg y0 y1 y2 y3 y4 y5 y6 y7 e1 (by rw [beq_eq_false_iff_ne]; exact c2) y8 y9 (by omega)
  · exact between_cA x y z u v r n d m0 m1 m2 p q g _ _ w H1 H2 H3 ⟨fun W => Water_any x y z n d W⟩ hg (by rw [bne_iff_ne]; exact h)
theorem between_d (x y z u v r n d m0 m1 m2 p q : Int) (w : World) 
    (H1 : Kp (MixC 50 x y z u v r m0 m1 m2 0)) (H2 : Kp (StgC x y z m0 m1 m2 p 0)) (H3 : Kp (StgC m0 m1 m2 u v r q 0)) (hp0 : 0 ≤ p * q) (hp1 : p * q ≤ 1) :
    Calls Try.prog 13 #[.agg #[.int .i64 x, .int .i64 y, .int .i64 z], .agg #[.int .i64 u, .int .i64 v, .int .i64 r], .agg #[.int .i64 n, .int .i64 d]] w (Ends w) := by
  by_cases h : watE x y z n d = 0
  · obtain ⟨hb, hf, hs, hA⟩ := wat_zero h
    obtain ⟨⟨n0, n1⟩, d0, d1⟩ := frac_iff.1 hf
    obtain ⟨⟨w0, w1⟩, -, a0, a1⟩ := bath_iff.1 hb
    simp only at w0 w1 a0 a1
    obtain ⟨y0, y1, y7, y10, y2⟩ := wat_least (W := x) n0 a0 d0 hs
    have y2 := y2 w1
    have H4 : Kp (WatC x y z n d (watR x z n d) 0) := ⟨fun W => (Water_any x y z n d W).mono fun _ _ ⟨he, hb⟩ => ⟨by rw [he, hA, h], hb⟩⟩
    obtain ⟨ww, hww⟩ : ∃ ww, watR x z n d = ww := ⟨_, rfl⟩
    rw [hww] at H4 y0 y1 y7 y10 y2
    obtain ⟨y3, y4⟩ := mul_bd (x := z) (y := d) a0 a1 (show 0 ≤ d by omega) d1
    obtain ⟨y5, y6⟩ := mul_bd (x := n) (y := x + ww) n0 n1 (by omega) y2
    by_cases c1 : ww = 0
    · exact between_dB1 x y z u v r n d m0 m1 m2 p q ww w H1 H2 H3 H4 hp0 hp1 y0 y1 y2 y3 y4 y5 y6 y7 (by rw [c1]; rfl)
    · have e1 : (ww == 0) = false := by rw [beq_eq_false_iff_ne]; exact c1
      by_cases c2 : x + ww = 1
      · exact between_dB2 x y z u v r n d m0 m1 m2 p q ww w H1 H2 H3 H4 hp0 hp1 y0 y1 y2 y3 y4 y5 y6 y7 e1 (by rw [c2]; rfl)
      · obtain ⟨y8, y9⟩ := mul_bd (x := n) (y := x + ww - 1) (n := 1000000000) n0 n1 (by omega) (by omega)
        exact between_dB3 x y z u v r n d m0 m1 m2 p q ww w H1 H2 H3 H4 hp0 hp1 y0 y1 y2 y3 y4 y5 y6 y7 e1 (by rw [beq_eq_false_iff_ne]; exact c2) y8 y9 (by omega)
  · exact between_dA x y z u v r n d m0 m1 m2 p q _ _ w H1 H2 H3 ⟨fun W => Water_any x y z n d W⟩ hp0 hp1 (by rw [bne_iff_ne]; exact h)
theorem lawBetween_any (x y z u v r n d : Int) (w : World) : Calls Try.prog 13 #[.agg #[.int .i64 x, .int .i64 y, .int .i64 z], .agg #[.int .i64 u, .int .i64 v, .int .i64 r], .agg #[.int .i64 n, .int .i64 d]] w (Ends w) := by
  have H1 : MixC 50 x y z u v r (mixV ⟨x, y, z⟩ ⟨u, v, r⟩).w (mixV ⟨x, y, z⟩ ⟨u, v, r⟩).s (mixV ⟨x, y, z⟩ ⟨u, v, r⟩).a (mixE ⟨x, y, z⟩ ⟨u, v, r⟩) := fun W => Mixed_any x y z u v r W
  have H2 : StgC x y z (mixV ⟨x, y, z⟩ ⟨u, v, r⟩).w (mixV ⟨x, y, z⟩ ⟨u, v, r⟩).s (mixV ⟨x, y, z⟩ ⟨u, v, r⟩).a (stgV ⟨x, y, z⟩ (mixV ⟨x, y, z⟩ ⟨u, v, r⟩)) (stgE ⟨x, y, z⟩ (mixV ⟨x, y, z⟩ ⟨u, v, r⟩)) := fun W => Stronger_any x y z _ _ _ W
  have H3 : StgC (mixV ⟨x, y, z⟩ ⟨u, v, r⟩).w (mixV ⟨x, y, z⟩ ⟨u, v, r⟩).s (mixV ⟨x, y, z⟩ ⟨u, v, r⟩).a u v r (stgV (mixV ⟨x, y, z⟩ ⟨u, v, r⟩) ⟨u, v, r⟩) (stgE (mixV ⟨x, y, z⟩ ⟨u, v, r⟩) ⟨u, v, r⟩) := fun W => Stronger_any _ _ _ u v r W
  by_cases hk : mixE ⟨x, y, z⟩ ⟨u, v, r⟩ = 0
  · by_cases hf : stgE ⟨x, y, z⟩ (mixV ⟨x, y, z⟩ ⟨u, v, r⟩) = 0
    · by_cases hg : stgE (mixV ⟨x, y, z⟩ ⟨u, v, r⟩) ⟨u, v, r⟩ = 0
      · obtain ⟨hp0, hp1⟩ := between hk hf hg
        rw [hk] at H1
        rw [hf] at H2
        rw [hg] at H3
        exact between_d x y z u v r n d _ _ _ _ _ w ⟨H1⟩ ⟨H2⟩ ⟨H3⟩ hp0 hp1
      · rw [hk] at H1
        rw [hf] at H2
        exact between_c x y z u v r n d _ _ _ _ _ _ w ⟨H1⟩ ⟨H2⟩ ⟨H3⟩ (by rw [beq_eq_false_iff_ne]; exact hg)
    · rw [hk] at H1
      exact between_b x y z u v r n d _ _ _ _ _ _ _ w ⟨H1⟩ ⟨H2⟩ ⟨H3⟩ (by rw [beq_eq_false_iff_ne]; exact hf)
  · exact between_a x y z u v r n d _ _ _ _ _ _ _ _ w ⟨H1⟩ ⟨H2⟩ ⟨H3⟩ (by rw [beq_eq_false_iff_ne]; exact hk)
end Go.Proofs.Ytopbbghjmdhplaa.Bt
