/-
  WALKS (layer 7, scene): the law SceneLooks at every ground and eye.
-/
import Derived.Test.YtjnggchljilooaaScLawLooks
namespace Go.Proofs.Ytjnggchljilooaa.Sc
open Go Go.RowKit Go.Sort

theorem two_ratios {n m d b t p q : Nat} (hd : 0 < d) (hn : n = p * b) (hm : m = p * t) :
    m / Nat.gcd m d * b * (d / Nat.gcd n d) = n / Nat.gcd n d * (d / Nat.gcd m d) * t := by
  have g1 : 0 < Nat.gcd n d := Nat.gcd_pos_of_pos_right _ hd
  have g2 : 0 < Nat.gcd m d := Nat.gcd_pos_of_pos_right _ hd
  have e1 : n / Nat.gcd n d * Nat.gcd n d = n := Nat.div_mul_cancel (Nat.gcd_dvd_left n d)
  have e2 : d / Nat.gcd n d * Nat.gcd n d = d := Nat.div_mul_cancel (Nat.gcd_dvd_right n d)
  have e3 : m / Nat.gcd m d * Nat.gcd m d = m := Nat.div_mul_cancel (Nat.gcd_dvd_left m d)
  have e4 : d / Nat.gcd m d * Nat.gcd m d = d := Nat.div_mul_cancel (Nat.gcd_dvd_right m d)
  generalize n / Nat.gcd n d = a0 at *
  generalize d / Nat.gcd n d = a1 at *
  generalize m / Nat.gcd m d = c0 at *
  generalize d / Nat.gcd m d = c1 at *
  generalize Nat.gcd n d = x at *
  generalize Nat.gcd m d = z at *
  refine Nat.eq_of_mul_eq_mul_right (Nat.mul_pos g1 g2) ?_
  have l : c0 * b * a1 * (x * z) = (c0 * z) * b * (a1 * x) := by ac_rfl
  have r : a0 * c1 * t * (x * z) = (a0 * x) * (c1 * z) * t := by ac_rfl
  rw [l, r, e3, e2, e1, e4, hn, hm]
  ac_rfl
theorem wrap_nat {n : Nat} {x : Int} (h : x = (n : Int)) (k : n < 1000000000000) : IntKind.i64.wrap x = (n : Int) := by rw [h]; exact IntWalk.i64_in _ (by omega)
theorem looks_same {wd dp : Int} {L : List Int} {e : Ey} {y h to : Int} (k : smE wd dp L e y h to = 0) :
    ∃ P Q R S T : Int, IntKind.i64.wrap (ratN (smE wd dp L e y h to) (h * (to + e.b)).toNat (y + e.b).toNat * e.b) = P ∧ IntKind.i64.wrap (P * ratD (lkE wd dp L e y h) (h * e.b).toNat (y + e.b).toNat) = Q ∧ IntKind.i64.wrap (ratN (lkE wd dp L e y h) (h * e.b).toNat (y + e.b).toNat * ratD (smE wd dp L e y h to) (h * (to + e.b)).toNat (y + e.b).toNat) = R ∧ IntKind.i64.wrap (to + e.b) = S ∧ IntKind.i64.wrap (R * S) = T ∧ Q = T := by
  obtain ⟨k1, k2⟩ := sm_lk k
  obtain ⟨h1, h2, h3, h4⟩ := lkE_zero k1
  rw [inB_iff] at k2
  obtain ⟨p, hp⟩ := Int.eq_ofNat_of_zero_le h4.1
  obtain ⟨b, hb⟩ := Int.eq_ofNat_of_zero_le (show 0 ≤ e.b by omega)
  obtain ⟨t, ht⟩ := Int.eq_ofNat_of_zero_le (show 0 ≤ to + e.b by omega)
  obtain ⟨d, hd⟩ := Int.eq_ofNat_of_zero_le (show 0 ≤ y + e.b by omega)
  have ep : p ≤ 3000 := by omega
  have eb : b ≤ 100 := by omega
  have et : t ≤ 200 := by omega
  have ed : d ≤ 200 := by omega
  have d0 : 0 < d := by omega
  rw [k, k1, ht, hd, hp, hb, ← Int.natCast_mul, ← Int.natCast_mul, Int.toNat_natCast, Int.toNat_natCast, Int.toNat_natCast]
  have m1 : p * b ≤ 3000 * 100 := Nat.mul_le_mul ep eb
  have m2 : p * t ≤ 3000 * 200 := Nat.mul_le_mul ep et
  have key := two_ratios (n := p * b) (m := p * t) (p := p) (q := 0) d0 rfl rfl
  have b0 : p * b / Nat.gcd (p * b) d ≤ 300000 := Nat.le_trans (Nat.div_le_self _ _) m1
  have b1 : d / Nat.gcd (p * b) d ≤ 200 := Nat.le_trans (Nat.div_le_self _ _) ed
  have b2 : p * t / Nat.gcd (p * t) d ≤ 600000 := Nat.le_trans (Nat.div_le_self _ _) m2
  have b3 : d / Nat.gcd (p * t) d ≤ 200 := Nat.le_trans (Nat.div_le_self _ _) ed
  unfold ratN ratD
  rw [if_pos rfl, if_pos rfl, if_pos rfl, if_pos rfl]
  generalize p * b / Nat.gcd (p * b) d = a0 at *
  generalize d / Nat.gcd (p * b) d = a1 at *
  generalize p * t / Nat.gcd (p * t) d = c0 at *
  generalize d / Nat.gcd (p * t) d = c1 at *
  have n1 : c0 * b ≤ 600000 * 100 := Nat.mul_le_mul b2 eb
  have n2 : c0 * b * a1 ≤ 600000 * 100 * 200 := Nat.mul_le_mul n1 b1
  have n3 : a0 * c1 ≤ 300000 * 200 := Nat.mul_le_mul b0 b3
  refine ⟨(c0 * b : Nat), (c0 * b * a1 : Nat), (a0 * c1 : Nat), (t : Nat), (a0 * c1 * t : Nat), wrap_nat (Int.natCast_mul _ _).symm (by omega), wrap_nat (Int.natCast_mul _ _).symm (by omega), wrap_nat (Int.natCast_mul _ _).symm (by omega), wrap_nat rfl (by omega), wrap_nat (Int.natCast_mul _ _).symm (by omega), by rw [key]⟩
theorem law_looks (wd dp : Int) (v : Value) (L : List Int) (e : Ey) (y h to : Int) (w : World) (hv : IS w v L) (hl : L.length ≤ 9223372036854775807) :
    Calls Try.prog 8 #[.agg #[.int .i64 wd, .int .i64 dp, v], .agg #[.int .i64 e.x, .int .i64 e.b, .int .i64 e.h], .int .i64 y, .int .i64 h, .int .i64 to] w fun en w' => en = .returned (.bool true) ∧ Below w.heap.size w w' := by
  have HF : Kp (smE wd dp L e y h to = 0 → _) := ⟨fun k => looks_same k⟩
  have H1 := Kp.mk fun W (hW : Below w.heap.size w W) => Looks_any wd dp v L e y h W (hv.below hW) hl
  have H2 := Kp.mk fun W (hW : Below w.heap.size w W) => rLooks_any wd dp v L e y h W (hv.below hW) hl
  have H3 := Kp.mk fun W (hW : Below w.heap.size w W) => Same_any wd dp v L e y h to W (hv.below hW) hl
  have H4 := Kp.mk fun W (hW : Below w.heap.size w W) => rSame_any wd dp v L e y h to W (hv.below hW) hl
  simp only [looksV_eq] at H1 H2 H3 H4
  obtain ⟨g, c, rfl⟩ := hv.shape
  exact law_looks_st wd dp e.x e.b e.h y h to g L.length c _ _ _ _ _ _ w H1 H2 H3 H4 HF
end Go.Proofs.Ytjnggchljilooaa.Sc
