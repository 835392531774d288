/-
  WALKS (layer 7, scene): where a line of sight crosses a row.
-/
import Derived.Test.YtjnggchljilooaaScAsked
namespace Go.Proofs.Ytjnggchljilooaa.Sc
open Go Go.RowKit

def acr (e : Ey) (x y r : Int) : Int := e.x * (y + e.b) + (x - e.x) * (r + e.b)
def fst (e : Ey) (x y r : Int) : Int := (2 * acr e x y r + (y + e.b) - 1) / (2 * (y + e.b))
def lst (e : Ey) (x y r : Int) : Int := (2 * acr e x y r + (y + e.b)) / (2 * (y + e.b))
/-- What is asked of an eye, a cell and a row ahead of it. -/
def Bd (e : Ey) (x y r : Int) : Prop := (0 ≤ e.x ∧ e.x ≤ 23) ∧ (1 ≤ e.b ∧ e.b ≤ 100) ∧ (0 ≤ e.h ∧ e.h ≤ 2000) ∧ (0 ≤ x ∧ x ≤ 23) ∧ 0 ≤ r ∧ r ≤ y ∧ y ≤ 23
theorem acr_eq (e : Ey) (x y r : Int) : acr e x y r = e.x * (y - r) + x * (r + e.b) := by
  unfold acr
  rw [Int.sub_mul, show y + e.b = (y - r) + (r + e.b) by omega, Int.mul_add]
  omega
theorem acr_bd {e : Ey} {x y r : Int} (h : Bd e x y r) : 0 ≤ acr e x y r ∧ acr e x y r ≤ 23 * (y + e.b) := by
  obtain ⟨⟨a1, a2⟩, ⟨b1, b2⟩, -, ⟨c1, c2⟩, d1, d2, d3⟩ := h
  rw [acr_eq]
  have h1 : 0 ≤ e.x * (y - r) := Int.mul_nonneg a1 (by omega)
  have h2 : 0 ≤ x * (r + e.b) := Int.mul_nonneg c1 (by omega)
  have h3 : e.x * (y - r) ≤ 23 * (y - r) := Int.mul_le_mul_of_nonneg_right a2 (by omega)
  have h4 : x * (r + e.b) ≤ 23 * (r + e.b) := Int.mul_le_mul_of_nonneg_right c2 (by omega)
  omega
/-- It crosses a row over cells of the ground, at least over one. -/
theorem cross_bd {e : Ey} {x y r : Int} (h : Bd e x y r) : 0 ≤ fst e x y r ∧ fst e x y r ≤ lst e x y r ∧ lst e x y r ≤ 23 := by
  have ha := acr_bd h
  obtain ⟨-, ⟨b1, b2⟩, -, -, d1, d2, d3⟩ := h
  have hp : 0 < 2 * (y + e.b) := by omega
  refine ⟨Int.ediv_nonneg (by omega) (by omega), Int.ediv_le_ediv hp (by omega), ?_⟩
  have : lst e x y r < 24 := (Int.ediv_lt_iff_lt_mul hp).2 (by omega)
  omega
/-- It crosses at most over as far as the eye's or the cell's column. -/
theorem acr_le {e : Ey} {x y r m : Int} (h : Bd e x y r) (h1 : e.x ≤ m) (h2 : x ≤ m) : acr e x y r ≤ m * (y + e.b) := by
  obtain ⟨⟨a1, a2⟩, ⟨b1, b2⟩, -, ⟨c1, c2⟩, d1, d2, d3⟩ := h
  rw [acr_eq]
  have h3 : e.x * (y - r) ≤ m * (y - r) := Int.mul_le_mul_of_nonneg_right h1 (by omega)
  have h4 : x * (r + e.b) ≤ m * (r + e.b) := Int.mul_le_mul_of_nonneg_right h2 (by omega)
  have h5 : m * (y + e.b) = m * (y - r) + m * (r + e.b) := by rw [← Int.mul_add]; congr 1; omega
  omega
theorem lst_lt {e : Ey} {x y r m : Int} (h : Bd e x y r) (h1 : e.x ≤ m) (h2 : x ≤ m) : lst e x y r ≤ m := by
  have ha := acr_le h h1 h2
  obtain ⟨-, ⟨b1, b2⟩, -, -, d1, d2, d3⟩ := h
  have hp : 0 < 2 * (y + e.b) := by omega
  have : lst e x y r < m + 1 := (Int.ediv_lt_iff_lt_mul hp).2 (by
    have : (m + 1) * (2 * (y + e.b)) = 2 * (m * (y + e.b)) + 2 * (y + e.b) := by rw [Int.add_mul, Int.one_mul, ← Int.mul_assoc, Int.mul_comm m 2, Int.mul_assoc]
    omega)
  omega
set_option maxRecDepth 100000 in
set_option maxHeartbeats 1000000 in
theorem crossing_any (wd dp : Int) (v : Value) (e : Ey) (x y r : Int) (w : World) (h : Bd e x y r) :
    Calls Try.prog 63 #[.agg #[.int .i64 wd, .int .i64 dp, v, .int .i64 e.x, .int .i64 e.b, .int .i64 e.h], .int .i64 x, .int .i64 y, .int .i64 r] w fun en w' => en = .returned (.agg #[.int .i64 (fst e x y r), .int .i64 (lst e x y r), .int .i64 (r + e.b), .int .i64 (y + e.b)]) ∧ Below w.heap.size w w' := by
  have hab := acr_bd h
  have hcr := cross_bd h
  have hA : Kp (acr e x y r = e.x * (y + e.b) + (x - e.x) * (r + e.b)) := ⟨rfl⟩
  have hF : Kp (fst e x y r = (2 * acr e x y r + (y + e.b) - 1) / (2 * (y + e.b))) := ⟨rfl⟩
  have hL : Kp (lst e x y r = (2 * acr e x y r + (y + e.b)) / (2 * (y + e.b))) := ⟨rfl⟩
  obtain ⟨⟨a1, a2⟩, ⟨b1, b2⟩, -, ⟨c1, c2⟩, d1, d2, d3⟩ := h
  have hm1 : 0 ≤ e.x * (y + e.b) ∧ e.x * (y + e.b) ≤ 23 * 123 := ⟨Int.mul_nonneg a1 (by omega), Int.mul_le_mul a2 (by omega) (by omega) (by omega)⟩
  have hm2 : -(23 * 123) ≤ (x - e.x) * (r + e.b) ∧ (x - e.x) * (r + e.b) ≤ 23 * 123 := by
    have h1 : (x - e.x) * (r + e.b) ≤ 23 * (r + e.b) := Int.mul_le_mul_of_nonneg_right (by omega) (by omega)
    have h2 : (-23) * (r + e.b) ≤ (x - e.x) * (r + e.b) := Int.mul_le_mul_of_nonneg_right (by omega) (by omega)
    omega
  have e1 : IntKind.i64.wrap (r + e.b) = r + e.b := IntWalk.i64_in _ (by omega)
  have e2 : IntKind.i64.wrap (y + e.b) = y + e.b := IntWalk.i64_in _ (by omega)
  have e3 : IntKind.i64.wrap (e.x * (y + e.b)) = e.x * (y + e.b) := IntWalk.i64_in _ (by omega)
  have e4 : IntKind.i64.wrap (x - e.x) = x - e.x := IntWalk.i64_in _ (by omega)
  have e5 : IntKind.i64.wrap ((x - e.x) * (r + e.b)) = (x - e.x) * (r + e.b) := IntWalk.i64_in _ (by omega)
  have e6 : IntKind.i64.wrap (e.x * (y + e.b) + (x - e.x) * (r + e.b)) = acr e x y r := by rw [← hA.out]; exact IntWalk.i64_in _ (by omega)
  have q1 : ((2 * acr e x y r + (y + e.b) - 1).tdiv (2 * (y + e.b))) = fst e x y r := by rw [hF.out]; exact Int.tdiv_eq_ediv_of_nonneg (by omega)
  have q2 : ((2 * acr e x y r + (y + e.b)).tdiv (2 * (y + e.b))) = lst e x y r := by rw [hL.out]; exact Int.tdiv_eq_ediv_of_nonneg (by omega)
  obtain ⟨A, hAA⟩ : ∃ A, acr e x y r = A := ⟨_, rfl⟩
  obtain ⟨F, hFF⟩ : ∃ F, fst e x y r = F := ⟨_, rfl⟩
  obtain ⟨T, hTT⟩ : ∃ T, lst e x y r = T := ⟨_, rfl⟩
  rw [hAA] at e6 hab
  rw [hAA, hFF] at q1
  rw [hAA, hTT] at q2
  rw [hFF, hTT] at hcr
  rw [hFF, hTT]
  obtain ⟨Y, hY⟩ : ∃ Y, y + e.b = Y := ⟨_, rfl⟩
  obtain ⟨R, hR⟩ : ∃ R, r + e.b = R := ⟨_, rfl⟩
  replace e1 := e1.trans hR
  replace e2 := e2.trans hY
  rw [hY] at e3 e6 q1 q2 hab
  rw [hR] at e5 e6
  rw [hY, hR]
  have hYb : 1 ≤ Y ∧ Y ≤ 123 := by omega
  have e7 : IntKind.i64.wrap (2 * A) = 2 * A := IntWalk.i64_in _ (by omega)
  have e8 : IntKind.i64.wrap (2 * A + Y) = 2 * A + Y := IntWalk.i64_in _ (by omega)
  have e9 : IntKind.i64.wrap (2 * A + Y - 1) = 2 * A + Y - 1 := IntWalk.i64_in _ (by omega)
  have e10 : IntKind.i64.wrap (2 * Y) = 2 * Y := IntWalk.i64_in _ (by omega)
  have e11 : IntKind.i64.wrap F = F := IntWalk.i64_in _ (by omega)
  have e12 : IntKind.i64.wrap T = T := IntWalk.i64_in _ (by omega)
  have n0 : ¬ (2 * Y = 0) := by omega
  have n1 : ¬ (Y = 0) := by omega
  obtain ⟨ex, eb, eh⟩ := e
  simp only at e1 e2 e3 e4 e5 e6
  clear hab hcr hA hF hL a1 a2 b1 b2 c1 c2 d1 d2 d3 hm1 hm2 hAA hFF hTT hY hR hYb
  go_enter Try.func63, Try.ntmps63
  go_wp2
  go_region
  go_wp2
  go_region
  go_wp2
  exact bodyPost_ret (v := .agg #[.int .i64 F, .int .i64 T, .int .i64 R, .int .i64 Y]) (by simp [results, Try.results63, go_sem]) rfl ⟨rfl, Below.drew (Below.drew (by repeat (first | exact Below.refl _ _ | refine Below.alloc ?_ (by simp <;> omega) _ | refine bDrewN ?_ _ | refine Below.drew ?_)))⟩
theorem isUnder_any (f l gone all g eye p : Int) (w : World) (h : (-3000 ≤ p - eye ∧ p - eye ≤ 3000) ∧ (-3000 ≤ g - eye ∧ g - eye ≤ 3000) ∧ (0 ≤ gone ∧ gone ≤ 200) ∧ 0 ≤ all ∧ all ≤ 200) :
    Calls Try.prog 79 #[.agg #[.int .i64 f, .int .i64 l, .int .i64 gone, .int .i64 all], .int .i64 g, .int .i64 eye, .int .i64 p] w fun en w' => en = .returned (.bool (decide ((p - eye) * gone < (g - eye) * all))) ∧ Below w.heap.size w w' := by
  have h1 : -3000 * 200 ≤ (p - eye) * gone ∧ (p - eye) * gone ≤ 3000 * 200 := by
    have a1 : (p - eye) * gone ≤ 3000 * gone := Int.mul_le_mul_of_nonneg_right (by omega) (by omega)
    have a2 : (-3000) * gone ≤ (p - eye) * gone := Int.mul_le_mul_of_nonneg_right (by omega) (by omega)
    omega
  have h2 : -3000 * 200 ≤ (g - eye) * all ∧ (g - eye) * all ≤ 3000 * 200 := by
    have a1 : (g - eye) * all ≤ 3000 * all := Int.mul_le_mul_of_nonneg_right (by omega) (by omega)
    have a2 : (-3000) * all ≤ (g - eye) * all := Int.mul_le_mul_of_nonneg_right (by omega) (by omega)
    omega
  have e1 : IntKind.i64.wrap (p - eye) = p - eye := IntWalk.i64_in _ (by omega)
  have e2 : IntKind.i64.wrap (g - eye) = g - eye := IntWalk.i64_in _ (by omega)
  have e3 : IntKind.i64.wrap ((p - eye) * gone) = (p - eye) * gone := IntWalk.i64_in _ (by omega)
  have e4 : IntKind.i64.wrap ((g - eye) * all) = (g - eye) * all := IntWalk.i64_in _ (by omega)
  clear h h1 h2
  go_enter Try.func79, Try.ntmps79
  go_wp2
  go_ret
  exact ⟨rfl, by repeat (first | exact Below.refl _ _ | refine Below.alloc ?_ (by simp <;> omega) _ | refine bDrewN ?_ _ | refine Below.drew ?_)⟩
end Go.Proofs.Ytjnggchljilooaa.Sc
