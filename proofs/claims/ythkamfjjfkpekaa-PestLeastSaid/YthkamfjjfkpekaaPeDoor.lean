/-
  WALKS (layer 8, pest): what a door must not be.
-/
import Derived.Test.YthkamfjjfkpekaaPeSets
namespace Go.Proofs.Ythkamfjjfkpekaa.Pe
open Go Go.RowKit

/-- Whether a door is one of a house with so many rooms. -/
def doorB (R : Int) (d : Dr) : Bool := allIn 0 (R - 1) [d.a, d.b] && (decide (d.a < d.b) && inB 0 1000 d.c)
set_option maxRecDepth 100000 in
set_option maxHeartbeats 1000000 in
theorem wrong_any (B : Nat) (R : Int) (d : Dr) (w : World) (hc : w.cell? ⟨B, 0, none⟩ = some (.int .i64 R)) (h1 : 1 ≤ R) (h2 : R ≤ 12) :
    Calls Try.prog 95 #[.agg #[.int .i64 d.a, .int .i64 d.b, .int .i64 d.c], .pointer (some ⟨B, 0, none⟩)] w fun e w' => e = .returned (.bool (!doorB R d)) ∧ Below w.heap.size w w' := by
  obtain ⟨a, b, c⟩ := d
  have hB := World.block_lt_of_cell? _ _ hc
  have e1 : IntKind.i64.wrap (R - 1) = R - 1 := IntWalk.i64_in _ (by omega)
  have HW : Kp (∀ W u, IS W u [a, b] → Calls Try.prog 51 #[.int .i64 0, .int .i64 (R - 1), u] W fun e w' => e = .returned (.bool (allIn 0 (R - 1) [a, b])) ∧ W = w') := ⟨fun W u hu => within_any 0 (R - 1) u _ W hu (by simp)⟩
  have HC : Kp (∀ W u, IS W u [c] → Calls Try.prog 51 #[.int .i64 0, .int .i64 1000, u] W fun e w' => e = .returned (.bool (inB 0 1000 c)) ∧ W = w') := ⟨fun W u hu => by
    have := within_any 0 1000 u _ W hu (by simp)
    rwa [allIn_one] at this⟩
  unfold doorB
  simp only
  obtain ⟨P, hP⟩ : ∃ P, allIn 0 (R - 1) [a, b] = P := ⟨_, rfl⟩
  obtain ⟨Q, hQ⟩ : ∃ Q, inB 0 1000 c = Q := ⟨_, rfl⟩
  rw [hP] at HW ⊢
  rw [hQ] at HC ⊢
  clear hP hQ h1 h2
  go_enter Try.func95, Try.ntmps95
  go_wp2_with fail
  refine (HW.out _ _ (is_two (by go_simp) (by go_simp))).mono ?_
  rintro en w1 ⟨rfl, rfl⟩
  cases P with
  | false =>
    go_wp2
    go_ret
    exact ⟨rfl, by repeat (first | exact Below.refl _ _ | refine Below.alloc ?_ (by simp <;> omega) _ | refine bDrewN ?_ _ | refine Below.drew ?_)⟩
  | true =>
    by_cases hab : a < b
    · have o1 : ¬ b ≤ a := by omega
      go_wp2_with fail
      refine (HC.out _ _ (is_one (by go_simp))).mono ?_
      rintro en w2 ⟨rfl, rfl⟩
      have HAB := Kp.mk hab
      clear hab
      cases Q with
      | false =>
        go_wp2
        go_ret
        exact ⟨by simp, by repeat (first | exact Below.refl _ _ | refine Below.alloc ?_ (by simp <;> omega) _ | refine bDrewN ?_ _ | refine Below.drew ?_)⟩
      | true =>
        go_wp2
        go_ret
        exact ⟨by simp [HAB.out], by repeat (first | exact Below.refl _ _ | refine Below.alloc ?_ (by simp <;> omega) _ | refine bDrewN ?_ _ | refine Below.drew ?_)⟩
    · have o1 : b ≤ a := by omega
      have HAB := Kp.mk hab
      clear hab
      go_wp2
      go_ret
      exact ⟨by simp [HAB.out], by repeat (first | exact Below.refl _ _ | refine Below.alloc ?_ (by simp <;> omega) _ | refine bDrewN ?_ _ | refine Below.drew ?_)⟩
theorem wrongDoor_any (R x y : Int) (g : Option Addr) (M c : Nat) (w : World) : Calls Try.prog 64 #[.agg #[.int .i64 R, .slice g M c, .int .i64 x, .int .i64 y]] w fun e w' => e = .returned (.func (.func 95) #[] #[.pointer (some ⟨w.heap.size, 0, none⟩)]) ∧ w.alloc (.cells #[.int .i64 R, .slice g M c, .int .i64 x, .int .i64 y] 24) = w' := by
  go_enter Try.func64, Try.ntmps64
  go_wp2
  go_ret
  exact ⟨rfl, rfl⟩
end Go.Proofs.Ythkamfjjfkpekaa.Pe
