/-
  WALKS (layer 8, pest): doors and rooms that are named.
-/
import Derived.Test.YthkamfjjfkpekaaPeValid
namespace Go.Proofs.Ythkamfjjfkpekaa.Pe
open Go Go.RowKit

theorem areDoors_any (R x y : Int) (g : Option Addr) (M c : Nat) (v : Value) (l : List Int) (w : World) (hM : M ≤ 9223372036854775807) (hv : IS w v l) (hl : l.length ≤ 9223372036854775807) :
    Calls Try.prog 49 #[.agg #[.int .i64 R, .slice g M c, .int .i64 x, .int .i64 y], v] w fun e w' => e = .returned (.bool (allIn 0 ((M : Int) - 1) l)) ∧ Below w.heap.size w w' := by
  have e1 : IntKind.i64.wrap ((M : Int) - 1) = (M : Int) - 1 := IntWalk.i64_in _ (by omega)
  have HW : Kp (∀ W, Below w.heap.size w W → Calls Try.prog 51 #[.int .i64 0, .int .i64 ((M : Int) - 1), v] W fun e w' => e = .returned (.bool (allIn 0 ((M : Int) - 1) l)) ∧ W = w') := ⟨fun W hW => within_any 0 ((M : Int) - 1) v l W (hv.below hW) hl⟩
  obtain ⟨P, hP⟩ : ∃ P, allIn 0 ((M : Int) - 1) l = P := ⟨_, rfl⟩
  rw [hP] at HW ⊢
  clear hP hv hl hM
  go_enter Try.func49, Try.ntmps49
  go_wp2_with fail
  refine (HW.out _ (by repeat (first | exact Below.refl _ _ | refine Below.alloc ?_ (by simp <;> omega) _ | refine bDrewN ?_ _ | refine Below.drew ?_))).mono ?_
  rintro en w1 ⟨rfl, rfl⟩
  go_wp2
  go_ret
  exact ⟨rfl, by repeat (first | exact Below.refl _ _ | refine Below.alloc ?_ (by simp <;> omega) _ | refine bDrewN ?_ _ | refine Below.drew ?_)⟩
theorem isRoom_any (R x y n : Int) (v : Value) (w : World) (h1 : 1 ≤ R) (h2 : R ≤ 12) :
    Calls Try.prog 59 #[.agg #[.int .i64 R, v, .int .i64 x, .int .i64 y], .int .i64 n] w fun e w' => e = .returned (.bool (inB 0 (R - 1) n)) ∧ Below w.heap.size w w' := by
  have e1 : IntKind.i64.wrap (R - 1) = R - 1 := IntWalk.i64_in _ (by omega)
  have HW : Kp (∀ W u, IS W u [n] → Calls Try.prog 51 #[.int .i64 0, .int .i64 (R - 1), u] W fun e w' => e = .returned (.bool (inB 0 (R - 1) n)) ∧ W = w') := ⟨fun W u hu => by
    have := within_any 0 (R - 1) u _ W hu (by simp)
    rwa [allIn_one] at this⟩
  obtain ⟨P, hP⟩ : ∃ P, inB 0 (R - 1) n = P := ⟨_, rfl⟩
  rw [hP] at HW ⊢
  clear hP h1 h2
  go_enter Try.func59, Try.ntmps59
  go_wp2_with fail
  refine (HW.out _ _ (is_one (by go_simp))).mono ?_
  rintro en w1 ⟨rfl, rfl⟩
  go_wp2
  go_ret
  exact ⟨rfl, by repeat (first | exact Below.refl _ _ | refine Below.alloc ?_ (by simp <;> omega) _ | refine bDrewN ?_ _ | refine Below.drew ?_)⟩
end Go.Proofs.Ythkamfjjfkpekaa.Pe
