/-
  WALKS (layer 4, cold): Over, by the reference, at every input.
-/
import Derived.Test.YtbbbnfodjkpiaaaCdROver
namespace Go.Proofs.Ytbbbnfodjkpiaaa.Cd
open Go Go.RowKit Go.Sort

theorem rOver_any (v : Value) (l : List Bx) (p : Int) (w : World) (hs : BS w v l) (hm : l.length ≤ 100000) :
    Calls Try.prog 45 #[v, .int .i64 p] w fun e w' => e = .returned (.tuple #[.int .i64 (ovV l p), .int .i64 (ovE l p)]) ∧ Below w.heap.size w w' := by
  cases hv : boxesB l with
  | true =>
    cases hin : inB 0 10000 p with
    | true => exact rOver_in v l p w hs hv hin
    | false =>
      have e1 : ovE l p = 7 := by unfold ovE; rw [if_pos hv, hin]; rfl
      have e2 : ovV l p = 0 := by unfold ovV; rw [e1]; rfl
      rw [e1, e2]
      have HQ : Kp (∀ W, Below w.heap.size w W → Calls Try.prog 37 #[v] W fun en w' => en = .returned (.bool true) ∧ Below W.heap.size W w') := ⟨fun W hW => hv ▸ rValidBoxes_any v l W (hs.below hW) hm⟩
      obtain ⟨g, c, rfl⟩ := hs.shape
      clear hs hv e1 e2
      go_enter Try.func45, Try.ntmps45
      go_wp2_with fail
      refine (HQ.out _ (by repeat (first | exact Below.refl _ _ | refine Below.alloc ?_ (by simp <;> omega) _ | refine bDrewN ?_ _ | refine Below.drew ?_))).mono ?_
      rintro en w1 ⟨rfl, hb1⟩
      have HB1 : Kp (Below w.heap.size w w1) := ⟨Below.trans (by repeat (first | exact Below.refl _ _ | refine Below.alloc ?_ (by simp <;> omega) _ | refine bDrewN ?_ _ | refine Below.drew ?_)) (hb1.mono (by simp <;> omega))⟩
      clear hb1
      go_wp2_with fail
      refine (rwithin_at hin _).mono ?_
      rintro en w2 ⟨rfl, rfl⟩
      go_wp2
      go_ret2
      exact ⟨rfl, HB1.out⟩
  | false =>
    have e1 : ovE l p = 1 := by unfold ovE; rw [hv]; rfl
    have e2 : ovV l p = 0 := by unfold ovV; rw [e1]; rfl
    rw [e1, e2]
    have HQ : Kp (∀ W, Below w.heap.size w W → Calls Try.prog 37 #[v] W fun en w' => en = .returned (.bool false) ∧ Below W.heap.size W w') := ⟨fun W hW => hv ▸ rValidBoxes_any v l W (hs.below hW) hm⟩
    obtain ⟨g, c, rfl⟩ := hs.shape
    clear hs hv e1 e2
    go_enter Try.func45, Try.ntmps45
    go_wp2_with fail
    refine (HQ.out _ (by repeat (first | exact Below.refl _ _ | refine Below.alloc ?_ (by simp <;> omega) _ | refine bDrewN ?_ _ | refine Below.drew ?_))).mono ?_
    rintro en w1 ⟨rfl, hb1⟩
    have HB1 : Kp (Below w.heap.size w w1) := ⟨Below.trans (by repeat (first | exact Below.refl _ _ | refine Below.alloc ?_ (by simp <;> omega) _ | refine bDrewN ?_ _ | refine Below.drew ?_)) (hb1.mono (by simp <;> omega))⟩
    clear hb1
    go_wp2
    go_ret2
    exact ⟨rfl, HB1.out⟩
/-- The hours at which boxes come, and the iterator over them. -/
theorem arrivals_room (g : Option Addr) (n c : Nat) (w : World) :
    Calls Try.prog 81 #[.slice g n c, .func (.func 66) #[] #[]] w fun en w' => en = .returned (.func (.func 85) #[] #[.pointer (some ⟨w.heap.size, 0, none⟩), .pointer (some ⟨w.heap.size + 1, 0, none⟩)]) ∧ (w.alloc (.cells #[.slice g n c] 46)).alloc (.cells #[.func (.func 66) #[] #[]] 86) = w' := by
  go_enter Try.func81, Try.ntmps81
  go_wp2
  go_ret
  exact ⟨rfl, rfl⟩
theorem arrivals_one (g : Option Addr) (n c : Nat) (w : World) :
    Calls Try.prog 81 #[.slice g n c, .func (.func 71) #[] #[]] w fun en w' => en = .returned (.func (.func 85) #[] #[.pointer (some ⟨w.heap.size, 0, none⟩), .pointer (some ⟨w.heap.size + 1, 0, none⟩)]) ∧ (w.alloc (.cells #[.slice g n c] 46)).alloc (.cells #[.func (.func 71) #[] #[]] 86) = w' := by
  go_enter Try.func81, Try.ntmps81
  go_wp2
  go_ret
  exact ⟨rfl, rfl⟩
end Go.Proofs.Ytbbbnfodjkpiaaa.Cd
