/-
  WALKS (layer 9, loan): the example with which each statement ends.
-/
import Derived.Test.YtaofjomocefdkaaLnCharge
namespace Go.Proofs.Ytaofjomocefdkaa.Ln
open Go Go.RowKit Go.Sort

theorem owl_day : dayE [owl] ⟨#[111, 119, 108]⟩ 0 100 = 0 := by kernel_rfl
theorem owl_dayN : dayN [owl] ⟨#[111, 119, 108]⟩ 0 100 = 25 := by kernel_rfl
theorem owl_pay : chargeE [owl] ⟨#[121, 111, 114, 107]⟩ 0 100 10 = 0 := by kernel_rfl
theorem owl_payN : chargeN [owl] ⟨#[121, 111, 114, 107]⟩ 0 100 10 = 100 := by kernel_rfl
theorem owl_wf : owl.wf := by unfold Loan.wf owl maxLen; exact ⟨by decide, by decide⟩
theorem owl_at (w : World) (t : TypeId) : LS (w.alloc (.cells #[.string ⟨#[111, 119, 108]⟩, .string ⟨#[121, 111, 114, 107]⟩, .int .i64 5, .int .i64 20, .int .i64 30] t)) (.slice (some ⟨w.heap.size, 0, none⟩) 1 1) [owl] := by
  refine ⟨_, 1, rfl, Nat.le_refl _, fun i x hx => ⟨w.heap.size, 0, rfl, ?_⟩⟩
  match i with
  | 0 =>
    simp only [List.getElem?_cons_zero, Option.some.injEq] at hx
    subst hx
    exact ⟨⟨by go_simp; rfl, by go_simp; rfl, by go_simp; rfl, by go_simp; rfl, by go_simp; rfl⟩, owl_wf⟩
  | i + 1 => simp at hx
theorem awake_any (w : World) : Calls Try.prog 14 #[] w fun e w' => e = .returned (.bool true) ∧ Below w.heap.size w w' := by
  have HL : Kp (∀ t, LS (w.alloc (.cells #[.string ⟨#[111, 119, 108]⟩, .string ⟨#[121, 111, 114, 107]⟩, .int .i64 5, .int .i64 20, .int .i64 30] t)) (.slice (some ⟨w.heap.size, 0, none⟩) 1 1) [owl]) := ⟨owl_at w⟩
  have HD : Kp (∀ W v, LS W v [owl] → Calls Try.prog 37 #[v, .string ⟨#[111, 119, 108]⟩, .int .i64 0, .int .i64 100] W fun e w' => e = .returned (.tuple #[.int .i64 25, .int .i64 0]) ∧ Below W.heap.size W w') := ⟨fun W v hv => (Days_any v [owl] ⟨#[111, 119, 108]⟩ 0 100 W hv (by simp) (by unfold maxLen; decide)).mono fun e w' ⟨h1, h2⟩ => ⟨by rw [h1]; unfold dayV; rw [owl_day, owl_dayN, if_pos rfl], h2⟩⟩
  have HC : Kp (∀ W v, LS W v [owl] → Calls Try.prog 49 #[v, .string ⟨#[121, 111, 114, 107]⟩, .int .i64 0, .int .i64 100, .int .i64 10] W fun e w' => e = .returned (.tuple #[.int .i64 100, .int .i64 0]) ∧ Below W.heap.size W w') := ⟨fun W v hv => (Charge_ok v [owl] ⟨#[121, 111, 114, 107]⟩ 0 100 10 W hv (by simp) (by unfold maxLen; decide) owl_pay).mono fun e w' ⟨h1, h2⟩ => ⟨by rw [h1]; unfold chargeV; rw [owl_pay, owl_payN, if_pos rfl], h2⟩⟩
  go_enter Try.func14, Try.ntmps14
  go_wp2_with fail
  refine (HD.out _ _ (HL.out _)).mono ?_
  rintro en w1 ⟨rfl, hb1⟩
  have HL1 : Kp (LS w1 (.slice (some ⟨w.heap.size, 0, none⟩) 1 1) [owl]) := ⟨(HL.out _).below hb1⟩
  have HB1 : Kp (Below w.heap.size w w1) := ⟨Below.trans (by repeat (first | exact Below.refl _ _ | refine Below.alloc ?_ (by simp <;> omega) _ | refine bDrewN ?_ _ | refine Below.drew ?_)) (hb1.mono (by simp))⟩
  clear hb1
  go_wp2_with fail
  refine (HC.out _ _ HL1.out).mono ?_
  rintro en w2 ⟨rfl, hb2⟩
  have HB2 := Kp.mk (HB1.out.trans (hb2.mono HB1.out.size))
  clear hb2
  go_wp2
  go_ret
  exact ⟨rfl, HB2.out⟩
end Go.Proofs.Ytaofjomocefdkaa.Ln
