/-
  The law LoanLends returns true at every input: Lend answers as the reference's for any loans and loan; where it lends, the loans are valid, and the piece is at its borrower from that day on. No conditions.
-/
import Derived.Test.YtaofjomocefdkaaLnLawLends
import Derived.Test.YtaofjomocefdkaaLnOpenS
namespace Go.Proofs.Ytaofjomocefdkaa.Ln
open Go.ChangeShapes Go.WideShapes Go.ChangeAt Go.RowKit
open Go.ChangeMaps (open_string shut_string)

set_option maxRecDepth 100000 in
theorem lends_lifted (os : Os) (started : os.Started) (H : Type) (enc : TypeId × Value → H) :
    ReturnsInHanded {} Try.checked os 5 .any (Rows.loanLendsSpec.pre6 enc Try.prog Try.f5 Rows.loanLendsRow.domain false) (Rows.loanLendsSpec.post enc Try.prog Try.f5 false true false false) := by
  refine returnsInHanded_of_change_sized (C := Try.checked) own started (by kernel_rfl) Try.func5
    (ChangeSpec.witness6 (enc := enc) (C := Try.checked) false ⟨#[], #[.slice none 0 0, .agg #[.string ⟨#[]⟩, .string ⟨#[]⟩, .int .i64 0, .int .i64 0, .int .i64 0]], []⟩ 8 (by kernel_rfl) (by kernel_rfl) (by kernel_rfl) (by kernel_rfl)) ?_
  intro W base args ds gs before hval0 hW _ hwt0 _
  have hval : ∀ (j : Nat) t v, Try.f5.params[j]? = some t → args[j]? = some v → Value.okWide Try.prog W .any base t v := hval0
  have hW' := hW
  obtain ⟨p, q, hA0, hV, rfl, hfz, hnd⟩ := hW
  have hA : DataW.TrodAll enc Try.prog W 0 (fun _ => true) true Try.f5.params.toList args.toList ds p := hA0
  have hwt : (DataW.weightsEach Try.prog Try.f5.params.toList ds).all (· ≤ reachBytes) = true := by
    have hgs : gs = [] := (trodVars_none hV).1
    rw [hgs, List.append_nil] at hwt0
    exact (congrArg (fun t => (DataW.weightsEach Try.prog t ds).all (· ≤ reachBytes)) (List.append_nil _)).symm.trans hwt0
  rw [Try.params5] at hA hval hwt
  obtain ⟨v0, v1, d0, d1, p0, p1, rfl, rfl, rfl, h0, h1⟩ := trodAll_two hA
  obtain ⟨rfl, rfl⟩ := trodVars_none hV
  obtain ⟨L0, hs0, hz0⟩ := loans_fit (hval 0 22 v0 rfl rfl) h0 hwt rfl rfl
  obtain ⟨x1, rfl, hx1⟩ := open_loan (hval 1 26 v1 rfl rfl) h1
  clear hA0 hval0
  simp only [List.append_nil] at hW'
  have hlt : ∀ x ∈ p0 ++ p1, x.block < W.heap.size := fun x hx => hW'.lt x (by simpa using hx)
  have hp0 : ∀ x ∈ p0, x.block < W.heap.size := fun x hx => hlt x (by simp [hx])
  have hp1 : ∀ x ∈ p1, x.block < W.heap.size := fun x hx => hlt x (by simp [hx])
  refine (lawLends_any v0 L0 x1 W hs0 hz0 hx1).mono fun e W' ⟨he, hg⟩ => ?_
  subst he
  exact ⟨_, rfl, _, _, _, [], _, [], hW', trodAll_mk1 (shut_bool Try.underlying4 _), trodAll_mk2 (Below.trod laidOutL (by kernel_rfl) (of_decide_eq_true (by kernel_rfl)) h0 hg hp0) (Below.trod laidOutL (by kernel_rfl) (of_decide_eq_true (by kernel_rfl)) h1 hg hp1), rfl, hg.frame _, fun h => by cases h⟩

theorem lends_said : Rows.LoanLendsSaid :=
  OpenClaim.holds_of_wide 5 Try.f5 rfl rfl rfl rfl rfl rfl rfl ⟨rfl, rfl, rfl, rfl, rfl⟩ rfl rfl rfl rfl rfl (by kernel_rfl) Try.func5 (by kernel_rfl)
    (of_decide_eq_true (by kernel_rfl)) (by unfold Func.isWrapper; first | (rw [if_pos (by decide +kernel)]; kernel_rfl) | (rw [if_neg (by decide +kernel)]; exact ⟨rfl, rfl⟩))
    (fun os started H enc _ => lends_lifted os started H enc)
end Go.Proofs.Ytaofjomocefdkaa.Ln
