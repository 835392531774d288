/-
  WALKS (layer 4, cold): At and Cold, by the reference.
-/
import Derived.Test.YteidabpflfkdcaaDoorCdAt
import Derived.Test.YteidabpflfkdcaaDoorCdCold
namespace Go.Proofs.YteidabpflfkdcaaDoor.Cd
open Go Go.RowKit Go.Sort

theorem first_at {l : List Rd} (_h : 1 ≤ l.length) (e : Int) : firstH l = (sgAt l e 0).f := rfl
theorem at_found {l : List Rd} {e hour : Int} (h : Good l e) {k : Nat} (hk : k < l.length) (h1 : (sgAt l e k).f ≤ hour) (h2 : hour < (sgAt l e k).t) : atE l e hour = 0 ∧ atV l e hour = (sgAt l e k).c := by
  have b := h.sg hk
  have m := sg_mono h (Nat.zero_le k) hk
  have te : (sgAt l e k).t ≤ e := by
    by_cases hn : k + 1 < l.length
    · rw [← sg_next hn]
      have hx : l[k + 1]? = some l[k + 1] := List.getElem?_eq_getElem hn
      rw [sgAt_at hx]
      exact (h.end_ hx).1
    · rw [sg_last (show k + 1 = l.length by omega)]; exact Int.le_refl _
  have hin : inB (firstH l) (e - 1) hour = true := in_yes (by rw [first_at h.len.1 e]; omega) (by omega)
  have e1 : atE l e hour = 0 := by unfold atE; rw [if_pos (good_chk h rfl), hin]; rfl
  refine ⟨e1, ?_⟩
  unfold atV
  rw [if_pos e1]
  have e3 : nowC hour (strs l e (k + 1)) = (sgAt l e k).c := by rw [strs_succ, nowC_snoc, if_pos h1]
  by_cases hn : k + 1 < l.length
  · rw [now_at h hn (by rw [sg_next hn]; exact h2), e3]
  · rw [show l.length = k + 1 by omega, e3]
theorem at_up {l : List Rd} {e hour : Int} (h0 : (sgAt l e 0).f ≤ hour) {k : Nat} (hk : k < l.length) (hn : ∀ i, i < k → ¬ ((sgAt l e i).f ≤ hour ∧ hour < (sgAt l e i).t)) : (sgAt l e k).f ≤ hour := by
  induction k with
  | zero => exact h0
  | succ k ih =>
    have h1 := ih (by omega) (fun i hi => hn i (by omega))
    have h2 := hn k (by omega)
    rw [sg_next hk]
    omega
theorem at_none {l : List Rd} {e hour : Int} (h : Good l e) (hn : ∀ i, i < l.length → ¬ ((sgAt l e i).f ≤ hour ∧ hour < (sgAt l e i).t)) : atE l e hour = 7 ∧ atV l e hour = 0 := by
  have hl := h.len
  have hin : inB (firstH l) (e - 1) hour = false := by
    cases hb : inB (firstH l) (e - 1) hour with
    | false => rfl
    | true =>
      rw [in_iff, first_at hl.1 e] at hb
      have h1 := at_up hb.1 (show l.length - 1 < l.length by omega) (fun i hi => hn i (by omega))
      have h2 := hn (l.length - 1) (by omega)
      rw [sg_last (show l.length - 1 + 1 = l.length by omega)] at h2
      omega
  have e1 : atE l e hour = 7 := by unfold atE; rw [if_pos (good_chk h rfl), hin]; rfl
  exact ⟨e1, by unfold atV; rw [e1]; rfl⟩
end Go.Proofs.YteidabpflfkdcaaDoor.Cd
