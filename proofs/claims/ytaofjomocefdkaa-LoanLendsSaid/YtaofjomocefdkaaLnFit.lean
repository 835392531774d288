/-
  WALKS (layer 9, loan): loans that are few and short enough to be looked at.
-/
import Derived.Test.YtaofjomocefdkaaLnEnter
namespace Go.Proofs.Ytaofjomocefdkaa.Ln
open Go Go.RowKit Go.Sort

def shortB (x : Loan) : Bool := !decide (100 < x.p.size) && !decide (100 < x.t.size)
def fitB (l : List Loan) : Bool := l.all shortB && (decide (l.length ≤ 30) || (decide (200 ≤ l.length) && decide (l.length ≤ 203)))
theorem fit_len {l : List Loan} (h : fitB l = true) : l.length ≤ 203 := by
  unfold fitB at h
  simp only [Bool.and_eq_true, Bool.or_eq_true, decide_eq_true_eq] at h
  omega
set_option maxHeartbeats 1000000 in
theorem fit_any (v : Value) (l : List Loan) (w : World) (hv : LS w v l) (hm : l.length ≤ 9223372036854775807) : Calls Try.prog 13 #[v] w fun e w' => e = .returned (.bool (fitB l)) ∧ Below w.heap.size w w' := by
  obtain ⟨g, c, rfl, -, hi⟩ := hv
  have HS := Kp.mk hi
  have HF : Kp (fitB l = (l.all shortB && (decide (l.length ≤ 30) || (decide (200 ≤ l.length) && decide (l.length ≤ 203))))) := ⟨rfl⟩
  obtain ⟨N, hN⟩ : ∃ N, l.length = N := ⟨_, rfl⟩
  have HN := Kp.mk hN
  have HM : Kp (N ≤ 9223372036854775807) := ⟨hN ▸ hm⟩
  rw [hN] at HF ⊢
  obtain ⟨R, hR⟩ : ∃ R, fitB l = R := ⟨_, rfl⟩
  rw [hR] at HF ⊢
  clear hi hm hN hR
  go_enter Try.func13, Try.ntmps13
  go_wp2
  go_loopw [7] (fun i wr => ∃ k : Nat, k ≤ N ∧ i = .int .i64 k ∧ Kp ((l.take k).all shortB = true) ∧ Kp (Below w.heap.size w wr)) (fun i _ => N - (intOf i).toNat)
  case atStart => exact ⟨0, Nat.zero_le _, rfl, ⟨rfl⟩, ⟨Below.refl _ _⟩⟩
  case round =>
    obtain ⟨k, hk, rfl, HA, HB⟩ := hrel
    by_cases hlt : k < N
    · obtain ⟨x, hx⟩ : ∃ x, l[k]? = some x := ⟨_, List.getElem?_eq_getElem (by rw [HN.out]; exact hlt)⟩
      obtain ⟨b, o, hg, hat, -⟩ := HS.out k x hx
      subst hg
      obtain ⟨d0, d1, d2, d3, d4⟩ := hat.on HB.out
      have o1 : (k : Int) < (N : Int) := by omega
      have o4 : k ≤ 9223372036854775806 := by have := HM.out; omega
      have hkl := (List.getElem?_eq_some_iff.1 hx).1
      have hxe : l[k] = x := (List.getElem?_eq_some_iff.1 hx).2
      have hmore : (l.take (k + 1)).all shortB = shortB x := by rw [List.take_succ_eq_append_getElem hkl, List.all_append, HA.out, Bool.true_and, hxe]; simp
      have hbad : Kp (shortB x = false → R = false) := ⟨fun h => by
        have e : l.all shortB = false := by rw [List.all_eq_false]; exact ⟨x, List.mem_of_getElem? hx, by rw [h]; decide⟩
        rw [HF.out, e, Bool.false_and]⟩
      have hsx : shortB x = (!decide (100 < x.p.size) && !decide (100 < x.t.size)) := rfl
      rw [hsx] at hmore hbad
      obtain ⟨P, hP⟩ : ∃ P, decide (100 < x.p.size) = P := ⟨_, rfl⟩
      obtain ⟨Q, hQ⟩ : ∃ Q, decide (100 < x.t.size) = Q := ⟨_, rfl⟩
      have i1 : decide ((100 : Int) < (x.p.size : Int)) = P := by rw [← hP]; exact decide_eq_decide.2 (by omega)
      have i2 : decide ((100 : Int) < (x.t.size : Int)) = Q := by rw [← hQ]; exact decide_eq_decide.2 (by omega)
      rw [hP, hQ] at hmore hbad
      have HMORE := Kp.mk hmore
      obtain ⟨xp, xt, xo, xd, xb⟩ := x
      simp only at d0 d1 d2 d3 d4 hP hQ i1 i2
      have HB2 : Kp (Below w.heap.size w (wr.alloc (.cells #[.string xp, .string xt, .int .i64 xo, .int .i64 xd, .int .i64 xb] 26))) := ⟨HB.out.alloc HB.out.size _⟩
      clear hx hat hkl hxe hmore hsx
      cases P with
      | true =>
        have HRF : Kp (R = false) := ⟨hbad.out (by simp)⟩
        go_wp2
        go_ret
        exact ⟨by rw [HRF.out]; rfl, HB2.out⟩
      | false =>
        cases Q with
        | true =>
          have HRF : Kp (R = false) := ⟨hbad.out (by simp)⟩
          go_wp2
          go_ret
          exact ⟨by rw [HRF.out]; rfl, HB2.out⟩
        | false =>
          have HM2 : Kp ((l.take (k + 1)).all shortB = true) := ⟨HMORE.out⟩
          go_wp2
          go_roundw
          case rel => exact ⟨k + 1, by omega, by go_num, HM2, HB2⟩
          case measure => simp [intOf]; omega
    · have hkn : k = N := by omega
      have hall : l.all shortB = true := by
        have := HA.out
        rwa [List.take_of_length_le (by rw [HN.out]; omega)] at this
      have hF := HF.out
      rw [hall, Bool.true_and] at hF
      obtain ⟨A, hA⟩ : ∃ A, decide (N ≤ 30) = A := ⟨_, rfl⟩
      obtain ⟨B, hB⟩ : ∃ B, decide (200 ≤ N) = B := ⟨_, rfl⟩
      obtain ⟨C, hC⟩ : ∃ C, decide (N ≤ 203) = C := ⟨_, rfl⟩
      have i1 : decide ((N : Int) ≤ 30) = A := by rw [← hA]; exact decide_eq_decide.2 (by omega)
      have i2 : decide ((200 : Int) ≤ (N : Int)) = B := by rw [← hB]; exact decide_eq_decide.2 (by omega)
      have i3 : decide ((N : Int) ≤ 203) = C := by rw [← hC]; exact decide_eq_decide.2 (by omega)
      rw [hA, hB, hC] at hF
      have HFR := Kp.mk hF
      have o1 : ¬ (k : Int) < (N : Int) := by omega
      clear hkn hall hF HF
      cases A <;> cases B <;> cases C
      all_goals
        go_wp2
        go_ret
        exact ⟨by rw [HFR.out]; rfl, HB.out⟩
end Go.Proofs.Ytaofjomocefdkaa.Ln
