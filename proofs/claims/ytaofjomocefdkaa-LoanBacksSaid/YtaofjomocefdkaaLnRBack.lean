/-
  WALKS (layer 9, loan): the reference's current and changed, Back and Renew.
-/
import Derived.Test.YtaofjomocefdkaaLnClone
import Derived.Test.YtaofjomocefdkaaLnRList
namespace Go.Proofs.Ytaofjomocefdkaa.Ln
open Go Go.RowKit Go.Sort
attribute [-go_sem] Builtin.append_

theorem idx_at {l : List Loan} {p : Loan → Bool} {k : Nat} {x : Loan} (h : ∀ y ∈ l.take k, p y = false) (hx : l[k]? = some x) (hp : p x = true) : l.findIdx? p = some k := by
  have hk := (List.getElem?_eq_some_iff.1 hx).1
  have e : l[k] = x := (List.getElem?_eq_some_iff.1 hx).2
  rw [List.findIdx?_eq_some_iff_getElem]
  refine ⟨hk, by rw [e]; exact hp, fun j hj => ?_⟩
  rw [h (l[j]'(by omega)) (List.mem_take_iff_getElem.2 ⟨j, by omega, rfl⟩)]
  decide
/-- The index of the loan that has not come back, or -1. -/
def curI (l : List Loan) (s : ByteArray) : Int := match l.findIdx? (openB s) with
  | some i => (i : Int)
  | none => -1
theorem curI_some {l : List Loan} {s : ByteArray} {i : Nat} (h : l.findIdx? (openB s) = some i) : curI l s = (i : Int) := by unfold curI; rw [h]
theorem curI_none {l : List Loan} {s : ByteArray} (h : l.findIdx? (openB s) = none) : curI l s = -1 := by unfold curI; rw [h]
set_option maxRecDepth 100000 in
set_option maxHeartbeats 2000000 in
theorem rCurrent_any (v : Value) (l : List Loan) (s : ByteArray) (w : World) (hv : LS w v l) (hm : l.length ≤ 1000) : Calls Try.prog 101 #[v, .string s] w fun e w' => e = .returned (.int .i64 (curI l s)) ∧ Below w.heap.size w w' := by
  obtain ⟨g, c, rfl, -, hi⟩ := hv
  have HS := Kp.mk hi
  obtain ⟨N, hN⟩ : ∃ N, l.length = N := ⟨_, rfl⟩
  have HN := Kp.mk hN
  have HM : Kp (N ≤ 1000) := ⟨hN ▸ hm⟩
  obtain ⟨A, hA⟩ : ∃ A, curI l s = A := ⟨_, rfl⟩
  have HA := Kp.mk hA
  rw [hA, hN]
  clear hi hm hN hA
  go_enter Try.func101, Try.ntmps101
  go_wp2
  go_loopw [9] (fun i wr => ∃ k : Nat, k ≤ N ∧ i = .int .i64 k ∧ Kp (∀ y ∈ l.take k, openB s y = false) ∧ Kp (Below w.heap.size w wr)) (fun i _ => N - (intOf i).toNat)
  case atStart => exact ⟨0, Nat.zero_le _, rfl, ⟨fun y hy => by simp at hy⟩, ⟨Below.refl _ _⟩⟩
  case round =>
    obtain ⟨k, hk, rfl, HF, HB⟩ := hrel
    by_cases hlt : k < N
    · obtain ⟨x, hx⟩ : ∃ x, l[k]? = some x := ⟨_, List.getElem?_eq_getElem (by rw [HN.out]; exact hlt)⟩
      obtain ⟨b, o, hg, hat, -⟩ := HS.out k x hx
      subst hg
      obtain ⟨d0, d1, d2, d3, d4⟩ := hat.on HB.out
      have o1 : (k : Int) < (N : Int) := by omega
      have o4 : k ≤ 1000 := by have := HM.out; omega
      have HYES : Kp (openB s x = true → A = (k : Int)) := ⟨fun h => by rw [← HA.out]; exact curI_some (idx_at HF.out hx h)⟩
      have HNO : Kp (openB s x = false → ∀ y ∈ l.take (k + 1), openB s y = false) := ⟨fun h => none_more HF.out hx h⟩
      have hop : openB s x = (eqS x.p s && (x.back == 0)) := rfl
      rw [hop] at HYES HNO
      obtain ⟨P, hP⟩ : ∃ P, eqS x.p s = P := ⟨_, rfl⟩
      have i1 : (x.p.toList == s.toList) = P := hP
      obtain ⟨R, hR⟩ : ∃ R, (x.back == (0 : Int)) = R := ⟨_, rfl⟩
      rw [hP, hR] at HYES HNO
      obtain ⟨xp, xt, xo, xd, xb⟩ := x
      simp only at d0 d1 d2 d3 d4 i1 hR
      have HB2 : Kp (Below w.heap.size w (wr.alloc (.cells #[.string xp, .string xt, .int .i64 xo, .int .i64 xd, .int .i64 xb] 26))) := ⟨HB.out.alloc HB.out.size _⟩
      clear hP hx hat hop
      cases P with
      | false =>
        have HF2 := Kp.mk (HNO.out rfl)
        clear HNO HYES
        go_wp2
        go_roundw
        case rel => exact ⟨k + 1, by omega, by go_num, HF2, HB2⟩
        case measure => simp [intOf]; omega
      | true =>
        cases R with
        | false =>
          have HF2 := Kp.mk (HNO.out rfl)
          clear HNO HYES
          go_wp2
          go_roundw
          case rel => exact ⟨k + 1, by omega, by go_num, HF2, HB2⟩
          case measure => simp [intOf]; omega
        | true =>
          have HX := Kp.mk (HYES.out rfl)
          clear HNO HYES
          go_wp2
          go_ret
          exact ⟨by rw [HX.out]; rfl, HB2.out⟩
    · have HX : Kp (A = -1) := ⟨by
        rw [← HA.out]
        refine curI_none (List.findIdx?_eq_none_iff.2 fun y hy => ?_)
        rw [HF.out y (by rw [List.take_of_length_le (by rw [HN.out]; omega)]; exact hy)]⟩
      have o1 : ¬ (k : Int) < (N : Int) := by omega
      go_wp2
      go_ret
      exact ⟨by rw [HX.out]; rfl, HB.out⟩
end Go.Proofs.Ytaofjomocefdkaa.Ln
