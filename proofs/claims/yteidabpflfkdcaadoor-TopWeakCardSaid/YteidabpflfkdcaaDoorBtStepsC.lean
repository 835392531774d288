/-
  WALKS (layer 3, baths): ValidSteps.
-/
import Derived.Test.YteidabpflfkdcaaDoorBtStepsB
import Derived.LoopTactic
namespace Go.Proofs.YteidabpflfkdcaaDoor.Bt
open Go Go.RowKit

theorem steps_snoc {l : List St} {k : Nat} {x : St} (hx : l[k]? = some x) (h : (l.take k).all stepB = true) (g : stepB x = true) : (l.take (k + 1)).all stepB = true := by
  obtain ⟨hk, rfl⟩ := List.getElem?_eq_some_iff.1 hx
  rw [List.take_succ_eq_append_getElem hk, List.all_append, h]; simp [g]
theorem steps_bad {l : List St} {k : Nat} {x : St} (hx : l[k]? = some x) (g : stepB x = false) : stepsB l = false := by
  have : l.all stepB = false := by rw [List.all_eq_false]; exact ⟨x, List.mem_of_getElem? hx, by rw [g]; decide⟩
  unfold stepsB
  rw [this, Bool.and_false]
theorem steps_all {l : List St} (h : l.all stepB = true) : stepsB l = decide (l.length ≤ 200) := by
  unfold stepsB
  rw [h, Bool.and_true]
theorem ValidSteps_any (v : Value) (l : List St) (w : World) (hs : RS w v l) (hl : l.length ≤ 300) :
    Calls Tryd.prog 30 #[v] w fun e w' => e = .returned (.bool (stepsB l)) ∧ Below w.heap.size w w' := by
  obtain ⟨g, c, rfl, hi⟩ := hs
  have HS := Lib.hid hi
  clear hi
  by_cases h2 : 200 < l.length
  · have HE : Kp (stepsB l = false) := ⟨by unfold stepsB; rw [decide_eq_false (by omega)]; rfl⟩
    have h3 : decide (200 < l.length) = true := decide_eq_true h2
    have h4 : (200 : Int) < (l.length : Int) := by omega
    go_enter Tryd.func30, Tryd.ntmps30
    go_wp2
    go_ret
    exact ⟨ret_bool HE.out.symm, by repeat (first | exact Below.refl _ _ | refine Below.alloc ?_ (by simp <;> omega) _ | refine bDrewN ?_ _ | refine Below.drew ?_)⟩
  · have h4 : ¬ (200 : Int) < (l.length : Int) := by omega
    have h3 : decide ((200 : Int) < (l.length : Int)) = false := decide_eq_false h4
    go_enter Tryd.func30, Tryd.ntmps30
    go_wp2
    go_loopw [10] (fun i wr => ∃ k : Nat, k ≤ l.length ∧ i = .int .i64 k ∧ Kp ((l.take k).all stepB = true) ∧ Kp (Below w.heap.size w wr)) (fun i _ => l.length - (intOf i).toNat)
    case atStart => exact ⟨0, Nat.zero_le _, rfl, ⟨rfl⟩, ⟨Below.refl _ _⟩⟩
    case round =>
      obtain ⟨k, hk, rfl, HK, HB⟩ := hrel
      by_cases hlt : k < l.length
      · obtain ⟨x, hx⟩ : ∃ x, l[k]? = some x := ⟨l[k], List.getElem?_eq_getElem hlt⟩
        obtain ⟨b, o, hg, hbl, hc1, hc2⟩ := HS.out k x hx
        subst hg
        have c1 : wr.cell? ⟨b, o + k * 2, none⟩ = some (.int .i64 x.k) := (HB.out.cell (p := ⟨b, _, none⟩) hbl).trans hc1
        have c2 : wr.cell? ⟨b, o + k * 2 + 1, none⟩ = some (.int .i64 x.n) := (HB.out.cell (p := ⟨b, _, none⟩) hbl).trans hc2
        have o1 : (k : Int) < (l.length : Int) := by omega
        have HX : Kp (l[k]? = some x) := ⟨hx⟩
        clear hx hc1 hc2
        cases hv : stepB x with
        | false =>
          have HE : Kp (stepsB l = false) := ⟨steps_bad HX.out hv⟩
          have HV : Kp (stepB ⟨x.k, x.n⟩ = false) := ⟨hv⟩
          clear hv
          go_wp2_with fail
          refine (validStep_no _ _ _ HV.out).mono ?_
          rintro e w1 ⟨rfl, hb1⟩
          have HB1 : Kp (Below w.heap.size w w1) := ⟨(HB.out.alloc HB.out.size _).trans (hb1.mono (by have := HB.out.size; simp; omega))⟩
          clear hb1
          go_wp2
          go_ret
          exact ⟨ret_bool HE.out.symm, HB1.out⟩
        | true =>
          have HE : Kp ((l.take (k + 1)).all stepB = true) := ⟨steps_snoc HX.out HK.out hv⟩
          have HV : Kp (stepB ⟨x.k, x.n⟩ = true) := ⟨hv⟩
          clear hv
          go_wp2_with fail
          refine (validStep_yes _ _ _ HV.out).mono ?_
          rintro e w1 ⟨rfl, hb1⟩
          have HB1 : Kp (Below w.heap.size w w1) := ⟨(HB.out.alloc HB.out.size _).trans (hb1.mono (by have := HB.out.size; simp; omega))⟩
          clear hb1
          go_wp2
          go_roundw
          case rel => exact ⟨k + 1, by omega, by go_num, HE, HB1⟩
          case measure => simp [intOf]; omega
      · have HA : Kp (l.all stepB = true) := ⟨by have := HK.out; rwa [List.take_of_length_le (by omega)] at this⟩
        have HE : Kp (stepsB l = true) := ⟨by rw [steps_all HA.out]; exact decide_eq_true (by omega)⟩
        go_wp2
        go_ret
        exact ⟨ret_bool HE.out.symm, HB.out⟩
theorem ValidSteps_yes (v : Value) (l : List St) (w : World) (hs : RS w v l) (hl : l.length ≤ 300) (h : stepsB l = true) :
    Calls Tryd.prog 30 #[v] w fun e w' => e = .returned (.bool true) ∧ Below w.heap.size w w' :=
  (ValidSteps_any v l w hs hl).mono fun _ _ ⟨he, hb⟩ => ⟨by rw [he, h], hb⟩
theorem ValidSteps_no (v : Value) (l : List St) (w : World) (hs : RS w v l) (hl : l.length ≤ 300) (h : stepsB l = false) :
    Calls Tryd.prog 30 #[v] w fun e w' => e = .returned (.bool false) ∧ Below w.heap.size w w' :=
  (ValidSteps_any v l w hs hl).mono fun _ _ ⟨he, hb⟩ => ⟨by rw [he, h], hb⟩
end Go.Proofs.YteidabpflfkdcaaDoor.Bt
