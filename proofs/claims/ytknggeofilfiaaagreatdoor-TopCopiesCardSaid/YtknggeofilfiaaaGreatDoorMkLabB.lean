import Derived.Test.YtknggeofilfiaaaGreatDoorMkLabA
import Derived.IntWalk
import Derived.Deep.QuietTactic
import Derived.BigQuiet
import Derived.Lib.QuietBelow
namespace Go.Proofs.YtknggeofilfiaaaGreatDoor.Mk
open Go Go.RowKit

structure Kq (p : Prop) : Prop where
  out : p
abbrev FB := ByteArray × ByteArray
/-- A slice value reads as a label. -/
def RL (w : World) (v : Value) (L : List FB) : Prop :=
  ∃ g cap, v = .slice g L.length cap ∧ ∀ i f, L[i]? = some f → ∃ b o, g = some ⟨b, o, none⟩ ∧ b < w.heap.size ∧ w.cell? ⟨b, o + i * 2, none⟩ = some (.string f.1) ∧ w.cell? ⟨b, o + i * 2 + 1, none⟩ = some (.string f.2)
def okAt (L : List FB) (i : Nat) : Bool :=
  match L[i]? with
  | none => false
  | some f => validF f && (match i with
    | 0 => true
    | j + 1 => match L[j]? with
      | none => false
      | some p => Op.bytesLess p.1.toList f.1.toList)
def validL (L : List FB) : Bool := decide (L.length ≤ 8) && (List.range L.length).all (okAt L)
theorem validL_bad {L : List FB} {k : Nat} (hk : k < L.length) (h : okAt L k = false) : validL L = false := by
  have : (List.range L.length).all (okAt L) = false := by
    rw [List.all_eq_false]
    exact ⟨k, by simpa using hk, by rw [h]; decide⟩
  unfold validL
  rw [this, Bool.and_false]
theorem validL_long {L : List FB} (h : 8 < L.length) : validL L = false := by
  unfold validL
  rw [decide_eq_false (by omega)]
  rfl
theorem validL_yes {L : List FB} (h : L.length ≤ 8) (h2 : (List.range L.length).all (okAt L) = true) : validL L = true := by
  unfold validL
  rw [h2, decide_eq_true h]
  rfl
theorem okAt_zero {L : List FB} {f : FB} {k : Nat} (h0 : k ≤ 0) (hf : L[k]? = some f) : okAt L k = validF f := by
  obtain rfl : k = 0 := by omega
  unfold okAt
  rw [hf]
  simp
theorem okAt_next {L : List FB} {f p : FB} {k : Nat} (h0 : 0 < k) (hf : L[k]? = some f) (hp : L[k - 1]? = some p) : okAt L k = (validF f && Op.bytesLess p.1.toList f.1.toList) := by
  obtain ⟨j, rfl⟩ : ∃ j, k = j + 1 := ⟨k - 1, by omega⟩
  rw [Nat.add_sub_cancel] at hp
  unfold okAt
  rw [hf]
  simp only [hp]
theorem range_all {L : List FB} {k : Nat} (h : (List.range k).all (okAt L) = true) (h2 : okAt L k = true) : (List.range (k + 1)).all (okAt L) = true := by
  rw [List.range_succ, List.all_append, h]
  simp [h2]

set_option maxHeartbeats 1000000 in
theorem ValidLabel_short (v : Value) (L : List FB) (w : World) (h : RL w v L) (hs : Kq (∀ f ∈ L, f.1.size ≤ maxLen ∧ f.2.size ≤ maxLen)) (hn : L.length ≤ 8) :
    Calls Tryz.prog 4 #[v] w fun e w' => e = .returned (.bool (validL L)) ∧ Below w.heap.size w w' := by
  obtain ⟨g, cap, rfl, hc⟩ := h
  have HC := Lib.hid hc
  clear hc
  go_enter Tryz.func4, Tryz.ntmps4
  go_wp2
  go_loopw [10] (fun i wr => ∃ k : Nat, k ≤ L.length ∧ i = .int .i64 (k : Int) ∧ (List.range k).all (okAt L) = true ∧ Below w.heap.size w wr) (fun i _ => L.length - (intOf i).toNat)
  case atStart => exact ⟨0, Nat.zero_le _, rfl, rfl, Below.refl _ _⟩
  case round =>
    obtain ⟨k, hk, rfl, hall, hb⟩ := hrel
    have HA := Lib.hid hall
    have HB := Lib.hid hb
    have hz := hb.size
    clear hall hb
    by_cases hlt : k < L.length
    · obtain ⟨f, hf⟩ : ∃ f, L[k]? = some f := ⟨L[k], List.getElem?_eq_getElem hlt⟩
      obtain ⟨b, o, hg, hbl, hb1, hb2⟩ := HC.out k f hf
      subst hg
      have c1 : wr.cell? ⟨b, o + k * 2, none⟩ = some (.string f.1) := (HB.out.cell (p := ⟨b, _, none⟩) hbl).trans hb1
      have c2 : wr.cell? ⟨b, o + k * 2 + 1, none⟩ = some (.string f.2) := (HB.out.cell (p := ⟨b, _, none⟩) hbl).trans hb2
      have HF : Kq (L[k]? = some f) := ⟨hf⟩
      clear hb1 hb2 hf
      have hsz := hs.out f (List.mem_of_getElem? HF.out)
      obtain ⟨V, hV⟩ : ∃ V, validF f = V := ⟨_, rfl⟩
      have hvf := fun W => validField_any f.1 f.2 W hsz.1 hsz.2
      rw [show validF (f.1, f.2) = V from hV] at hvf
      have HVF := Lib.hid hvf
      have HV : Kq (validF f = V) := ⟨hV⟩
      clear hvf hV hsz
      go_wp2_with fail
      obtain ⟨W, hW⟩ : ∃ W, wr.alloc (Obj.cells #[Value.string f.1, Value.string f.2] 27) = W := ⟨_, rfl⟩
      have b1 : W.cell? ⟨wr.heap.size, 0, none⟩ = some (.string f.1) := by rw [← hW]; simp [go_sem]
      have b2 : W.cell? ⟨wr.heap.size, 1, none⟩ = some (.string f.2) := by rw [← hW]; simp [go_sem]
      have HBW : Hid (Below w.heap.size w W) := by rw [← hW]; exact HB.out.alloc hz _
      rw [hW]
      clear hW
      have g1 := fun d os => cell_regrown b1 d os
      have g2 := fun d os => cell_regrown b2 d os
      cases V with
      | false =>
        have hbad : Kq (validL L = false) := ⟨validL_bad hlt (by
          rcases Nat.lt_or_ge 0 k with h0 | h0
          · obtain ⟨p, hp⟩ : ∃ p, L[k - 1]? = some p := ⟨L[k - 1], List.getElem?_eq_getElem (by omega)⟩
            rw [okAt_next h0 HF.out hp, HV.out]; rfl
          · rw [okAt_zero h0 HF.out, HV.out])⟩
        refine wp_region_quiet_below (by kernel_rfl) (by kernel_rfl) ?_
        repeat (any_goals (first | go_big_quiet_step (exact Calls.regrown_of (HVF.out _)) | quiet_step (exact Calls.regrown_of (HVF.out _))))
        refine wpQuiet_nil ?_
        intro _ hw'
        obtain ⟨⟨dq, osq⟩, hw''⟩ := hw'
        subst hw''
        go_wp2
        go_ret
        exact ⟨by rw [hbad.out]; rfl, HBW.out.trans ((below_regrown W dq osq).mono HBW.out.size)⟩
      | true =>
        rcases Nat.lt_or_ge 0 k with h0 | h0
        · obtain ⟨p, hp⟩ : ∃ p, L[k - 1]? = some p := ⟨L[k - 1], List.getElem?_eq_getElem (by omega)⟩
          obtain ⟨b', o', hg, hbl', hb1', _⟩ := HC.out (k - 1) p hp
          have hb1'' : W.cell? ⟨b, o + (k - 1) * 2, none⟩ = some (.string p.1) := by
            simp only [Option.some.injEq, Addr.mk.injEq, and_true] at hg
            obtain ⟨e1, e2⟩ := hg
            rw [e1, e2]
            exact (HBW.out.cell (p := ⟨b', _, none⟩) hbl').trans hb1'
          have g3 := fun d os => cell_regrown hb1'' d os
          have hok := okAt_next h0 HF.out hp
          rw [HV.out, Bool.true_and] at hok
          have HOK : Kq (okAt L k = Op.bytesLess p.1.toList f.1.toList) := ⟨hok⟩
          clear hok hp hg hb1' hbl'
          have o1 : (0 : Int) < (k : Int) := by omega
          have o2 : (k : Int) - 1 < (L.length : Int) := by omega
          have o3 : (0 : Int) ≤ (k : Int) - 1 := by omega
          have q1 : IntKind.i64.wrap ((k : Int) - 1) = (k : Int) - 1 := IntWalk.i64_in _ (by omega)
          have q2 : ((k : Int) - 1).toNat = k - 1 := by omega
          cases hless : Op.bytesLess p.1.toList f.1.toList with
          | false =>
            have hbad : Kq (validL L = false) := ⟨validL_bad hlt (by rw [HOK.out, hless])⟩
            refine wp_region_quiet_below (by kernel_rfl) (by kernel_rfl) ?_
            repeat (any_goals (first | go_big_quiet_step (exact Calls.regrown_of (HVF.out _)) | quiet_step (exact Calls.regrown_of (HVF.out _))))
            refine wpQuiet_nil ?_
            intro _ hw'
            obtain ⟨⟨dq, osq⟩, hw''⟩ := hw'
            subst hw''
            clear q1 q2
            go_wp2
            go_ret
            exact ⟨by rw [hbad.out]; rfl, HBW.out.trans ((below_regrown W dq osq).mono HBW.out.size)⟩
          | true =>
            have HOK2 : Kq (okAt L k = true) := ⟨by rw [HOK.out, hless]⟩
            refine wp_region_quiet_below (by kernel_rfl) (by kernel_rfl) ?_
            repeat (any_goals (first | go_big_quiet_step (exact Calls.regrown_of (HVF.out _)) | quiet_step (exact Calls.regrown_of (HVF.out _))))
            refine wpQuiet_nil ?_
            intro _ hw'
            obtain ⟨⟨dq, osq⟩, hw''⟩ := hw'
            subst hw''
            clear q1 q2
            go_wp2
            go_roundw
            case rel => exact ⟨k + 1, by omega, by go_num, range_all HA.out HOK2.out, HBW.out.trans ((below_regrown W dq osq).mono HBW.out.size)⟩
            case measure => simp [intOf]; omega
        · have HOK2 : Kq (okAt L k = true) := ⟨by rw [okAt_zero h0 HF.out, HV.out]⟩
          have o1 : decide (0 < k) = false := decide_eq_false (by omega)
          refine wp_region_quiet_below (by kernel_rfl) (by kernel_rfl) ?_
          repeat (any_goals (first | go_big_quiet_step (exact Calls.regrown_of (HVF.out _)) | quiet_step (exact Calls.regrown_of (HVF.out _))))
          refine wpQuiet_nil ?_
          intro _ hw'
          obtain ⟨⟨dq, osq⟩, hw''⟩ := hw'
          subst hw''
          go_wp2
          go_roundw
          case rel => exact ⟨k + 1, by omega, by go_num, range_all HA.out HOK2.out, HBW.out.trans ((below_regrown W dq osq).mono HBW.out.size)⟩
          case measure => simp [intOf]; omega
    · have hkl : k = L.length := by omega
      have hyes : Kq (validL L = true) := ⟨validL_yes hn (by have := HA.out; rw [hkl] at this; exact this)⟩
      clear hkl
      go_wp2
      go_ret
      exact ⟨by rw [hyes.out]; rfl, HB.out⟩
end Go.Proofs.YtknggeofilfiaaaGreatDoor.Mk
