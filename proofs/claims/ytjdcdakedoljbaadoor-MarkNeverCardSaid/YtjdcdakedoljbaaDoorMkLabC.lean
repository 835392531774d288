/-
  THE WALK of the specification's ValidLabel, at every label.
-/
import Derived.Test.YtjdcdakedoljbaaDoorMkLabB
import Derived.Sort.Walk0
namespace Go.Proofs.YtjdcdakedoljbaaDoor.Mk
open Go Go.RowKit

theorem less_flip (x y : List UInt8) : (Op.bytesLess x y || x == y) = !Op.bytesLess y x := by
  rw [bytesLess_eq, bytesLess_eq]
  by_cases h : y < x
  · have h1 : ¬ x < y := fun h2 => List.lt_irrefl _ (List.lt_trans h h2)
    have h2 : x ≠ y := fun e => List.lt_irrefl _ (e ▸ h)
    simp [h, h1, h2]
  · have h1 : x ≤ y := List.not_lt.1 h
    by_cases e : x = y
    · subst e; simp [h]
    · have h3 : x < y := by
        by_cases h4 : x < y
        · exact h4
        · exact absurd (List.le_antisymm h1 (List.not_lt.1 h4)) e
      simp [h, h3]
theorem refWord_below (s : ByteArray) (w : World) (hs : s.size ≤ maxLen) :
    Calls Tryd.prog 22 #[.string s] w fun e w' => e = .returned (.bool (wordL s.data.toList)) ∧ Below w.heap.size w w' :=
  (refWord_any s w hs).mono fun _ _ h => ⟨h.1, by rw [← h.2]; exact Below.refl _ _⟩

set_option maxHeartbeats 2000000 in
theorem refValidLabel_any (v : Value) (L : List FB) (w : World) (h : RL w v L) (hs : Kq (∀ f ∈ L, f.1.size ≤ maxLen ∧ f.2.size ≤ maxLen)) (hn : L.length ≤ 9223372036854775807) :
    Calls Tryd.prog 24 #[v] w fun e w' => e = .returned (.bool (validL L)) ∧ Below w.heap.size w w' := by
  obtain ⟨g, cap, rfl, hc⟩ := h
  have HC := Lib.hid hc
  clear hc
  go_enter Tryd.func24, Tryd.ntmps24
  go_wp2
  go_loopw [7] (fun i wr => ∃ k : Nat, k ≤ L.length ∧ i = .int .i64 (k : Int) ∧ (List.range k).all (okAt L) = true ∧ Below w.heap.size w wr) (fun i _ => L.length - (intOf i).toNat)
  case atStart => exact ⟨0, Nat.zero_le _, rfl, rfl, Below.refl _ _⟩
  case round =>
    obtain ⟨k, hk, rfl, hall, hb⟩ := hrel
    have HA := Lib.hid hall
    have HB := Lib.hid hb
    have hz := hb.size
    clear hall hb
    by_cases hlt : k < L.length
    · obtain ⟨f, hf⟩ : ∃ f, L[k]? = some f := ⟨L[k], List.getElem?_eq_getElem hlt⟩
      obtain ⟨b, o, hg, hbl, hb1, hb2⟩ := HC.out k f hf
      subst hg
      have c1 : wr.cell? ⟨b, o + k * 2, none⟩ = some (.string f.1) := (HB.out.cell (p := ⟨b, _, none⟩) hbl).trans hb1
      have c2 : wr.cell? ⟨b, o + k * 2 + 1, none⟩ = some (.string f.2) := (HB.out.cell (p := ⟨b, _, none⟩) hbl).trans hb2
      have HF : Kq (L[k]? = some f) := ⟨hf⟩
      clear hb1 hb2 hf
      have hsz := hs.out f (List.mem_of_getElem? HF.out)
      obtain ⟨V1, hV1⟩ : ∃ V1, wordL f.1.data.toList = V1 := ⟨_, rfl⟩
      obtain ⟨V2, hV2⟩ : ∃ V2, wordL f.2.data.toList = V2 := ⟨_, rfl⟩
      have hw1 := fun W => refWord_below f.1 W hsz.1
      have hw2 := fun W => refWord_below f.2 W hsz.2
      rw [hV1] at hw1
      rw [hV2] at hw2
      have H1 := Lib.hid hw1
      have H2 := Lib.hid hw2
      have HV : Kq (validF f = (V1 && V2)) := ⟨by unfold validF; rw [hV1, hV2]⟩
      clear hw1 hw2 hV1 hV2 hsz
      go_wp2_with fail
      obtain ⟨W, hW⟩ : ∃ W, wr.alloc (Obj.cells #[Value.string f.1, Value.string f.2] 70) = W := ⟨_, rfl⟩
      have b1 : W.cell? ⟨wr.heap.size, 0, none⟩ = some (.string f.1) := by rw [← hW]; simp [go_sem]
      have b2 : W.cell? ⟨wr.heap.size, 1, none⟩ = some (.string f.2) := by rw [← hW]; simp [go_sem]
      have HBW : Hid (Below w.heap.size w W) := by rw [← hW]; exact HB.out.alloc hz _
      rw [hW]
      clear hW
      have g1 := fun d os => cell_regrown b1 d os
      have g2 := fun d os => cell_regrown b2 d os
      have hno : (V1 && V2) = false → Kq (validL L = false) := fun hV => ⟨validL_bad hlt (by
          rcases Nat.lt_or_ge 0 k with h0 | h0
          · obtain ⟨p, hp⟩ : ∃ p, L[k - 1]? = some p := ⟨L[k - 1], List.getElem?_eq_getElem (by omega)⟩
            rw [okAt_next h0 HF.out hp, HV.out, hV]; rfl
          · rw [okAt_zero h0 HF.out, HV.out, hV])⟩
      have HNO : Kq ((V1 && V2) = false → Kq (validL L = false)) := ⟨hno⟩
      clear hno
      cases V1 with
      | false =>
        have hbad := HNO.out rfl
        refine wp_region_quiet_below (by kernel_rfl) (by kernel_rfl) ?_
        repeat (any_goals (first | go_big_quiet_step (first | (with_reducible exact Calls.regrown_of (H1.out _)) | (with_reducible exact Calls.regrown_of (H2.out _))) | quiet_step (first | (with_reducible exact Calls.regrown_of (H1.out _)) | (with_reducible exact Calls.regrown_of (H2.out _)))))
        refine wpQuiet_nil ?_
        intro _ hw'
        obtain ⟨⟨dq, osq⟩, hw''⟩ := hw'
        subst hw''
        go_wp2
        go_ret
        exact ⟨by rw [hbad.out]; rfl, HBW.out.trans ((below_regrown W dq osq).mono HBW.out.size)⟩
      | true =>
        cases V2 with
        | false =>
          have hbad := HNO.out rfl
          refine wp_region_quiet_below (by kernel_rfl) (by kernel_rfl) ?_
          repeat (any_goals (first | go_big_quiet_step (first | (with_reducible exact Calls.regrown_of (H1.out _)) | (with_reducible exact Calls.regrown_of (H2.out _))) | quiet_step (first | (with_reducible exact Calls.regrown_of (H1.out _)) | (with_reducible exact Calls.regrown_of (H2.out _)))))
          refine wpQuiet_nil ?_
          intro _ hw'
          obtain ⟨⟨dq, osq⟩, hw''⟩ := hw'
          subst hw''
          go_wp2
          go_ret
          exact ⟨by rw [hbad.out]; rfl, HBW.out.trans ((below_regrown W dq osq).mono HBW.out.size)⟩
        | true =>
          rcases Nat.lt_or_ge 0 k with h0 | h0
          · obtain ⟨p, hp⟩ : ∃ p, L[k - 1]? = some p := ⟨L[k - 1], List.getElem?_eq_getElem (by omega)⟩
            obtain ⟨b', o', hg, hbl', hb1', _⟩ := HC.out (k - 1) p hp
            have hb1'' : W.cell? ⟨b, o + (k - 1) * 2, none⟩ = some (.string p.1) := by
              simp only [Option.some.injEq, Addr.mk.injEq, and_true] at hg
              obtain ⟨e1, e2⟩ := hg
              rw [e1, e2]
              exact (HBW.out.cell (p := ⟨b', _, none⟩) hbl').trans hb1'
            have g3 := fun d os => cell_regrown hb1'' d os
            have hok := okAt_next h0 HF.out hp
            rw [HV.out, Bool.true_and, Bool.true_and] at hok
            have HOK : Kq (okAt L k = Op.bytesLess p.1.toList f.1.toList) := ⟨hok⟩
            have hflip := less_flip f.1.toList p.1.toList
            clear hok hp hg hb1' hbl'
            have o1 : (0 : Int) < (k : Int) := by omega
            have o2 : (k : Int) - 1 < (L.length : Int) := by omega
            have o3 : (0 : Int) ≤ (k : Int) - 1 := by omega
            have q1 : IntKind.i64.wrap ((k : Int) - 1) = (k : Int) - 1 := IntWalk.i64_in _ (by omega)
            have q2 : ((k : Int) - 1).toNat = k - 1 := by omega
            cases hless : Op.bytesLess p.1.toList f.1.toList with
            | false =>
              have hbad : Kq (validL L = false) := ⟨validL_bad hlt (by rw [HOK.out, hless])⟩
              rw [hless, Bool.not_false] at hflip
              refine wp_region_quiet_below (by kernel_rfl) (by kernel_rfl) ?_
              repeat (any_goals (first | go_big_quiet_step (first | (with_reducible exact Calls.regrown_of (H1.out _)) | (with_reducible exact Calls.regrown_of (H2.out _))) | quiet_step (first | (with_reducible exact Calls.regrown_of (H1.out _)) | (with_reducible exact Calls.regrown_of (H2.out _)))))
              refine wpQuiet_nil ?_
              intro _ hw'
              obtain ⟨⟨dq, osq⟩, hw''⟩ := hw'
              subst hw''
              clear q1 q2
              go_wp2
              go_ret
              exact ⟨by rw [hbad.out]; rfl, HBW.out.trans ((below_regrown W dq osq).mono HBW.out.size)⟩
            | true =>
              have HOK2 : Kq (okAt L k = true) := ⟨by rw [HOK.out, hless]⟩
              rw [hless, Bool.not_true] at hflip
              refine wp_region_quiet_below (by kernel_rfl) (by kernel_rfl) ?_
              repeat (any_goals (first | go_big_quiet_step (first | (with_reducible exact Calls.regrown_of (H1.out _)) | (with_reducible exact Calls.regrown_of (H2.out _))) | quiet_step (first | (with_reducible exact Calls.regrown_of (H1.out _)) | (with_reducible exact Calls.regrown_of (H2.out _)))))
              refine wpQuiet_nil ?_
              intro _ hw'
              obtain ⟨⟨dq, osq⟩, hw''⟩ := hw'
              subst hw''
              clear q1 q2
              go_wp2
              go_roundw
              case rel => exact ⟨k + 1, by omega, by go_num, range_all HA.out HOK2.out, HBW.out.trans ((below_regrown W dq osq).mono HBW.out.size)⟩
              case measure => simp [intOf]; omega
          · have HOK2 : Kq (okAt L k = true) := ⟨by rw [okAt_zero h0 HF.out, HV.out]; rfl⟩
            have o1 : decide (0 < k) = false := decide_eq_false (by omega)
            refine wp_region_quiet_below (by kernel_rfl) (by kernel_rfl) ?_
            repeat (any_goals (first | go_big_quiet_step (first | (with_reducible exact Calls.regrown_of (H1.out _)) | (with_reducible exact Calls.regrown_of (H2.out _))) | quiet_step (first | (with_reducible exact Calls.regrown_of (H1.out _)) | (with_reducible exact Calls.regrown_of (H2.out _)))))
            refine wpQuiet_nil ?_
            intro _ hw'
            obtain ⟨⟨dq, osq⟩, hw''⟩ := hw'
            subst hw''
            go_wp2
            go_roundw
            case rel => exact ⟨k + 1, by omega, by go_num, range_all HA.out HOK2.out, HBW.out.trans ((below_regrown W dq osq).mono HBW.out.size)⟩
            case measure => simp [intOf]; omega
    · have hkl : k = L.length := by omega
      have hrange : (List.range L.length).all (okAt L) = true := by have := HA.out; rw [hkl] at this; exact this
      have hv : Kq (validL L = decide (L.length ≤ 8)) := ⟨by unfold validL; rw [hrange, Bool.and_true]⟩
      clear hkl hrange
      by_cases h8 : L.length ≤ 8
      · have hv2 : Kq (validL L = true) := ⟨by rw [hv.out]; exact decide_eq_true h8⟩
        have t8 : ((L.length : Int) ≤ 8) := by omega
        go_wp2
        go_ret
        exact ⟨by rw [hv2.out]; first | rfl | simp [h8], HB.out⟩
      · have hv2 : Kq (validL L = false) := ⟨by rw [hv.out]; exact decide_eq_false h8⟩
        have t8 : ¬ ((L.length : Int) ≤ 8) := by omega
        go_wp2
        go_ret
        exact ⟨by rw [hv2.out]; first | rfl | simp [h8], HB.out⟩
end Go.Proofs.YtjdcdakedoljbaaDoor.Mk
