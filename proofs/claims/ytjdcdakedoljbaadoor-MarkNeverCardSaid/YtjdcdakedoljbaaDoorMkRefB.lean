/-
  WALKS of the reference's value, covers, clash, Has, Agree.
-/
import Derived.Test.YtjdcdakedoljbaaDoorMkRefL
import Derived.Test.YtjdcdakedoljbaaDoorMkLabC
import Derived.Lib.QuietBelow
import Derived.Deep.QuietTactic
import Derived.BigQuiet
namespace Go.Proofs.YtjdcdakedoljbaaDoor.Mk
open Go Go.RowKit Go.Maps Go.Sort

theorem isEmpty_no {s : ByteArray} (h : s ≠ ⟨#[]⟩) : s.toList.isEmpty = false := by
  rw [Lib.toList_data]
  cases hl : s.data.toList with
  | nil => exact absurd (bytes_ext (by rw [hl])) h
  | cons a l => rfl
theorem isEmpty_yes : (⟨#[]⟩ : ByteArray).toList.isEmpty = true := by
  rw [Lib.toList_data]
  rfl
set_option maxHeartbeats 400000 in
theorem rvalue_any (v : Value) (L : List FB) (key : ByteArray) (w : World) (h : RL w v L) (hn : L.length ≤ maxLen) :
    Calls Tryd.prog 68 #[v, .string key] w fun e w' => e = .returned (.string (rval L key)) ∧ Below w.heap.size w w' := by
  unfold maxLen at hn
  obtain ⟨g, cap, rfl, hc⟩ := h
  have HC := Lib.hid hc
  clear hc
  go_enter Tryd.func68, Tryd.ntmps68
  go_wp2
  go_loopw [9] (fun i wr => ∃ k : Nat, k ≤ L.length ∧ i = .int .i64 (k : Int) ∧ Kq (rval (L.drop k) key = rval L key) ∧ Below w.heap.size w wr) (fun i _ => L.length - (intOf i).toNat)
  case atStart => exact ⟨0, Nat.zero_le _, rfl, ⟨rfl⟩, Below.refl _ _⟩
  case round =>
    obtain ⟨k, hk, rfl, hcl, hb⟩ := hrel
    have HB := Lib.hid hb
    have hz := hb.size
    clear hb
    by_cases hlt : k < L.length
    · obtain ⟨f, hf⟩ : ∃ f, L[k]? = some f := ⟨L[k], List.getElem?_eq_getElem hlt⟩
      obtain ⟨b, o, hg, hbl, hb1, hb2⟩ := HC.out k f hf
      subst hg
      have c1 : wr.cell? ⟨b, o + k * 2, none⟩ = some (.string f.1) := (HB.out.cell (p := ⟨b, _, none⟩) hbl).trans hb1
      have c2 : wr.cell? ⟨b, o + k * 2 + 1, none⟩ = some (.string f.2) := (HB.out.cell (p := ⟨b, _, none⟩) hbl).trans hb2
      have HBA : Hid (Below w.heap.size w (wr.alloc (Obj.cells #[Value.string f.1, Value.string f.2] 70))) := HB.out.alloc hz _
      have hd : Kq (L.drop k = f :: L.drop (k + 1)) := ⟨drop_at hf⟩
      clear hb1 hb2 hf
      by_cases he : f.1 = key
      · have hres : Kq (rval L key = f.2) := ⟨by
          have h1 := hcl.out
          rw [hd.out] at h1
          simp only [rval] at h1
          rw [if_pos he] at h1
          exact h1.symm⟩
        have t1 : (f.1.toList == key.toList) = true := toList_eq.2 he
        clear he hcl
        go_wp2
        go_ret
        exact ⟨by rw [hres.out]; rfl, HBA.out⟩
      · have hstep : Kq (rval (L.drop (k + 1)) key = rval L key) := ⟨by
          have h1 := hcl.out
          rw [hd.out] at h1
          simp only [rval] at h1
          rw [if_neg he] at h1
          exact h1⟩
        have t1 : (f.1.toList == key.toList) = false := toList_ne he
        clear he hcl
        go_wp2
        go_roundw
        case rel => exact ⟨k + 1, by omega, by go_num, hstep, HBA.out⟩
        case measure => simp [intOf]; omega
    · have hkl : k = L.length := by omega
      have hres : Kq (rval L key = ⟨#[]⟩) := ⟨by
        have h1 := hcl.out
        rw [hkl, List.drop_length] at h1
        exact h1.symm⟩
      clear hkl hcl
      go_wp2
      go_ret
      exact ⟨by rw [hres.out]; rfl, HB.out⟩
set_option maxHeartbeats 400000 in
theorem rcovers_any (va vb : Value) (A L : List FB) (w : World) (ha : RL w va A) (h : RL w vb L) (nA : A.length ≤ maxLen) (nL : L.length ≤ maxLen) :
    Calls Tryd.prog 62 #[va, vb] w fun e w' => e = .returned (.bool (coversL A L)) ∧ Below w.heap.size w w' := by
  have H1 : Kq (∀ W key, Below w.heap.size w W → _) := ⟨fun W key hW => rvalue_any va A key W (ha.below hW) nA⟩
  unfold maxLen at nA nL
  obtain ⟨ga, ca, rfl, _⟩ := ha
  obtain ⟨g, cap, rfl, hc⟩ := h
  have HC := Lib.hid hc
  clear hc
  go_enter Tryd.func62, Tryd.ntmps62
  go_wp2
  go_loopw [9] (fun i wr => ∃ k : Nat, k ≤ L.length ∧ i = .int .i64 (k : Int) ∧ Kq (coversL A (L.drop k) = coversL A L) ∧ Below w.heap.size w wr) (fun i _ => L.length - (intOf i).toNat)
  case atStart => exact ⟨0, Nat.zero_le _, rfl, ⟨rfl⟩, Below.refl _ _⟩
  case round =>
    obtain ⟨k, hk, rfl, hcl, hb⟩ := hrel
    have HB := Lib.hid hb
    have hz := hb.size
    clear hb
    by_cases hlt : k < L.length
    · obtain ⟨f, hf⟩ : ∃ f, L[k]? = some f := ⟨L[k], List.getElem?_eq_getElem hlt⟩
      obtain ⟨b, o, hg, hbl, hb1, hb2⟩ := HC.out k f hf
      subst hg
      have c1 : wr.cell? ⟨b, o + k * 2, none⟩ = some (.string f.1) := (HB.out.cell (p := ⟨b, _, none⟩) hbl).trans hb1
      have c2 : wr.cell? ⟨b, o + k * 2 + 1, none⟩ = some (.string f.2) := (HB.out.cell (p := ⟨b, _, none⟩) hbl).trans hb2
      obtain ⟨W, hW⟩ : ∃ W, wr.alloc (Obj.cells #[Value.string f.1, Value.string f.2] 70) = W := ⟨_, rfl⟩
      have b1 : W.cell? ⟨wr.heap.size, 0, none⟩ = some (.string f.1) := by rw [← hW]; simp [go_sem]
      have b2 : W.cell? ⟨wr.heap.size, 1, none⟩ = some (.string f.2) := by rw [← hW]; simp [go_sem]
      have HBW : Hid (Below w.heap.size w W) := by rw [← hW]; exact HB.out.alloc hz _
      have hd : Kq (L.drop k = f :: L.drop (k + 1)) := ⟨drop_at hf⟩
      obtain ⟨u, hu⟩ : ∃ u, rval A f.1 = u := ⟨_, rfl⟩
      have HV : Hid (∀ d os, Calls Tryd.prog 68 #[.slice ga A.length ca, .string f.1] (grow (redrawn W d) os) fun e w' => e = .returned (.string u) ∧ Below (grow (redrawn W d) os).heap.size (grow (redrawn W d) os) w') := by
        rw [← hu]
        exact fun d os => H1.out _ _ (HBW.out.trans ((below_regrown W d os).mono HBW.out.size))
      clear hb1 hb2 hf
      by_cases he : u = f.2
      · have hstep : Kq (coversL A (L.drop (k + 1)) = coversL A L) := ⟨by
          have h1 := hcl.out
          rw [hd.out] at h1
          simp only [coversL] at h1
          rw [hu, decide_eq_true he, Bool.true_and] at h1
          exact h1⟩
        have t1 : (u.toList == f.2.toList) = true := toList_eq.2 he
        clear he hcl hu hd
        go_wp2_with fail
        clear hW c1 c2
        have g1 := fun d os => cell_regrown b1 d os
        have g2 := fun d os => cell_regrown b2 d os
        refine wp_region_quiet_below (by kernel_rfl) (by kernel_rfl) ?_
        repeat (any_goals (first | go_big_quiet_step (exact Calls.regrown_of (HV.out _ _)) | quiet_step (exact Calls.regrown_of (HV.out _ _))))
        refine wpQuiet_nil ?_
        intro _ hw'
        obtain ⟨⟨dq, osq⟩, hw''⟩ := hw'
        subst hw''
        go_wp2
        go_roundw
        case rel => exact ⟨k + 1, by omega, by go_num, hstep, HBW.out.trans ((below_regrown W dq osq).mono HBW.out.size)⟩
        case measure => simp [intOf]; omega
      · have hres : Kq (coversL A L = false) := ⟨by
          have h1 := hcl.out
          rw [hd.out] at h1
          simp only [coversL] at h1
          rw [hu, decide_eq_false he, Bool.false_and] at h1
          exact h1.symm⟩
        have t1 : (u.toList == f.2.toList) = false := toList_ne he
        clear he hcl hu hd
        go_wp2_with fail
        clear hW c1 c2
        have g1 := fun d os => cell_regrown b1 d os
        have g2 := fun d os => cell_regrown b2 d os
        refine wp_region_quiet_below (by kernel_rfl) (by kernel_rfl) ?_
        repeat (any_goals (first | go_big_quiet_step (exact Calls.regrown_of (HV.out _ _)) | quiet_step (exact Calls.regrown_of (HV.out _ _))))
        refine wpQuiet_nil ?_
        intro _ hw'
        obtain ⟨⟨dq, osq⟩, hw''⟩ := hw'
        subst hw''
        go_wp2
        go_ret
        exact ⟨by rw [hres.out]; rfl, HBW.out.trans ((below_regrown W dq osq).mono HBW.out.size)⟩
    · have hkl : k = L.length := by omega
      have hres : Kq (coversL A L = true) := ⟨by
        have h1 := hcl.out
        rw [hkl, List.drop_length] at h1
        exact h1.symm⟩
      clear hkl hcl
      go_wp2
      go_ret
      exact ⟨by rw [hres.out]; rfl, HB.out⟩
set_option maxHeartbeats 400000 in
theorem rclash_any (va vb : Value) (A L : List FB) (w : World) (ha : RL w va A) (h : RL w vb L) (nA : A.length ≤ maxLen) (nL : L.length ≤ maxLen) :
    Calls Tryd.prog 65 #[va, vb] w fun e w' => e = .returned (.string (rclash L A)) ∧ Below w.heap.size w w' := by
  have H1 : Kq (∀ W key, Below w.heap.size w W → _) := ⟨fun W key hW => rvalue_any vb L key W (h.below hW) nL⟩
  unfold maxLen at nA nL
  obtain ⟨gb, cb, rfl, _⟩ := h
  obtain ⟨g, cap, rfl, hc⟩ := ha
  have HC := Lib.hid hc
  clear hc
  go_enter Tryd.func65, Tryd.ntmps65
  go_wp2
  go_loopw [10] (fun i wr => ∃ k : Nat, k ≤ A.length ∧ i = .int .i64 (k : Int) ∧ Kq (rclash L (A.drop k) = rclash L A) ∧ Below w.heap.size w wr) (fun i _ => A.length - (intOf i).toNat)
  case atStart => exact ⟨0, Nat.zero_le _, rfl, ⟨rfl⟩, Below.refl _ _⟩
  case round =>
    obtain ⟨k, hk, rfl, hcl, hb⟩ := hrel
    have HB := Lib.hid hb
    have hz := hb.size
    clear hb
    by_cases hlt : k < A.length
    · obtain ⟨f, hf⟩ : ∃ f, A[k]? = some f := ⟨A[k], List.getElem?_eq_getElem hlt⟩
      obtain ⟨b, o, hg, hbl, hb1, hb2⟩ := HC.out k f hf
      subst hg
      have c1 : wr.cell? ⟨b, o + k * 2, none⟩ = some (.string f.1) := (HB.out.cell (p := ⟨b, _, none⟩) hbl).trans hb1
      have c2 : wr.cell? ⟨b, o + k * 2 + 1, none⟩ = some (.string f.2) := (HB.out.cell (p := ⟨b, _, none⟩) hbl).trans hb2
      have HBA : Kq (Below w.heap.size w (wr.alloc (Obj.cells #[Value.string f.1, Value.string f.2] 70))) := ⟨HB.out.alloc hz _⟩
      have hd : Kq (A.drop k = f :: A.drop (k + 1)) := ⟨drop_at hf⟩
      clear hb1 hb2 hf
      go_wp2_with fail
      refine (H1.out _ _ HBA.out).mono ?_
      rintro e w1 ⟨rfl, hb1⟩
      have HB1 : Kq (Below w.heap.size w w1) := ⟨HBA.out.trans (hb1.mono HBA.out.size)⟩
      have d1 : w1.cell? ⟨wr.heap.size, 0, none⟩ = some (.string f.1) := (hb1.cell (p := ⟨wr.heap.size, 0, none⟩) (by simp)).trans (by simp [go_sem])
      have d2 : w1.cell? ⟨wr.heap.size, 1, none⟩ = some (.string f.2) := (hb1.cell (p := ⟨wr.heap.size, 1, none⟩) (by simp)).trans (by simp [go_sem])
      clear hb1
      obtain ⟨u, hu⟩ : ∃ u, rval L f.1 = u := ⟨_, rfl⟩
      rw [hu]
      by_cases he : u = ⟨#[]⟩
      · have hstep : Kq (rclash L (A.drop (k + 1)) = rclash L A) := ⟨by
          have h1 := hcl.out
          rw [hd.out] at h1
          simp only [rclash] at h1
          rw [hu, if_neg (fun h2 => h2.1 he)] at h1
          exact h1⟩
        subst he
        have t1 := isEmpty_yes
        clear hcl hu
        go_wp2
        go_roundw
        case rel => exact ⟨k + 1, by omega, by go_num, hstep, HB1.out⟩
        case measure => simp [intOf]; omega
      · have t1 := isEmpty_no he
        by_cases he2 : u = f.2
        · have hstep : Kq (rclash L (A.drop (k + 1)) = rclash L A) := ⟨by
            have h1 := hcl.out
            rw [hd.out] at h1
            simp only [rclash] at h1
            rw [hu, if_neg (fun h2 => h2.2 he2)] at h1
            exact h1⟩
          have t2 : (u.toList == f.2.toList) = true := toList_eq.2 he2
          clear he he2 hcl hu
          go_wp2
          go_roundw
          case rel => exact ⟨k + 1, by omega, by go_num, hstep, HB1.out⟩
          case measure => simp [intOf]; omega
        · have hres : Kq (rclash L A = f.1) := ⟨by
            have h1 := hcl.out
            rw [hd.out] at h1
            simp only [rclash] at h1
            rw [hu, if_pos ⟨he, he2⟩] at h1
            exact h1.symm⟩
          have t2 : (u.toList == f.2.toList) = false := toList_ne he2
          clear he he2 hcl hu
          go_wp2
          go_ret
          exact ⟨by rw [hres.out]; rfl, HB1.out⟩
    · have hkl : k = A.length := by omega
      have hres : Kq (rclash L A = ⟨#[]⟩) := ⟨by
        have h1 := hcl.out
        rw [hkl, List.drop_length] at h1
        exact h1.symm⟩
      clear hkl hcl
      go_wp2
      go_ret
      exact ⟨by rw [hres.out]; rfl, HB.out⟩
end Go.Proofs.YtjdcdakedoljbaaDoor.Mk
