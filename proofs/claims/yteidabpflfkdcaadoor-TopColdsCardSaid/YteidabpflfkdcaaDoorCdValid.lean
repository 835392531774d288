/-
  WALKS (layer 4, cold): readings that are valid, by the program.
-/
import Derived.Test.YteidabpflfkdcaaDoorCdWalkA
import Derived.IntWalk
import Derived.Deep.RegionWith
import Derived.Lib.QuietBelow
namespace Go.Proofs.YteidabpflfkdcaaDoor.Cd
open Go Go.RowKit Go.Sort

theorem follows_nil (g : Option Addr) (c : Nat) (h t : Int) (w : World) :
    Calls Tryd.prog 94 #[.slice g 0 c, .agg #[.int .i64 h, .int .i64 t]] w fun e w' => e = .returned (.bool (folB none ⟨h, t⟩)) ∧ Below w.heap.size w w' := by
  have HP : Kp (precB none ⟨h, t⟩ = true) := ⟨rfl⟩
  go_enter Tryd.func94, Tryd.ntmps94
  go_wp2
  go_quiet (fail)
  go_wp2_with fail
  refine (within_any 0 1000000 _ [h] _ (NS.one (by go_simp)) (by simp)).mono ?_
  rw [allB1]
  cases h1 : inB 0 1000000 h with
  | false =>
    have HE : Kp (folB none ⟨h, t⟩ = false) := ⟨by unfold folB; rw [h1]; simp⟩
    clear h1
    rintro e w1 ⟨rfl, rfl⟩
    go_wp2
    go_ret
    exact ⟨ret_bool HE.out.symm, (by repeat (first | exact Below.refl _ _ | refine Below.alloc ?_ (by simp <;> omega) _ | refine bDrewN ?_ _ | refine Below.drew ?_))⟩
  | true =>
    have H1 : Kp (inB 0 1000000 h = true) := ⟨h1⟩
    clear h1
    rintro e w1 ⟨rfl, rfl⟩
    go_wp2_with fail
    refine (isTemp_any t _).mono ?_
    cases h2 : inB (-1000) 1000 t with
    | false =>
      have HE : Kp (folB none ⟨h, t⟩ = false) := ⟨by unfold folB; rw [h2]; simp⟩
      clear h2
      rintro e w2 ⟨rfl, hb2⟩
      have HB2 : Kp (Below w.heap.size w w2) := ⟨Below.trans (by repeat (first | exact Below.refl _ _ | refine Below.alloc ?_ (by simp <;> omega) _ | refine bDrewN ?_ _ | refine Below.drew ?_)) (hb2.mono (by simp <;> omega))⟩
      clear hb2
      go_wp2
      go_ret
      exact ⟨ret_bool HE.out.symm, HB2.out⟩
    | true =>
      have HE : Kp (folB none ⟨h, t⟩ = true) := ⟨by unfold folB; rw [HP.out, H1.out, h2]; rfl⟩
      clear h2
      rintro e w2 ⟨rfl, hb2⟩
      have HB2 : Kp (Below w.heap.size w w2) := ⟨Below.trans (by repeat (first | exact Below.refl _ _ | refine Below.alloc ?_ (by simp <;> omega) _ | refine bDrewN ?_ _ | refine Below.drew ?_)) (hb2.mono (by simp <;> omega))⟩
      clear hb2
      go_wp2
      go_ret
      exact ⟨ret_bool HE.out.symm, HB2.out⟩
theorem follows_later (b o m c : Nat) (y z h t : Int) (w : World) (hm : m ≤ 1000) (hc : w.cell? ⟨b, o + m * 2, none⟩ = some (.int .i64 y)) (hy : y < h) :
    Calls Tryd.prog 94 #[.slice (some ⟨b, o, none⟩) (m + 1) c, .agg #[.int .i64 h, .int .i64 t]] w fun e w' => e = .returned (.bool (folB (some ⟨y, z⟩) ⟨h, t⟩)) ∧ Below w.heap.size w w' := by
  have HP : Kp (precB (some ⟨y, z⟩) ⟨h, t⟩ = true) := ⟨decide_eq_true hy⟩
  have hbl := World.block_lt_of_cell? _ _ hc
  have i0 : ((m : Int) + 1 == 0) = false := by simp; omega
  have i1 : IntKind.i64.wrap ((m : Int) + 1 - 1) = (m : Int) := by rw [Int.add_sub_cancel]; exact IntWalk.i64_in _ (by omega)
  have i2 : (m : Int) < (m : Int) + 1 := by omega
  go_enter Tryd.func94, Tryd.ntmps94
  go_wp2
  go_quiet (fail)
  clear i0 i1 i2 hc hbl
  go_wp2_with fail
  refine (within_any 0 1000000 _ [h] _ (NS.one (by go_simp)) (by simp)).mono ?_
  rw [allB1]
  cases h1 : inB 0 1000000 h with
  | false =>
    have HE : Kp (folB (some ⟨y, z⟩) ⟨h, t⟩ = false) := ⟨by unfold folB; rw [h1]; simp⟩
    clear h1
    rintro e w1 ⟨rfl, rfl⟩
    go_wp2
    go_ret
    exact ⟨ret_bool HE.out.symm, (by repeat (first | exact Below.refl _ _ | refine Below.alloc ?_ (by simp <;> omega) _ | refine bDrewN ?_ _ | refine Below.drew ?_))⟩
  | true =>
    have H1 : Kp (inB 0 1000000 h = true) := ⟨h1⟩
    clear h1
    rintro e w1 ⟨rfl, rfl⟩
    go_wp2_with fail
    refine (isTemp_any t _).mono ?_
    cases h2 : inB (-1000) 1000 t with
    | false =>
      have HE : Kp (folB (some ⟨y, z⟩) ⟨h, t⟩ = false) := ⟨by unfold folB; rw [h2]; simp⟩
      clear h2
      rintro e w2 ⟨rfl, hb2⟩
      have HB2 : Kp (Below w.heap.size w w2) := ⟨Below.trans (by repeat (first | exact Below.refl _ _ | refine Below.alloc ?_ (by simp <;> omega) _ | refine bDrewN ?_ _ | refine Below.drew ?_)) (hb2.mono (by simp <;> omega))⟩
      clear hb2
      go_wp2
      go_ret
      exact ⟨ret_bool HE.out.symm, HB2.out⟩
    | true =>
      have HE : Kp (folB (some ⟨y, z⟩) ⟨h, t⟩ = true) := ⟨by unfold folB; rw [HP.out, H1.out, h2]; rfl⟩
      clear h2
      rintro e w2 ⟨rfl, hb2⟩
      have HB2 : Kp (Below w.heap.size w w2) := ⟨Below.trans (by repeat (first | exact Below.refl _ _ | refine Below.alloc ?_ (by simp <;> omega) _ | refine bDrewN ?_ _ | refine Below.drew ?_)) (hb2.mono (by simp <;> omega))⟩
      clear hb2
      go_wp2
      go_ret
      exact ⟨ret_bool HE.out.symm, HB2.out⟩
theorem follows_early (b o m c : Nat) (y z h t : Int) (w : World) (hm : m ≤ 1000) (hc : w.cell? ⟨b, o + m * 2, none⟩ = some (.int .i64 y)) (hy : ¬ y < h) :
    Calls Tryd.prog 94 #[.slice (some ⟨b, o, none⟩) (m + 1) c, .agg #[.int .i64 h, .int .i64 t]] w fun e w' => e = .returned (.bool (folB (some ⟨y, z⟩) ⟨h, t⟩)) ∧ Below w.heap.size w w' := by
  have HE : Kp (folB (some ⟨y, z⟩) ⟨h, t⟩ = false) := ⟨by unfold folB precB; simp [hy]⟩
  have hbl := World.block_lt_of_cell? _ _ hc
  have i0 : ((m : Int) + 1 == 0) = false := by simp; omega
  have i1 : IntKind.i64.wrap ((m : Int) + 1 - 1) = (m : Int) := by rw [Int.add_sub_cancel]; exact IntWalk.i64_in _ (by omega)
  have i2 : (m : Int) < (m : Int) + 1 := by omega
  go_enter Tryd.func94, Tryd.ntmps94
  go_wp2
  go_quiet (fail)
  clear i0 i1 i2 hc hbl
  go_wp2
  go_ret
  exact ⟨ret_bool HE.out.symm, (by repeat (first | exact Below.refl _ _ | refine Below.alloc ?_ (by simp <;> omega) _ | refine bDrewN ?_ _ | refine Below.drew ?_))⟩
theorem ValidReadings_any (v : Value) (l : List Rd) (w : World) (hs : RS w v l) :
    Calls Tryd.prog 71 #[v] w fun e w' => e = .returned (.bool (readB l)) ∧ Below w.heap.size w w' := by
  obtain ⟨g, c, rfl, hcap, hi⟩ := hs
  have HS := Lib.hid hi
  have HCAP := Lib.hid hcap
  clear hi hcap
  by_cases h0 : l.length = 0
  · have HE : Kp (readB l = false) := ⟨read_long (.inl h0)⟩
    rw [h0]
    clear h0
    go_enter Tryd.func71, Tryd.ntmps71
    go_wp2
    go_ret
    exact ⟨ret_bool HE.out.symm, by repeat (first | exact Below.refl _ _ | refine Below.alloc ?_ (by simp <;> omega) _ | refine bDrewN ?_ _ | refine Below.drew ?_)⟩
  · by_cases h1 : 200 < l.length
    · have HE : Kp (readB l = false) := ⟨read_long (.inr h1)⟩
      have h2 : decide (200 < l.length) = true := decide_eq_true h1
      have h3 : (200 : Int) < (l.length : Int) := by omega
      have h4 : ((l.length : Int) == 0) = false := by rw [beq_eq_false_iff_ne]; omega
      clear h0 h1
      go_enter Tryd.func71, Tryd.ntmps71
      go_wp2
      go_ret
      exact ⟨ret_bool HE.out.symm, by repeat (first | exact Below.refl _ _ | refine Below.alloc ?_ (by simp <;> omega) _ | refine bDrewN ?_ _ | refine Below.drew ?_)⟩
    · have HL : Kp (1 ≤ l.length ∧ l.length ≤ 200) := ⟨by omega⟩
      have h3 : ¬ (200 : Int) < (l.length : Int) := by omega
      have h4 : ((l.length : Int) == 0) = false := by rw [beq_eq_false_iff_ne]; omega
      clear h0 h1
      go_enter Tryd.func71, Tryd.ntmps71
      go_wp2
      clear h3 h4
      go_loopw [14] (fun i wr => ∃ k : Nat, k ≤ l.length ∧ i = .int .i64 k ∧ Kp (okUp l k = true) ∧ Kp (Below w.heap.size w wr)) (fun i _ => l.length - (intOf i).toNat)
      case atStart => exact ⟨0, Nat.zero_le _, rfl, ⟨rfl⟩, ⟨by repeat (first | exact Below.refl _ _ | refine Below.alloc ?_ (by simp <;> omega) _ | refine bDrewN ?_ _ | refine Below.drew ?_)⟩⟩
      case round =>
        obtain ⟨k, hk, rfl, HK, HB⟩ := hrel
        by_cases hlt : k < l.length
        · obtain ⟨x, hx⟩ : ∃ x, l[k]? = some x := ⟨l[k], List.getElem?_eq_getElem hlt⟩
          obtain ⟨b, o, hg, hbl, hc1, hc2⟩ := HS.out k x hx
          subst hg
          have hbr : b < wr.heap.size := Nat.lt_of_lt_of_le hbl HB.out.size
          have c1 : wr.cell? ⟨b, o + k * 2, none⟩ = some (.int .i64 x.h) := (HB.out.cell (p := ⟨b, _, none⟩) hbl).trans hc1
          have c2 : wr.cell? ⟨b, o + k * 2 + 1, none⟩ = some (.int .i64 x.t) := (HB.out.cell (p := ⟨b, _, none⟩) hbl).trans hc2
          have HF : Kp (∀ W, Below wr.heap.size wr W → Calls Tryd.prog 94 #[.slice (some ⟨b, o, none⟩) k c, .agg #[.int .i64 x.h, .int .i64 x.t]] W fun e w' => e = .returned (.bool (okAt l k)) ∧ Below W.heap.size W w') := ⟨by
            intro W hW
            rw [okAt_at hx]
            cases k with
            | zero => exact follows_nil _ c x.h x.t W
            | succ m =>
              have hm : l[m]? = some l[m] := List.getElem?_eq_getElem (by omega)
              obtain ⟨b', o', hg, hbl', hc, -⟩ := HS.out m _ hm
              simp only [Option.some.injEq, Addr.mk.injEq, and_true] at hg
              obtain ⟨rfl, rfl⟩ := hg
              have hcW : W.cell? ⟨b, o + m * 2, none⟩ = some (.int .i64 (l[m]).h) := ((HB.out.trans (hW.mono HB.out.size)).cell (p := ⟨b, _, none⟩) hbl).trans hc
              have e : prev l (m + 1) = some ⟨(l[m]).h, (l[m]).t⟩ := hm
              rw [e]
              by_cases hy : (l[m]).h < x.h
              · exact follows_later b o m c (l[m]).h (l[m]).t x.h x.t W (by have := HL.out; omega) hcW hy
              · exact follows_early b o m c (l[m]).h (l[m]).t x.h x.t W (by have := HL.out; omega) hcW hy⟩
          have o1 : (k : Int) < (l.length : Int) := by omega
          have o2 : (k : Int) ≤ (c : Int) := by have := HCAP.out; omega
          have o4 : k ≤ 200 := by have := HL.out; omega
          have HKL : Kp (k < l.length) := ⟨hlt⟩
          clear hx hc1 hc2 hbl
          cases hok : okAt l k with
          | false =>
            have HE : Kp (readB l = false) := ⟨read_no hlt hok⟩
            rw [hok] at HF
            have HSG : Kp (∀ d os, _) := ⟨fun d os => HF.out (grow (redrawn wr d) os) (below_regrown wr d os)⟩
            clear hok HF
            have q1 := fun d os => cell_regrown c1 d os
            have q2 := fun d os => cell_regrown c2 d os
            go_wp2
            refine wp_region_quiet_below (by kernel_rfl) (by kernel_rfl) ?_
            repeat (any_goals (first | go_big_quiet_step (with_reducible exact Calls.regrown_of (HSG.out _ _)) | quiet_step (with_reducible exact Calls.regrown_of (HSG.out _ _))))
            refine wpQuiet_nil ?_
            intro _ hw'
            obtain ⟨⟨dq, osq⟩, hw''⟩ := hw'
            subst hw''
            obtain ⟨W7, hW7⟩ : ∃ W7, grow (redrawn wr dq) osq = W7 := ⟨_, rfl⟩
            have HB7 : Kp (Below w.heap.size w W7) := ⟨by rw [← hW7]; exact HB.out.trans ((below_regrown wr dq osq).mono HB.out.size)⟩
            rw [hW7]
            clear hW7 q1 q2 HSG c1 c2
            go_wp2
            go_ret
            exact ⟨ret_bool HE.out.symm, HB7.out⟩
          | true =>
            have HE : Kp (okUp l (k + 1) = true) := ⟨okUp_step HK.out hok⟩
            rw [hok] at HF
            have HSG : Kp (∀ d os, _) := ⟨fun d os => HF.out (grow (redrawn wr d) os) (below_regrown wr d os)⟩
            clear hok HF
            have q1 := fun d os => cell_regrown c1 d os
            have q2 := fun d os => cell_regrown c2 d os
            go_wp2
            refine wp_region_quiet_below (by kernel_rfl) (by kernel_rfl) ?_
            repeat (any_goals (first | go_big_quiet_step (with_reducible exact Calls.regrown_of (HSG.out _ _)) | quiet_step (with_reducible exact Calls.regrown_of (HSG.out _ _))))
            refine wpQuiet_nil ?_
            intro _ hw'
            obtain ⟨⟨dq, osq⟩, hw''⟩ := hw'
            subst hw''
            obtain ⟨W7, hW7⟩ : ∃ W7, grow (redrawn wr dq) osq = W7 := ⟨_, rfl⟩
            have HB7 : Kp (Below w.heap.size w W7) := ⟨by rw [← hW7]; exact HB.out.trans ((below_regrown wr dq osq).mono HB.out.size)⟩
            rw [hW7]
            clear hW7 q1 q2 HSG c1 c2
            go_wp2
            go_roundw
            case rel => exact ⟨k + 1, by omega, by go_num, HE, HB7⟩
            case measure => simp [intOf]; omega
        · have hkl : k = l.length := by omega
          have HE : Kp (readB l = true) := ⟨read_yes HL.out.1 HL.out.2 (by rw [← hkl]; exact HK.out)⟩
          clear hkl
          go_wp2
          go_ret
          exact ⟨ret_bool HE.out.symm, HB.out⟩
theorem ValidReadings_yes (v : Value) (l : List Rd) (w : World) (hs : RS w v l) (h : readB l = true) : Calls Tryd.prog 71 #[v] w fun e w' => e = .returned (.bool true) ∧ Below w.heap.size w w' := h ▸ ValidReadings_any v l w hs
theorem ValidReadings_no (v : Value) (l : List Rd) (w : World) (hs : RS w v l) (h : readB l = false) : Calls Tryd.prog 71 #[v] w fun e w' => e = .returned (.bool false) ∧ Below w.heap.size w w' := h ▸ ValidReadings_any v l w hs
end Go.Proofs.YteidabpflfkdcaaDoor.Cd
