/-
  WALKS (layer 9, loan): numbers in a range, names and valid loans, by the program and by the reference.
-/
import Derived.Test.YtaofjomocefdkaaLnKit
import Derived.Test.YtaofjomocefdkaaLnPlain
import Derived.Lib.OthersKept
import Derived.IntWalk
namespace Go.Proofs.Ytaofjomocefdkaa.Ln
open Go Go.RowKit

/-- A slice reads as numbers. -/
def RI (w : World) (v : Value) (L : List Int) : Prop :=
  ∃ g cap, v = .slice g L.length cap ∧ ∀ i x, L[i]? = some x → ∃ b, g = some ⟨b, 0, none⟩ ∧ w.cell? ⟨b, i, none⟩ = some (.int .i64 x)
theorem RI.below {w w' : World} {v : Value} {L : List Int} (h : RI w v L) (hb : Below w.heap.size w w') : RI w' v L := by
  obtain ⟨g, cap, hv, hc⟩ := h
  refine ⟨g, cap, hv, fun i x hx => ?_⟩
  obtain ⟨b, hg, hcell⟩ := hc i x hx
  exact ⟨b, hg, (hb.cell (p := ⟨b, i, none⟩) (World.block_lt_of_cell? w _ hcell)).trans hcell⟩
theorem allIn_more {lo hi x : Int} {L : List Int} {k : Nat} (hx : L[k]? = some x) : allIn lo hi (L.take (k + 1)) = (allIn lo hi (L.take k) && (decide (lo ≤ x) && decide (x ≤ hi))) := by
  have hk := (List.getElem?_eq_some_iff.1 hx).1
  have e : L[k] = x := (List.getElem?_eq_some_iff.1 hx).2
  unfold allIn
  rw [List.take_succ_eq_append_getElem hk, e, List.all_append]
  simp
theorem allIn_no {lo hi x : Int} {L : List Int} {k : Nat} (hx : L[k]? = some x) (h : ¬ (lo ≤ x ∧ x ≤ hi)) : allIn lo hi L = false := by
  unfold allIn
  rw [List.all_eq_false]
  exact ⟨x, List.mem_of_getElem? hx, by simpa using h⟩
theorem within_any (lo hi : Int) (v : Value) (L : List Int) (w : World) (hv : RI w v L) (hl : L.length ≤ 100) : Calls Try.prog 59 #[.int .i64 lo, .int .i64 hi, v] w fun e w' => e = .returned (.bool (allIn lo hi L)) ∧ w = w' := by
  obtain ⟨g, c, rfl, hi2⟩ := hv
  have HS := Kp.mk hi2
  obtain ⟨N, hN⟩ : ∃ N, L.length = N := ⟨_, rfl⟩
  have HN := Kp.mk hN
  have HNL : Kp (N ≤ 100) := ⟨hN ▸ hl⟩
  rw [hN]
  clear hi2 hN hl
  go_enter Try.func59, Try.ntmps59
  go_wp2
  go_loop [11] (fun i => ∃ k : Nat, k ≤ N ∧ i = .int .i64 k ∧ Kp (allIn lo hi (L.take k) = true)) (fun i => N - (intOf i).toNat)
  case atStart => exact ⟨0, Nat.zero_le _, rfl, ⟨rfl⟩⟩
  case round =>
    obtain ⟨k, hk, rfl, HA⟩ := hrel
    by_cases hlt : k < N
    · obtain ⟨x, hx⟩ : ∃ x, L[k]? = some x := ⟨_, List.getElem?_eq_getElem (by rw [HN.out]; exact hlt)⟩
      obtain ⟨b, hg, hc⟩ := HS.out k x hx
      subst hg
      have o1 : (k : Int) < (N : Int) := by omega
      have o4 : k ≤ 100 := by have := HNL.out; omega
      have HX := Kp.mk hx
      clear hx
      by_cases h1 : x < lo
      · have HF : Kp (allIn lo hi L = false) := ⟨allIn_no HX.out (by omega)⟩
        go_wp2
        go_ret
        exact ⟨ret_bool HF.out.symm, rfl⟩
      · by_cases h2 : hi < x
        · have HF : Kp (allIn lo hi L = false) := ⟨allIn_no HX.out (by omega)⟩
          go_wp2
          go_ret
          exact ⟨ret_bool HF.out.symm, rfl⟩
        · have HA2 : Kp (allIn lo hi (L.take (k + 1)) = true) := ⟨by rw [allIn_more HX.out, HA.out, decide_eq_true (by omega : lo ≤ x), decide_eq_true (by omega : x ≤ hi)]; rfl⟩
          go_wp2
          go_round
          case rel => exact ⟨k + 1, by omega, by go_num, HA2⟩
          case measure => simp [intOf]; omega
    · have HF : Kp (allIn lo hi L = true) := ⟨by have := HA.out; rwa [List.take_of_length_le (by have := HN.out; omega)] at this⟩
      have o1 : ¬ (k : Int) < (N : Int) := by omega
      go_wp2
      go_ret
      exact ⟨ret_bool HF.out.symm, rfl⟩
theorem ri_new1 (w : World) (x : Int) (t : TypeId) : RI (w.alloc (.cells #[.int .i64 x] t)) (.slice (some ⟨w.heap.size, 0, none⟩) 1 1) [x] := by
  refine ⟨_, 1, rfl, fun i y hy => ⟨_, rfl, ?_⟩⟩
  match i with
  | 0 => simp at hy; subst hy; go_simp
  | i + 1 => simp at hy
theorem ri_new2 (w : World) (x y : Int) (t : TypeId) : RI (w.alloc (.cells #[.int .i64 x, .int .i64 y] t)) (.slice (some ⟨w.heap.size, 0, none⟩) 2 2) [x, y] := by
  refine ⟨_, 2, rfl, fun i z hz => ⟨_, rfl, ?_⟩⟩
  match i with
  | 0 => simp at hz; subst hz; go_simp
  | 1 => simp at hz; subst hz; go_simp
  | i + 2 => simp at hz
theorem ri_new3 (w : World) (x y z : Int) (t : TypeId) : RI (w.alloc (.cells #[.int .i64 x, .int .i64 y, .int .i64 z] t)) (.slice (some ⟨w.heap.size, 0, none⟩) 3 3) [x, y, z] := by
  refine ⟨_, 3, rfl, fun i u hu => ⟨_, rfl, ?_⟩⟩
  match i with
  | 0 => simp at hu; subst hu; go_simp
  | 1 => simp at hu; subst hu; go_simp
  | 2 => simp at hu; subst hu; go_simp
  | i + 3 => simp at hu
theorem areDays_any (v : Value) (L : List Int) (w : World) (hv : RI w v L) (hl : L.length ≤ 100) : Calls Try.prog 53 #[v] w fun e w' => e = .returned (.bool (allIn 0 100000 L)) ∧ w = w' := by
  have HW : Kp (Calls Try.prog 59 #[.int .i64 0, .int .i64 100000, v] w fun e w' => e = .returned (.bool (allIn 0 100000 L)) ∧ w = w') := ⟨within_any 0 100000 v L w hv hl⟩
  obtain ⟨g, c, rfl, -⟩ := hv
  obtain ⟨N, hN⟩ : ∃ N, L.length = N := ⟨_, rfl⟩
  obtain ⟨R, hR⟩ : ∃ R, allIn 0 100000 L = R := ⟨_, rfl⟩
  rw [hR, hN] at HW
  rw [hR, hN]
  clear hN hR hl
  go_enter Try.func53, Try.ntmps53
  go_wp2_with fail
  refine HW.out.mono ?_
  rintro en w1 ⟨rfl, rfl⟩
  go_wp2
  go_ret
  exact ⟨rfl, rfl⟩
/-- What the walks of Name end in. -/
def NamePost (s : ByteArray) (w : World) (e : Ending) (w' : World) : Prop := e = .returned (.bool (nameB s)) ∧ Below w.heap.size w w'
theorem namePost_no {s : ByteArray} {w w' : World} {e : Ending} (h : nameB s = false) (he : e = .returned (.bool false)) (hb : Below w.heap.size w w') : NamePost s w e w' := ⟨by rw [he, h], hb⟩
theorem namePost_yes {s : ByteArray} {w w' : World} {e : Ending} (h : nameB s = true) (he : e = .returned (.bool true)) (hb : Below w.heap.size w w') : NamePost s w e w' := ⟨by rw [he, h], hb⟩
set_option maxHeartbeats 2000000 in
theorem Name_any (s : ByteArray) (w : World) (_hs : s.size ≤ maxLen) : Calls Try.prog 19 #[.string s] w (NamePost s w) := by
  unfold maxLen at _hs
  have HW : Kp (∀ W v, RI W v [(s.size : Int)] → Calls Try.prog 59 #[.int .i64 1, .int .i64 30, v] W fun e w' => e = .returned (.bool (allIn 1 30 [(s.size : Int)])) ∧ W = w') := ⟨fun W v hv => within_any 1 30 v _ W hv (by simp)⟩
  by_cases hl : 1 ≤ s.size ∧ s.size ≤ 30
  · rw [show allIn 1 30 [(s.size : Int)] = true by simp [allIn]; omega] at HW
    have HL := Kp.mk hl
    clear hl
    go_enter Try.func19, Try.ntmps19
    go_wp2_with fail
    refine (HW.out _ _ (ri_new1 _ _ _)).mono ?_
    rintro en w0 ⟨rfl, rfl⟩
    obtain ⟨W1, hW1⟩ : ∃ W1, w.alloc (.cells #[.int .i64 (s.size : Int)] 3) = W1 := ⟨_, rfl⟩
    have hb1 : Below w.heap.size w W1 := by rw [← hW1]; exact by repeat (first | exact Below.refl _ _ | refine Below.alloc ?_ (by simp <;> omega) _ | refine bDrewN ?_ _ | refine Below.drew ?_)
    have HB1 := Kp.mk hb1
    rw [hW1]
    clear hb1 hW1 HW
    go_wp2
    go_loopw [] (fun wr => ∃ pos : Nat, pos ≤ s.size ∧ wr = W1.iter s pos ∧ Kp ((s.data.toList.take pos).all isN = true)) (fun wr => s.size - wr.iterPos W1.heap.size)
    case atStart => exact ⟨0, by omega, rfl, ⟨rfl⟩⟩
    case round =>
      obtain ⟨pos, hp6, rfl, HA⟩ := hrel
      have HBEL : Kp (∀ k, Below w.heap.size w (W1.iter s k)) := ⟨fun k => HB1.out.alloc HB1.out.size (.stringIter s k)⟩
      by_cases hq : pos < s.size
      · have hnx0 := run_next_any (P := Try.prog) W1 s pos
        have hb8 : s.data.toList.take (pos + 1) = s.data.toList.take pos ++ [s[pos]] := by
          rw [List.take_succ_eq_append_getElem (by simpa using hq)]; rfl
        have HB := Kp.mk hb8
        clear hb8
        by_cases hwd : isN s[pos] = true
        · have hc : 97 ≤ s[pos].toNat ∧ s[pos].toNat ≤ 122 ∨ 48 ≤ s[pos].toNat ∧ s[pos].toNat ≤ 57 ∨ s[pos].toNat = 45 := by simpa [isN] using hwd
          have hdec : Utf8.decode s pos = (s[pos].toNat, 1) := decode_ascii s pos hq (by omega)
          rw [hdec] at hnx0
          obtain ⟨c, hc2⟩ : ∃ c, s[pos].toNat = c := ⟨_, rfl⟩
          rw [hc2] at hnx0 hc
          have HD : Kp ((s.data.toList.take (pos + 1)).all isN = true) := ⟨by rw [HB.out, List.all_append, HA.out]; simp [hwd]⟩
          have hnx : ∀ ty, (Instr.next (.pointer (some ⟨W1.heap.size, 0, none⟩)) true ty).run Try.prog (W1.iter s pos) = .ok (.tuple #[.bool true, .int .i64 pos, .int .i32 c]) (W1.iter s (pos + 1)) := fun ty => hnx0 ty hq
          clear hnx0 hdec hc2 hwd
          rcases hc with ⟨hc1, hc2⟩ | ⟨hc1, hc2⟩ | hc1
          · have t1 : ¬ (c : Int) < 97 := by omega
            have t2 : ¬ (122 : Int) < (c : Int) := by omega
            go_wp2
            go_roundw
            case rel => exact ⟨pos + 1, by omega, rfl, HD⟩
            case measure => simp; omega
          · have t1 : (c : Int) < 97 := by omega
            have t3 : ¬ (c : Int) < 48 := by omega
            have t4 : ¬ (57 : Int) < (c : Int) := by omega
            go_wp2
            go_roundw
            case rel => exact ⟨pos + 1, by omega, rfl, HD⟩
            case measure => simp; omega
          · have t1 : (c : Int) < 97 := by omega
            have t3 : (c : Int) < 48 := by omega
            have t5 : ((c : Int) != 45) = false := by simp; omega
            clear hc1
            go_wp2
            go_roundw
            case rel => exact ⟨pos + 1, by omega, rfl, HD⟩
            case measure => simp; omega
        · have hw : nameB s = false := nameL_bad (p := pos) (by simpa using hq) (by rw [show s.data.toList[pos]'(by simpa using hq) = s[pos] from rfl]; exact Bool.eq_false_iff.2 hwd)
          have HW := Kp.mk hw
          clear hw
          have hcn : ¬ (97 ≤ s[pos].toNat ∧ s[pos].toNat ≤ 122 ∨ 48 ≤ s[pos].toNat ∧ s[pos].toNat ≤ 57 ∨ s[pos].toNat = 45) := by simpa [isN] using hwd
          obtain ⟨c, k, hdec, hc⟩ : ∃ c k, Utf8.decode s pos = (c, k) ∧ ¬ (97 ≤ c ∧ c ≤ 122 ∨ 48 ≤ c ∧ c ≤ 57 ∨ c = 45) := by
            by_cases ha : s[pos].toNat < 128
            · exact ⟨_, _, decode_ascii s pos hq ha, hcn⟩
            · have := decode_high s pos hq (by omega)
              exact ⟨(Utf8.decode s pos).1, (Utf8.decode s pos).2, rfl, by omega⟩
          rw [hdec] at hnx0
          have hnx : ∀ ty, (Instr.next (.pointer (some ⟨W1.heap.size, 0, none⟩)) true ty).run Try.prog (W1.iter s pos) = .ok (.tuple #[.bool true, .int .i64 pos, .int .i32 c]) (W1.iter s (pos + k)) := fun ty => hnx0 ty hq
          have t5 : ((c : Int) != 45) = true := by simp; omega
          clear hnx0 hdec hwd hcn
          have hk := rune_kind c
          rcases hk with hk | hk | hk | hk | hk | hk | hk
          · have t1 : (c : Int) < 97 := by omega
            have t3 : (c : Int) < 48 := by omega
            clear hc
            go_wp2
            go_ret
            exact namePost_no HW.out rfl (HBEL.out _)
          · exact absurd (Or.inr (Or.inr hk)) hc
          · have t1 : (c : Int) < 97 := by omega
            have t3 : (c : Int) < 48 := by omega
            clear hc hk
            go_wp2
            go_ret
            exact namePost_no HW.out rfl (HBEL.out _)
          · exact absurd (Or.inr (Or.inl hk)) hc
          · have t1 : (c : Int) < 97 := by omega
            have t3 : ¬ (c : Int) < 48 := by omega
            have t4 : (57 : Int) < (c : Int) := by omega
            clear hc hk
            go_wp2
            go_ret
            exact namePost_no HW.out rfl (HBEL.out _)
          · exact absurd (Or.inl hk) hc
          · have t1 : ¬ (c : Int) < 97 := by omega
            have t2 : (122 : Int) < (c : Int) := by omega
            have t3 : ¬ (c : Int) < 48 := by omega
            have t4 : (57 : Int) < (c : Int) := by omega
            clear hc hk
            go_wp2
            go_ret
            exact namePost_no HW.out rfl (HBEL.out _)
      · have hnx : ∀ ty, (Instr.next (.pointer (some ⟨W1.heap.size, 0, none⟩)) true ty).run Try.prog (W1.iter s pos) = _ := fun ty => run_next_end W1 s pos ty hq
        have hall2 : s.data.toList.all isN = true := by
          have := HA.out
          rwa [List.take_of_length_le (by simp; omega)] at this
        have hw : nameB s = true := nameL_yes (by simpa using HL.out.1) (by simpa using HL.out.2) hall2
        have HW := Kp.mk hw
        clear hw hall2
        go_wp2
        go_ret
        exact namePost_yes HW.out rfl (HBEL.out _)
  · have HF : Kp (nameB s = false) := ⟨nameL_len (by simpa using hl)⟩
    rw [show allIn 1 30 [(s.size : Int)] = false by simp [allIn]; omega] at HW
    clear hl
    go_enter Try.func19, Try.ntmps19
    go_wp2_with fail
    refine (HW.out _ _ (ri_new1 _ _ _)).mono ?_
    rintro en w0 ⟨rfl, rfl⟩
    go_wp2
    go_ret
    exact namePost_no HF.out rfl (by repeat (first | exact Below.refl _ _ | refine Below.alloc ?_ (by simp <;> omega) _ | refine bDrewN ?_ _ | refine Below.drew ?_))
set_option maxHeartbeats 2000000 in
theorem rName_any (s : ByteArray) (w : World) (_hs : s.size ≤ maxLen) : Calls Try.prog 20 #[.string s] w fun e w' => e = .returned (.bool (nameB s)) ∧ w = w' := by
  unfold maxLen at _hs
  obtain ⟨V, hV⟩ : ∃ V, nameB s = V := ⟨_, rfl⟩
  have HV := Kp.mk hV
  rw [hV]
  clear hV
  go_enter Try.func20, Try.ntmps20
  go_wp2
  go_loop [7] (fun i => ∃ pos : Nat, pos ≤ s.size ∧ i = .int .i64 (pos : Int) ∧ Kp ((s.data.toList.take pos).all isN = true)) (fun i => s.size - (intOf i).toNat)
  case atStart => exact ⟨0, by omega, rfl, ⟨rfl⟩⟩
  case round =>
    obtain ⟨pos, hp6, rfl, HA⟩ := hrel
    by_cases hq : pos < s.size
    · have hb8 : s.data.toList.take (pos + 1) = s.data.toList.take pos ++ [s[pos]] := by
        rw [List.take_succ_eq_append_getElem (by simpa using hq)]; rfl
      have HB := Kp.mk hb8
      have o1 : (pos : Int) < (s.size : Int) := by omega
      clear hb8
      by_cases hwd : isN s[pos] = true
      · have hc : 97 ≤ s[pos].toNat ∧ s[pos].toNat ≤ 122 ∨ 48 ≤ s[pos].toNat ∧ s[pos].toNat ≤ 57 ∨ s[pos].toNat = 45 := by simpa [isN] using hwd
        have HD : Kp ((s.data.toList.take (pos + 1)).all isN = true) := ⟨by rw [HB.out, List.all_append, HA.out]; simp [hwd]⟩
        clear hwd
        rcases hc with ⟨hc1, hc2⟩ | ⟨hc1, hc2⟩ | hc1
        · have t1 : ¬ (s[pos].toNat : Int) < 97 := by omega
          have t2 : ¬ (122 : Int) < (s[pos].toNat : Int) := by omega
          go_wp2
          go_round
          case rel => exact ⟨pos + 1, by omega, by go_num, HD⟩
          case measure => simp [intOf]; omega
        · have t1 : (s[pos].toNat : Int) < 97 := by omega
          have t3 : ¬ (s[pos].toNat : Int) < 48 := by omega
          have t4 : ¬ (57 : Int) < (s[pos].toNat : Int) := by omega
          go_wp2
          go_round
          case rel => exact ⟨pos + 1, by omega, by go_num, HD⟩
          case measure => simp [intOf]; omega
        · have t1 : (s[pos].toNat : Int) < 97 := by omega
          have t3 : (s[pos].toNat : Int) < 48 := by omega
          have t5 : ((s[pos].toNat : Int) != 45) = false := by simp; omega
          clear hc1
          go_wp2
          go_round
          case rel => exact ⟨pos + 1, by omega, by go_num, HD⟩
          case measure => simp [intOf]; omega
      · have hw : nameB s = false := nameL_bad (p := pos) (by simpa using hq) (by rw [show s.data.toList[pos]'(by simpa using hq) = s[pos] from rfl]; exact Bool.eq_false_iff.2 hwd)
        have HF : Kp (V = false) := ⟨by rw [← HV.out]; exact hw⟩
        have hc : ¬ (97 ≤ s[pos].toNat ∧ s[pos].toNat ≤ 122 ∨ 48 ≤ s[pos].toNat ∧ s[pos].toNat ≤ 57 ∨ s[pos].toNat = 45) := by simpa [isN] using hwd
        have t5 : ((s[pos].toNat : Int) != 45) = true := by simp; omega
        clear hw hwd
        have hk := rune_kind s[pos].toNat
        rcases hk with hk | hk | hk | hk | hk | hk | hk
        · have t1 : (s[pos].toNat : Int) < 97 := by omega
          have t3 : (s[pos].toNat : Int) < 48 := by omega
          clear hc
          go_wp2
          go_ret
          exact ⟨ret_bool HF.out.symm, rfl⟩
        · exact absurd (Or.inr (Or.inr hk)) hc
        · have t1 : (s[pos].toNat : Int) < 97 := by omega
          have t3 : (s[pos].toNat : Int) < 48 := by omega
          clear hc hk
          go_wp2
          go_ret
          exact ⟨ret_bool HF.out.symm, rfl⟩
        · exact absurd (Or.inr (Or.inl hk)) hc
        · have t1 : (s[pos].toNat : Int) < 97 := by omega
          have t3 : ¬ (s[pos].toNat : Int) < 48 := by omega
          have t4 : (57 : Int) < (s[pos].toNat : Int) := by omega
          clear hc hk
          go_wp2
          go_ret
          exact ⟨ret_bool HF.out.symm, rfl⟩
        · exact absurd (Or.inl hk) hc
        · have t1 : ¬ (s[pos].toNat : Int) < 97 := by omega
          have t2 : (122 : Int) < (s[pos].toNat : Int) := by omega
          have t3 : ¬ (s[pos].toNat : Int) < 48 := by omega
          have t4 : (57 : Int) < (s[pos].toNat : Int) := by omega
          clear hc hk
          go_wp2
          go_ret
          exact ⟨ret_bool HF.out.symm, rfl⟩
    · have hall2 : s.data.toList.all isN = true := by
        have := HA.out
        rwa [List.take_of_length_le (by simp; omega)] at this
      have o1 : ¬ (pos : Int) < (s.size : Int) := by omega
      by_cases h1 : 1 ≤ s.size
      · by_cases h2 : s.size ≤ 30
        · have HF : Kp (V = true) := ⟨by rw [← HV.out]; exact nameL_yes (by simpa using h1) (by simpa using h2) hall2⟩
          have u1 : (1 : Int) ≤ (s.size : Int) := by omega
          have u2 : (s.size : Int) ≤ 30 := by omega
          clear hall2
          go_wp2
          go_ret
          exact ⟨ret_bool HF.out.symm, rfl⟩
        · have HF : Kp (V = false) := ⟨by rw [← HV.out]; exact nameL_len (by simpa using fun _ => by omega)⟩
          have u1 : (1 : Int) ≤ (s.size : Int) := by omega
          have u2 : ¬ (s.size : Int) ≤ 30 := by omega
          clear hall2
          go_wp2
          go_ret
          exact ⟨ret_bool HF.out.symm, rfl⟩
      · have HF : Kp (V = false) := ⟨by rw [← HV.out]; exact nameL_len (by simpa using fun _ => by omega)⟩
        have u1 : ¬ (1 : Int) ≤ (s.size : Int) := by omega
        clear hall2
        go_wp2
        go_ret
        exact ⟨ret_bool HF.out.symm, rfl⟩
end Go.Proofs.Ytaofjomocefdkaa.Ln
