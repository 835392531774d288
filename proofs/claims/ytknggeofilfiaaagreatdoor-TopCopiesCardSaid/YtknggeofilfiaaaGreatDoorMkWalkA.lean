/-
  WALKS (layer 1, marks of numbers), first part: the functions that call nothing of the library but strings.IndexByte.
-/
import Derived.Test.YtknggeofilfiaaaGreatDoorProg
import Derived.Test.YtknggeofilfiaaaGreatDoorShelf
import Derived.Test.YtknggeofilfiaaaGreatDoorMkPlain
import Derived.WalkKit
import Derived.WalkSpells
import Derived.WalkLawsBesides
import Derived.Lib.Hide
import Derived.Lib.OthersKept
import Derived.Deep.QuietTactic
import Derived.BigQuiet
namespace Go.Proofs.YtknggeofilfiaaaGreatDoor.Mk
open Go Go.RowKit

theorem inRange_yes (n : Int) (w : World) (h0 : 0 ≤ n) (h1 : n ≤ 999999) :
    Calls Tryz.prog 40 #[.int .i64 n] w fun e w' => e = .returned (.bool true) ∧ w = w' := by
  go_enter Tryz.func40, Tryz.ntmps40
  go_wp2
  go_ret
  exact ⟨rfl, rfl⟩
theorem inRange_no (n : Int) (w : World) (h : n < 0 ∨ 999999 < n) :
    Calls Tryz.prog 40 #[.int .i64 n] w fun e w' => e = .returned (.bool false) ∧ w = w' := by
  rcases h with h | h
  · have hd : ¬ 0 ≤ n := by omega
    go_enter Tryz.func40, Tryz.ntmps40
    go_wp2
    go_ret
    exact ⟨rfl, rfl⟩
  · have hd : 0 ≤ n := by omega
    have hd2 : ¬ n ≤ 999999 := by omega
    go_enter Tryz.func40, Tryz.ntmps40
    go_wp2
    go_ret
    exact ⟨rfl, rfl⟩

/-! ### read -/
theorem form_len {l : List UInt8} (h : l.length ≠ 8) : form l = false := by simp [form, h]
theorem form_dash {l : List UInt8} (h : l.getD 6 0 ≠ 45) : form l = false := by
  unfold form
  rw [show (l.getD 6 0 == 45) = false from by rw [beq_eq_false_iff_ne]; exact h]
  simp
theorem form_dig {l : List UInt8} {p : Nat} (h8 : l.length = 8) (hp : p < 6) (h : isDig (l[p]'(by omega)) = false) : form l = false := by
  have : (l.take 6).all isDig = false := by
    rw [List.all_eq_false]
    refine ⟨l[p]'(by omega), ?_, by rw [h]; decide⟩
    rw [List.mem_iff_getElem]
    exact ⟨p, by simp; omega, by simp⟩
  unfold form
  rw [this]
  simp
theorem form_sign {l : List UInt8} (h : idx (l.getD 7 0) < 0) : form l = false := by
  unfold form
  rw [show decide (0 ≤ idx (l.getD 7 0)) = false from by rw [decide_eq_false_iff_not]; omega]
  simp
theorem form_yes {l : List UInt8} (h8 : l.length = 8) (h6 : l.getD 6 0 = 45) (hd : (l.take 6).all isDig = true) (hs : 0 ≤ idx (l.getD 7 0)) : form l = true := by
  unfold form
  rw [hd, h6, decide_eq_true hs]
  simp [h8]

theorem index_signs (b : UInt8) (w : World) :
    Calls Tryz.prog 43 #[.string ⟨#[48, 49, 50, 51, 52, 53, 54, 55, 56, 57, 88]⟩, .int .u8 b.toNat] w fun e w' => e = .returned (.int .i64 (idx b)) ∧ w = w' :=
  (Tryz.strings_IndexByte ⟨#[48, 49, 50, 51, 52, 53, 54, 55, 56, 57, 88]⟩ (b.toNat : Int) w).mono fun e w' ⟨he, hw⟩ => by
    refine ⟨?_, hw.symm⟩
    rw [he, Int.toNat_natCast]
    unfold idx signs
    rw [show b.toNat.toUInt8 = b from UInt8.ofNat_toNat]

def ReadPost (l : List UInt8) (w : World) (e : Ending) (w' : World) : Prop :=
  e = .returned (.tuple #[.int .i64 (numOf l : Nat), .int .i64 (signOf l : Nat), .bool (form l)]) ∧ Below w.heap.size w w'
theorem readPost_no {l : List UInt8} {w w' : World} {e : Ending} (h : form l = false) (he : e = .returned (.tuple #[.int .i64 0, .int .i64 0, .bool false])) (hb : Below w.heap.size w w') : ReadPost l w e w' := by
  refine ⟨?_, hb⟩
  rw [he]
  simp [numOf, signOf, h]
theorem readPost_yes {l : List UInt8} {w w' : World} {e : Ending} (h : form l = true) (he : e = .returned (.tuple #[.int .i64 (dval (l.take 6) : Nat), .int .i64 (idx (l.getD 7 0)), .bool true])) (hb : Below w.heap.size w w') : ReadPost l w e w' := by
  refine ⟨?_, hb⟩
  have hs : 0 ≤ idx (l.getD 7 0) := by
    simp only [form, Bool.and_eq_true, decide_eq_true_eq] at h
    exact h.2
  rw [he]
  unfold numOf signOf
  rw [h, if_pos rfl, if_pos rfl, Int.toNat_of_nonneg hs]

theorem read_len (s : ByteArray) (w : World) (_hs : s.size ≤ maxLen) (h : s.size ≠ 8) :
    Calls Tryz.prog 25 #[.string s] w (ReadPost s.data.toList w) := by
  have hf : form s.data.toList = false := form_len (by simpa using h)
  unfold maxLen at _hs
  have hd : ((s.size : Int) != 8) = true := by rw [bne_iff_ne]; omega
  have hd' : ((s.size : Int) == 8) = false := by rw [beq_eq_false_iff_ne]; omega
  have HF := Lib.hid hf
  clear hf
  go_enter Tryz.func25, Tryz.ntmps25
  go_wp2
  go_ret3
  exact readPost_no HF.out rfl (Below.refl _ _)
theorem getD_of (s : ByteArray) (k : Nat) (h : k < s.size) : s.data.toList.getD k 0 = s[k] := by
  rw [List.getD_eq_getElem?_getD, List.getElem?_eq_getElem (by simpa using h)]; rfl
theorem read_dash (s : ByteArray) (w : World) (h8 : s.size = 8) (hl : 6 < s.size) (h : s[6] ≠ 45) :
    Calls Tryz.prog 25 #[.string s] w (ReadPost s.data.toList w) := by
  have hf : form s.data.toList = false := form_dash (by rw [getD_of s 6 hl]; exact h)
  have hd : ((s.size : Int) != 8) = false := by rw [h8]; rfl
  have hb : ((s[6].toNat : Int) != 45) = true := by
    rw [bne_iff_ne]; intro e; exact h (UInt8.toNat_inj.1 (by simpa using Int.ofNat.inj e))
  have HF := Lib.hid hf
  clear h8 h hf
  go_enter Tryz.func25, Tryz.ntmps25
  go_wp2
  go_ret3
  exact readPost_no HF.out rfl (Below.refl _ _)
theorem read_main (s : ByteArray) (w : World) (h8 : s.size = 8) (hl6 : 6 < s.size) (hl : 7 < s.size) (h : s[6]'hl6 = 45) :
    Calls Tryz.prog 25 #[.string s] w (ReadPost s.data.toList w) := by
  have hd : ((s.size : Int) != 8) = false := by rw [h8]; rfl
  have hb : (((s[6]'hl6).toNat : Int) != 45) = false := by rw [h]; rfl
  have h6 : s.data.toList.getD 6 0 = 45 := by rw [getD_of s 6 (by omega)]; exact h
  have h7 : s.data.toList.getD 7 0 = s[7]'hl := getD_of s 7 hl
  have HH := Lib.hid h8
  have H6 := Lib.hid h6
  have H7 := Lib.hid h7
  clear h8 h h6 h7
  have hx : (s.extract 0 6).size = 6 := by rw [ByteArray.size_extract]; omega
  have hy : (s.extract 0 6).data.toList = s.data.toList.take 6 := by rw [Lib.extract_data]; simp
  obtain ⟨t, ht⟩ : ∃ t, s.extract 0 6 = t := ⟨_, rfl⟩
  have HT := Lib.hid ht
  rw [ht] at hx hy
  clear ht
  have HX := Lib.hid hx
  have HY := Lib.hid hy
  clear hx hy
  go_enter Tryz.func25, Tryz.ntmps25
  go_wp2
  rw [HT.out]
  go_loopw [2] (fun n wr => ∃ pos : Nat, pos ≤ 6 ∧ wr = w.iter t pos ∧ (t.data.toList.take pos).all isDig = true ∧ n = .int .i64 (dval (t.data.toList.take pos))) (fun _ wr => 6 - wr.iterPos w.heap.size)
  case atStart => exact ⟨0, by omega, rfl, rfl, rfl⟩
  case round =>
    obtain ⟨pos, hp6, rfl, hall, rfl⟩ := hrel
    have hbel : ∀ k, Below w.heap.size w (w.iter t k) := fun k => (Below.refl _ w).alloc (Nat.le_refl _) _
    have HBEL := Lib.hid hbel
    clear hbel
    by_cases hp : pos < 6
    · have hq : pos < t.size := by have := HX.out; omega
      have hb8 : t.data.toList.take (pos + 1) = t.data.toList.take pos ++ [t[pos]] := by
        rw [List.take_succ_eq_append_getElem (by simpa using hq)]; rfl
      have hv : dval (t.data.toList.take pos) ≤ 99999 := dval_small _ hall (by simp; omega)
      obtain ⟨v, hv2⟩ : ∃ v, dval (t.data.toList.take pos) = v := ⟨_, rfl⟩
      rw [hv2] at hv ⊢
      have HV := Lib.hid hv2
      have HB := Lib.hid hb8
      have HA := Lib.hid hall
      clear hv2 hb8 hall
      have hnx0 := run_next_any (P := Tryz.prog) w t pos
      by_cases hdg : isDig t[pos] = true
      · have hdg2 : 48 ≤ t[pos].toNat ∧ t[pos].toNat ≤ 57 := by simpa [isDig] using hdg
        have hdec : Utf8.decode t pos = (t[pos].toNat, 1) := decode_ascii t pos hq (by omega)
        rw [hdec] at hnx0
        obtain ⟨c, hc⟩ : ∃ c, t[pos].toNat = c := ⟨_, rfl⟩
        have HD := Lib.hid hdg
        clear hdec hdg
        rw [hc] at hdg2 hnx0
        have HC := Lib.hid hc
        clear hc
        obtain ⟨hc1, hc2⟩ := hdg2
        have hnx : ∀ ty, (Instr.next (.pointer (some ⟨w.heap.size, 0, none⟩)) true ty).run Tryz.prog (w.iter t pos) = .ok (.tuple #[.bool true, .int .i64 pos, .int .i32 c]) (w.iter t (pos + 1)) := fun ty => hnx0 ty hq
        clear hnx0
        go_wp2
        go_roundw
        case rel =>
          refine ⟨pos + 1, by omega, rfl, ?_, ?_⟩
          · rw [HB.out, List.all_append, HA.out]; simp [HD.out]
          · rw [HB.out, dval_snoc, HV.out]; unfold step; rw [HC.out]; go_num
        case measure => simp; omega
      · have hdg2 : t[pos].toNat < 48 ∨ 57 < t[pos].toNat := by
          have : ¬ (48 ≤ t[pos].toNat ∧ t[pos].toNat ≤ 57) := by simpa [isDig] using hdg
          omega
        have hf : form s.data.toList = false := by
          have h8 := HH.out
          refine form_dig (p := pos) (by simpa using h8) hp ?_
          have e : s.data.toList[pos]'(by simp; omega) = t[pos] := by
            have e1 : t[pos] = t.data.toList[pos]'(by simpa using hq) := rfl
            rw [e1]
            simp only [HY.out, List.getElem_take]
          rw [e]
          simpa using hdg
        have HF := Lib.hid hf
        clear hf
        obtain ⟨c, k, hdec, hc⟩ : ∃ c k, Utf8.decode t pos = (c, k) ∧ (c < 48 ∨ 57 < c) := by
          by_cases ha : t[pos].toNat < 128
          · exact ⟨_, _, decode_ascii t pos hq ha, hdg2⟩
          · have := decode_high t pos hq (by omega)
            exact ⟨(Utf8.decode t pos).1, (Utf8.decode t pos).2, rfl, by omega⟩
        rw [hdec] at hnx0
        have hnx : ∀ ty, (Instr.next (.pointer (some ⟨w.heap.size, 0, none⟩)) true ty).run Tryz.prog (w.iter t pos) = .ok (.tuple #[.bool true, .int .i64 pos, .int .i32 c]) (w.iter t (pos + k)) := fun ty => hnx0 ty hq
        clear hnx0 hdec hdg hdg2
        rcases hc with hc | hc
        · go_wp2
          go_ret3
          exact readPost_no HF.out rfl (HBEL.out _)
        · have hc' : ¬ ((c : Int) < 48) := by omega
          go_wp2
          go_ret3
          exact readPost_no HF.out rfl (HBEL.out _)
    · have hnx : ∀ ty, (Instr.next (.pointer (some ⟨w.heap.size, 0, none⟩)) true ty).run Tryz.prog (w.iter t pos) = _ := fun ty => run_next_end w t pos ty (by have := HX.out; omega)
      have e6 : pos = 6 := by omega
      subst e6
      have hbd := idx_bd s[7]
      have e6 : List.take 6 t.data.toList = s.data.toList.take 6 := by rw [List.take_of_length_le (by have := HX.out; simp; omega)]; exact HY.out
      rw [e6] at hall ⊢
      have HA := Lib.hid hall
      clear e6 hall
      by_cases hneg : idx s[7] < 0
      · go_wp2_with (go_at_call 43; refine (index_signs _ _).mono ?_; rintro e w' ⟨rfl, rfl⟩)
        go_ret3
        exact readPost_no (form_sign (by rw [H7.out]; exact hneg)) rfl (HBEL.out _)
      · go_wp2_with (go_at_call 43; refine (index_signs _ _).mono ?_; rintro e w' ⟨rfl, rfl⟩)
        go_ret3
        exact readPost_yes (form_yes (by have := HH.out; simpa using this) H6.out HA.out (by rw [H7.out]; omega)) (by rw [H7.out]; rfl) (HBEL.out _)
theorem read_any (s : ByteArray) (w : World) (hs : s.size ≤ maxLen) :
    Calls Tryz.prog 25 #[.string s] w (ReadPost s.data.toList w) := by
  by_cases h8 : s.size = 8
  · by_cases h6 : s[6]'(by omega) = 45
    · exact read_main s w h8 (by omega) (by omega) h6
    · exact read_dash s w h8 (by omega) h6
  · exact read_len s w hs h8
end Go.Proofs.YtknggeofilfiaaaGreatDoor.Mk
