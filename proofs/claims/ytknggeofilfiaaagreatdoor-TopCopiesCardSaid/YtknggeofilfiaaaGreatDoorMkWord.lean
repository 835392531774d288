/-
  WALKS of Word, the code's and the specification's, at every text.
-/
import Derived.Test.YtknggeofilfiaaaGreatDoorMkRefA
namespace Go.Proofs.YtknggeofilfiaaaGreatDoor.Mk
open Go Go.RowKit

/-- A small letter or a digit. -/
def isW (b : UInt8) : Bool := decide (97 ≤ b.toNat ∧ b.toNat ≤ 122 ∨ 48 ≤ b.toNat ∧ b.toNat ≤ 57)
/-- Is a text a word? -/
def wordL (l : List UInt8) : Bool := decide (1 ≤ l.length ∧ l.length ≤ 20) && l.all isW
theorem wordL_len {l : List UInt8} (h : ¬ (1 ≤ l.length ∧ l.length ≤ 20)) : wordL l = false := by
  unfold wordL
  rw [decide_eq_false h]
  rfl
theorem wordL_bad {l : List UInt8} {p : Nat} (hp : p < l.length) (h : isW l[p] = false) : wordL l = false := by
  have : l.all isW = false := by
    rw [List.all_eq_false]
    exact ⟨l[p], List.getElem_mem hp, by rw [h]; decide⟩
  unfold wordL
  rw [this, Bool.and_false]
theorem wordL_yes {l : List UInt8} (h1 : 1 ≤ l.length) (h2 : l.length ≤ 20) (h : l.all isW = true) : wordL l = true := by
  unfold wordL
  rw [h, decide_eq_true ⟨h1, h2⟩]
  rfl
/-- What the walks of Word end in. -/
def WordPost (l : List UInt8) (w : World) (e : Ending) (w' : World) : Prop := e = .returned (.bool (wordL l)) ∧ Below w.heap.size w w'
theorem wordPost_no {l : List UInt8} {w w' : World} {e : Ending} (h : wordL l = false) (he : e = .returned (.bool false)) (hb : Below w.heap.size w w') : WordPost l w e w' := ⟨by rw [he, h], hb⟩
theorem wordPost_yes {l : List UInt8} {w w' : World} {e : Ending} (h : wordL l = true) (he : e = .returned (.bool true)) (hb : Below w.heap.size w w') : WordPost l w e w' := ⟨by rw [he, h], hb⟩
/-- The five kinds of a rune, seen by the tests of Word. -/
theorem rune_kind (c : Nat) : c < 48 ∨ (48 ≤ c ∧ c ≤ 57) ∨ (57 < c ∧ c < 97) ∨ (97 ≤ c ∧ c ≤ 122) ∨ 122 < c := by omega

theorem Word_empty (s : ByteArray) (w : World) (h : s.size = 0) :
    Calls Tryz.prog 22 #[.string s] w (WordPost s.data.toList w) := by
  have hw : wordL s.data.toList = false := wordL_len (by simp; omega)
  obtain rfl : s = ⟨#[]⟩ := by
    apply ByteArray.ext
    apply Array.ext'
    have : s.data.toList.length = 0 := by simpa using h
    rw [List.eq_nil_of_length_eq_zero this]
  have HW := Lib.hid hw
  clear hw h
  go_enter Tryz.func22, Tryz.ntmps22
  go_wp2
  go_ret
  exact wordPost_no HW.out rfl (Below.refl _ _)
theorem Word_long (s : ByteArray) (w : World) (_hs : s.size ≤ maxLen) (h : 20 < s.size) :
    Calls Tryz.prog 22 #[.string s] w (WordPost s.data.toList w) := by
  have hw : wordL s.data.toList = false := wordL_len (by simp; omega)
  have HW := Lib.hid hw
  clear hw
  unfold maxLen at _hs
  have he : s.toList.isEmpty = false := by
    rw [Lib.toList_data]
    cases hl : s.data.toList with
    | nil => exact absurd (by simpa using congrArg List.length hl) (by omega : ¬ s.size = 0)
    | cons a l => rfl
  go_enter Tryz.func22, Tryz.ntmps22
  go_wp2
  go_ret
  exact wordPost_no HW.out rfl (Below.refl _ _)
set_option maxHeartbeats 400000 in
theorem Word_main (s : ByteArray) (w : World) (h1 : 1 ≤ s.size) (h2 : s.size ≤ 20) :
    Calls Tryz.prog 22 #[.string s] w (WordPost s.data.toList w) := by
  have he : s.toList.isEmpty = false := by
    rw [Lib.toList_data]
    cases hl : s.data.toList with
    | nil => exact absurd (by simpa using congrArg List.length hl) (by omega : ¬ s.size = 0)
    | cons a l => rfl
  go_enter Tryz.func22, Tryz.ntmps22
  go_wp2
  go_loopw [] (fun wr => ∃ pos : Nat, pos ≤ s.size ∧ wr = w.iter s pos ∧ (s.data.toList.take pos).all isW = true) (fun wr => s.size - wr.iterPos w.heap.size)
  case atStart => exact ⟨0, by omega, rfl, rfl⟩
  case round =>
    obtain ⟨pos, hp6, rfl, hall⟩ := hrel
    have HBEL := Lib.hid (fun k => ((Below.refl w.heap.size w).alloc (Nat.le_refl _) (.stringIter s k) : Below w.heap.size w (w.iter s k)))
    have HA := Lib.hid hall
    clear hall
    by_cases hq : pos < s.size
    · have hnx0 := run_next_any (P := Tryz.prog) w s pos
      have hb8 : s.data.toList.take (pos + 1) = s.data.toList.take pos ++ [s[pos]] := by
        rw [List.take_succ_eq_append_getElem (by simpa using hq)]; rfl
      have HB := Lib.hid hb8
      clear hb8
      by_cases hwd : isW s[pos] = true
      · have hc : 97 ≤ s[pos].toNat ∧ s[pos].toNat ≤ 122 ∨ 48 ≤ s[pos].toNat ∧ s[pos].toNat ≤ 57 := by simpa [isW] using hwd
        have hdec : Utf8.decode s pos = (s[pos].toNat, 1) := decode_ascii s pos hq (by omega)
        rw [hdec] at hnx0
        obtain ⟨c, hc2⟩ : ∃ c, s[pos].toNat = c := ⟨_, rfl⟩
        rw [hc2] at hnx0 hc
        have HD := Lib.hid hwd
        have hnx : ∀ ty, (Instr.next (.pointer (some ⟨w.heap.size, 0, none⟩)) true ty).run Tryz.prog (w.iter s pos) = .ok (.tuple #[.bool true, .int .i64 pos, .int .i32 c]) (w.iter s (pos + 1)) := fun ty => hnx0 ty hq
        clear hnx0 hdec hc2 hwd
        rcases hc with ⟨hc1, hc2⟩ | ⟨hc1, hc2⟩
        · have t1 : ¬ (c : Int) < 97 := by omega
          have t2 : ¬ (122 : Int) < (c : Int) := by omega
          go_wp2
          go_roundw
          case rel => exact ⟨pos + 1, by omega, rfl, by rw [HB.out, List.all_append, HA.out]; simp [HD.out]⟩
          case measure => simp; omega
        · have t1 : (c : Int) < 97 := by omega
          have t3 : ¬ (c : Int) < 48 := by omega
          have t4 : ¬ (57 : Int) < (c : Int) := by omega
          go_wp2
          go_roundw
          case rel => exact ⟨pos + 1, by omega, rfl, by rw [HB.out, List.all_append, HA.out]; simp [HD.out]⟩
          case measure => simp; omega
      · have hw : wordL s.data.toList = false := wordL_bad (p := pos) (by simpa using hq) (by rw [show s.data.toList[pos]'(by simpa using hq) = s[pos] from rfl]; exact Bool.eq_false_iff.2 hwd)
        have HW := Lib.hid hw
        clear hw
        have hcn : ¬ (97 ≤ s[pos].toNat ∧ s[pos].toNat ≤ 122 ∨ 48 ≤ s[pos].toNat ∧ s[pos].toNat ≤ 57) := by simpa [isW] using hwd
        obtain ⟨c, k, hdec, hc⟩ : ∃ c k, Utf8.decode s pos = (c, k) ∧ ¬ (97 ≤ c ∧ c ≤ 122 ∨ 48 ≤ c ∧ c ≤ 57) := by
          by_cases ha : s[pos].toNat < 128
          · exact ⟨_, _, decode_ascii s pos hq ha, hcn⟩
          · have := decode_high s pos hq (by omega)
            exact ⟨(Utf8.decode s pos).1, (Utf8.decode s pos).2, rfl, by omega⟩
        rw [hdec] at hnx0
        have hnx : ∀ ty, (Instr.next (.pointer (some ⟨w.heap.size, 0, none⟩)) true ty).run Tryz.prog (w.iter s pos) = .ok (.tuple #[.bool true, .int .i64 pos, .int .i32 c]) (w.iter s (pos + k)) := fun ty => hnx0 ty hq
        clear hnx0 hdec hwd hcn
        have hk := rune_kind c
        rcases hk with hk | hk | hk | hk | hk
        · have t1 : (c : Int) < 97 := by omega
          have t3 : (c : Int) < 48 := by omega
          clear hc
          go_wp2
          go_ret
          exact wordPost_no HW.out rfl (HBEL.out _)
        · exact absurd (Or.inr hk) hc
        · have t1 : (c : Int) < 97 := by omega
          have t3 : ¬ (c : Int) < 48 := by omega
          have t4 : (57 : Int) < (c : Int) := by omega
          clear hc hk
          go_wp2
          go_ret
          exact wordPost_no HW.out rfl (HBEL.out _)
        · exact absurd (Or.inl hk) hc
        · have t1 : ¬ (c : Int) < 97 := by omega
          have t2 : (122 : Int) < (c : Int) := by omega
          have t3 : ¬ (c : Int) < 48 := by omega
          have t4 : (57 : Int) < (c : Int) := by omega
          clear hc hk
          go_wp2
          go_ret
          exact wordPost_no HW.out rfl (HBEL.out _)
    · have hnx : ∀ ty, (Instr.next (.pointer (some ⟨w.heap.size, 0, none⟩)) true ty).run Tryz.prog (w.iter s pos) = _ := fun ty => run_next_end w s pos ty hq
      have hall2 : s.data.toList.all isW = true := by
        have := HA.out
        rwa [List.take_of_length_le (by simp; omega)] at this
      have hw : wordL s.data.toList = true := wordL_yes (by simpa using h1) (by simpa using h2) hall2
      have HW := Lib.hid hw
      clear hw hall2
      go_wp2
      go_ret
      exact wordPost_yes HW.out rfl (HBEL.out _)
theorem Word_any (s : ByteArray) (w : World) (hs : s.size ≤ maxLen) : Calls Tryz.prog 22 #[.string s] w (WordPost s.data.toList w) := by
  by_cases h0 : s.size = 0
  · exact Word_empty s w h0
  · by_cases h1 : 20 < s.size
    · exact Word_long s w hs h1
    · exact Word_main s w (by omega) (by omega)

/-! ### The specification's Word -/
end Go.Proofs.YtknggeofilfiaaaGreatDoor.Mk
