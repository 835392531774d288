/-
  THE WALKS of the law MarkChecks, one theorem for each way through its two tests.
-/
import Derived.Test.YtacghdfhafkcoaaDoorMkWalkB
import Derived.Test.YtacghdfhafkcoaaDoorMkPlainB
import Derived.RegionTactic
import Derived.BigRegion
import Derived.Laws.BytesArg
import Derived.IntWalk
namespace Go.Proofs.YtacghdfhafkcoaaDoor.Mk
open Go Go.RowKit

/-- A fact kept from the walk, by a structure: no unfolding reaches it. -/
structure Kp (p : Prop) : Prop where
  out : p
theorem conv_one (c : UInt8) (W : World) : (convert 33 9 (.slice (some ⟨W.heap.size, 0, none⟩) 1 1)).run Tryd.prog ((W.alloc (.cells #[.int .u8 c.toNat] 5)).drew) = .ok (.string ⟨#[c]⟩) ((W.alloc (.cells #[.int .u8 c.toNat] 5)).drew) := by
  have h := run_convert_bytes_arg (P := Tryd.prog) ((W.alloc (.cells #[.int .u8 c.toNat] 5)).drew) 33 5 Tryd.underlying33 Tryd.underlying5 W.heap.size 0 1 1 [(c.toNat : Int)] rfl
    (fun i hi => by
      obtain rfl : i = 0 := by omega
      simp [go_sem]) 9 Tryd.underlying9
  rw [h]
  simp [strOfNums]
theorem turned_any (T : ByteArray) (w : World) (hs : T.size ≤ maxLen) (ht : Tab w) (h : (number T.data.toList).2 ≠ 0) :
    Calls Tryd.prog 15 #[.string T] w fun e w' => ∃ k f : Nat, e = .returned (.tuple #[.int .i64 k, .int .i64 f]) ∧ ((f : Int) == 0) = false ∧ Below w.heap.size w w' :=
  (Number_any T w hs ht).mono fun _ _ ⟨he, hb⟩ => ⟨_, _, he, by rw [beq_eq_false_iff_ne]; omega, hb⟩
theorem swapped_any (T : ByteArray) (w : World) (hs : T.size ≤ maxLen) (ht : Tab w) (h : number T.data.toList = (0, 12)) :
    Calls Tryd.prog 15 #[.string T] w fun e w' => e = .returned (.tuple #[.int .i64 0, .int .i64 12]) ∧ Below w.heap.size w w' :=
  (Number_any T w hs ht).mono fun _ _ ⟨he, hb⟩ => ⟨by rw [he, h]; rfl, hb⟩
theorem whole_any (n : Nat) (w : World) (hn : n ≤ 999999) (ht : Tab w) :
    Calls Tryd.prog 15 #[.string ⟨(markL n).toArray⟩] w fun e w' => e = .returned (.tuple #[.int .i64 n, .int .i64 0]) ∧ Below w.heap.size w w' :=
  (Number_any ⟨(markL n).toArray⟩ w (by show 8 ≤ _; unfold maxLen; omega) ht).mono fun _ _ ⟨he, hb⟩ => ⟨by rw [he, show (⟨(markL n).toArray⟩ : ByteArray).data.toList = markL n from rfl, number_mark n hn]; rfl, hb⟩
def turn (S : ByteArray) (a : Nat) (c : UInt8) : ByteArray := S.extract 0 a ++ ⟨#[c]⟩ ++ S.extract (a + 1) S.size
def swap (S : ByteArray) (a : Nat) : ByteArray := S.extract 0 a ++ S.extract (a + 1) (a + 2) ++ S.extract a (a + 1) ++ S.extract (a + 2) S.size
theorem turn_size (S : ByteArray) (a : Nat) (c : UInt8) (h : a < S.size) : (turn S a c).size = S.size := by
  unfold turn
  simp only [ByteArray.size_append, ByteArray.size_extract]
  show min a S.size - 0 + 1 + _ = _
  omega
theorem swap_size (S : ByteArray) (a : Nat) (h : a + 1 < S.size) : (swap S a).size = S.size := by
  unfold swap
  simp only [ByteArray.size_append, ByteArray.size_extract]
  omega
theorem turn_le (S : ByteArray) (a : Nat) (c : UInt8) (h : a < S.size) (h8 : S.size = 8) : (turn S a c).size ≤ maxLen := by
  rw [turn_size S a c h, h8]; unfold maxLen; omega
theorem swap_le (S : ByteArray) (a : Nat) (h : a + 1 < S.size) (h8 : S.size = 8) : (swap S a).size ≤ maxLen := by
  rw [swap_size S a h, h8]; unfold maxLen; omega

theorem _root_.Go.RowKit.Below.drewN' {B : Nat} {a w : World} (h : Below B a w) (n : Nat) : Below B a (w.drewN n) := ⟨h.os, h.tape, h.output, h.size, h.block⟩
/-- What the walks end in. -/
def Ends (w : World) (e : Ending) (w' : World) : Prop := e = .returned (.bool true) ∧ Below w.heap.size w w'
theorem law_no (n a : Int) (c : Int) (w : World) (ht : Tab w) (h : n < 0 ∨ 999999 < n) :
    Calls Tryd.prog 4 #[.int .i64 n, .int .i64 a, .int .u8 c] w (Ends w) := by
  have HT := Lib.hid ht
  clear ht
  go_enter Tryd.func4, Tryd.ntmps4
  go_wp2_with fail
  refine (Mark_no _ _ h).mono ?_
  rintro e w1 ⟨rfl, rfl⟩
  go_wp2_with fail
  refine (awake_any _ HT.out).mono ?_
  rintro e w2 ⟨rfl, hb2⟩
  have HB := Lib.hid hb2
  clear hb2
  go_wp2
  go_ret
  exact ⟨rfl, HB.out⟩

set_option maxRecDepth 100000 in
theorem law_A1C (n a : Nat) (c : UInt8) (S : ByteArray) (w : World) (hn : n ≤ 999999) (ht : Tab w) (hS : S = ⟨(markL n).toArray⟩) (ha : a ≤ 7) (h8 : a < S.size) (hle : a ≤ S.size) (h8' : S.size ≤ 8)
    (h6 : ((a : Int) != 6) = false)
    (h5 : (a : Int) < 5) (h9 : a + 1 < S.size) (he : (((S[a]'h8).toNat : Int) != ((S[a + 1]'h9).toNat : Int)) = true) (HU : Kp (number (swap S a).data.toList = (0, 12))) :
    Calls Tryd.prog 4 #[.int .i64 n, .int .i64 a, .int .u8 c.toNat] w (Ends w) := by
  have hm := Mark_yes n w hn ht
  have hl : ((S.size : Int) != 8) = false := by subst hS; rfl
  have hn2 : ∀ w' : World, Below w.heap.size w w' → Calls Tryd.prog 15 #[.string S] w' fun e w'' => e = .returned (.tuple #[.int .i64 n, .int .i64 0]) ∧ Below w'.heap.size w' w'' := fun w' hb => by subst hS; exact whole_any n w' hn (ht.below hb)
  rw [← hS] at hm
  have hz8 : S.size = 8 := by subst hS; rfl
  have HM := Lib.hid hm
  have HN := Lib.hid hn2
  have HT := Lib.hid ht
  have HS := Lib.hid hz8
  clear hm hn2 hS ht hz8
  go_enter Tryd.func4, Tryd.ntmps4
  go_wp2_with fail
  refine HM.out.mono ?_
  rintro e w1 ⟨rfl, hb1⟩
  have HB1 := Lib.hid hb1
  clear hb1
  go_wp2_with fail
  refine (HN.out _ HB1.out).mono ?_
  rintro e w2 ⟨rfl, hb2⟩
  have HB2 := Lib.hid (HB1.out.trans (hb2.mono HB1.out.size))
  clear hb2 HN HM
  have HB3 := Lib.hid HB2.out
  go_wp2_with fail
  have o4 : (a : Int) + 1 < (S.size : Int) := by omega
  have o5 : (a : Int) + 2 ≤ (S.size : Int) := by omega
  have o6 : (0 : Int) ≤ (a : Int) + 1 := by omega
  have o7 : (0 : Int) ≤ (a : Int) + 2 := by omega
  have o8 : (a : Int) + 1 ≤ (a : Int) + 2 := by omega
  have o9 : (a : Int) ≤ (a : Int) + 1 := by omega
  have q1 : IntKind.i64.wrap ((a : Int) + 1) = (a : Int) + 1 := IntWalk.i64_in _ (by omega)
  have q2 : IntKind.i64.wrap ((a : Int) + 2) = (a : Int) + 2 := IntWalk.i64_in _ (by omega)
  have q3 : ((a : Int) + 1).toNat = a + 1 := by omega
  have q4 : ((a : Int) + 2).toNat = a + 2 := by omega
  go_quiet (fail)
  go_wp2_with fail
  go_quiet (fail)
  clear q1 q2
  go_wp2_with fail
  refine (swapped_any _ _ (by exact swap_le S a h9 HS.out) (by exact HT.out.below (HB3.out.drewN' _)) (by exact HU.out)).mono ?_
  rintro e w5 ⟨rfl, hb5⟩
  have HB5 := Lib.hid hb5
  clear hb5
  go_wp2_with fail
  refine (awake_any _ (HT.out.below ((HB3.out.drewN' _).trans (HB5.out.mono (HB3.out.drewN' _).size)))).mono ?_
  rintro e w6 ⟨rfl, hb6⟩
  have HB6 := Lib.hid hb6
  clear hb6
  go_wp2
  go_ret
  have hb7 := (HB3.out.drewN' _).trans (HB5.out.mono (HB3.out.drewN' _).size)
  exact ⟨rfl, hb7.trans (HB6.out.mono hb7.size)⟩

set_option maxRecDepth 100000 in
theorem law_A1D1 (n a : Nat) (c : UInt8) (S : ByteArray) (w : World) (hn : n ≤ 999999) (ht : Tab w) (hS : S = ⟨(markL n).toArray⟩) (ha : a ≤ 7) (h8 : a < S.size) (hle : a ≤ S.size) (h8' : S.size ≤ 8)
    (h6 : ((a : Int) != 6) = false)
    (h5 : decide ((a : Int) < 5) = false) :
    Calls Tryd.prog 4 #[.int .i64 n, .int .i64 a, .int .u8 c.toNat] w (Ends w) := by
  have hm := Mark_yes n w hn ht
  have hl : ((S.size : Int) != 8) = false := by subst hS; rfl
  have hn2 : ∀ w' : World, Below w.heap.size w w' → Calls Tryd.prog 15 #[.string S] w' fun e w'' => e = .returned (.tuple #[.int .i64 n, .int .i64 0]) ∧ Below w'.heap.size w' w'' := fun w' hb => by subst hS; exact whole_any n w' hn (ht.below hb)
  rw [← hS] at hm
  have hz8 : S.size = 8 := by subst hS; rfl
  have HM := Lib.hid hm
  have HN := Lib.hid hn2
  have HT := Lib.hid ht
  have HS := Lib.hid hz8
  clear hm hn2 hS ht hz8
  go_enter Tryd.func4, Tryd.ntmps4
  go_wp2_with fail
  refine HM.out.mono ?_
  rintro e w1 ⟨rfl, hb1⟩
  have HB1 := Lib.hid hb1
  clear hb1
  go_wp2_with fail
  refine (HN.out _ HB1.out).mono ?_
  rintro e w2 ⟨rfl, hb2⟩
  have HB2 := Lib.hid (HB1.out.trans (hb2.mono HB1.out.size))
  clear hb2 HN HM
  have HB3 := Lib.hid HB2.out
  go_wp2_with fail
  go_quiet (fail)
  go_wp2_with fail
  refine (awake_any _ (HT.out.below (HB3.out.drewN' _))).mono ?_
  rintro e w6 ⟨rfl, hb6⟩
  have HB6 := Lib.hid hb6
  clear hb6
  go_wp2
  go_ret
  exact ⟨rfl, (HB3.out.drewN' _).trans (HB6.out.mono (HB3.out.drewN' _).size)⟩

set_option maxRecDepth 100000 in
theorem law_A1D2 (n a : Nat) (c : UInt8) (S : ByteArray) (w : World) (hn : n ≤ 999999) (ht : Tab w) (hS : S = ⟨(markL n).toArray⟩) (ha : a ≤ 7) (h8 : a < S.size) (hle : a ≤ S.size) (h8' : S.size ≤ 8)
    (h6 : ((a : Int) != 6) = false)
    (h5 : (a : Int) < 5) (h9 : a + 1 < S.size) (he : (((S[a]'h8).toNat : Int) != ((S[a + 1]'h9).toNat : Int)) = false) :
    Calls Tryd.prog 4 #[.int .i64 n, .int .i64 a, .int .u8 c.toNat] w (Ends w) := by
  have hm := Mark_yes n w hn ht
  have hl : ((S.size : Int) != 8) = false := by subst hS; rfl
  have hn2 : ∀ w' : World, Below w.heap.size w w' → Calls Tryd.prog 15 #[.string S] w' fun e w'' => e = .returned (.tuple #[.int .i64 n, .int .i64 0]) ∧ Below w'.heap.size w' w'' := fun w' hb => by subst hS; exact whole_any n w' hn (ht.below hb)
  rw [← hS] at hm
  have hz8 : S.size = 8 := by subst hS; rfl
  have HM := Lib.hid hm
  have HN := Lib.hid hn2
  have HT := Lib.hid ht
  have HS := Lib.hid hz8
  clear hm hn2 hS ht hz8
  go_enter Tryd.func4, Tryd.ntmps4
  go_wp2_with fail
  refine HM.out.mono ?_
  rintro e w1 ⟨rfl, hb1⟩
  have HB1 := Lib.hid hb1
  clear hb1
  go_wp2_with fail
  refine (HN.out _ HB1.out).mono ?_
  rintro e w2 ⟨rfl, hb2⟩
  have HB2 := Lib.hid (HB1.out.trans (hb2.mono HB1.out.size))
  clear hb2 HN HM
  have HB3 := Lib.hid HB2.out
  go_wp2_with fail
  have o4 : (a : Int) + 1 < (S.size : Int) := by omega
  have o6 : (0 : Int) ≤ (a : Int) + 1 := by omega
  have q1 : IntKind.i64.wrap ((a : Int) + 1) = (a : Int) + 1 := IntWalk.i64_in _ (by omega)
  have q3 : ((a : Int) + 1).toNat = a + 1 := by omega
  go_quiet (fail)
  clear q1
  go_wp2_with fail
  refine (awake_any _ (HT.out.below (HB3.out.drewN' _))).mono ?_
  rintro e w6 ⟨rfl, hb6⟩
  have HB6 := Lib.hid hb6
  clear hb6
  go_wp2
  go_ret
  exact ⟨rfl, (HB3.out.drewN' _).trans (HB6.out.mono (HB3.out.drewN' _).size)⟩

set_option maxRecDepth 100000 in
theorem law_A2C (n a : Nat) (c : UInt8) (S : ByteArray) (w : World) (hn : n ≤ 999999) (ht : Tab w) (hS : S = ⟨(markL n).toArray⟩) (ha : a ≤ 7) (h8 : a < S.size) (hle : a ≤ S.size) (h8' : S.size ≤ 8)
    (h6 : ((a : Int) != 6) = true) (hc : ((c.toNat : Int) != ((S[a]'h8).toNat : Int)) = false)
    (h5 : (a : Int) < 5) (h9 : a + 1 < S.size) (he : (((S[a]'h8).toNat : Int) != ((S[a + 1]'h9).toNat : Int)) = true) (HU : Kp (number (swap S a).data.toList = (0, 12))) :
    Calls Tryd.prog 4 #[.int .i64 n, .int .i64 a, .int .u8 c.toNat] w (Ends w) := by
  have hm := Mark_yes n w hn ht
  have hl : ((S.size : Int) != 8) = false := by subst hS; rfl
  have hn2 : ∀ w' : World, Below w.heap.size w w' → Calls Tryd.prog 15 #[.string S] w' fun e w'' => e = .returned (.tuple #[.int .i64 n, .int .i64 0]) ∧ Below w'.heap.size w' w'' := fun w' hb => by subst hS; exact whole_any n w' hn (ht.below hb)
  rw [← hS] at hm
  have hz8 : S.size = 8 := by subst hS; rfl
  have HM := Lib.hid hm
  have HN := Lib.hid hn2
  have HT := Lib.hid ht
  have HS := Lib.hid hz8
  clear hm hn2 hS ht hz8
  go_enter Tryd.func4, Tryd.ntmps4
  go_wp2_with fail
  refine HM.out.mono ?_
  rintro e w1 ⟨rfl, hb1⟩
  have HB1 := Lib.hid hb1
  clear hb1
  go_wp2_with fail
  refine (HN.out _ HB1.out).mono ?_
  rintro e w2 ⟨rfl, hb2⟩
  have HB2 := Lib.hid (HB1.out.trans (hb2.mono HB1.out.size))
  clear hb2 HN HM
  have HB3 := Lib.hid HB2.out
  go_wp2_with fail
  have o4 : (a : Int) + 1 < (S.size : Int) := by omega
  have o5 : (a : Int) + 2 ≤ (S.size : Int) := by omega
  have o6 : (0 : Int) ≤ (a : Int) + 1 := by omega
  have o7 : (0 : Int) ≤ (a : Int) + 2 := by omega
  have o8 : (a : Int) + 1 ≤ (a : Int) + 2 := by omega
  have o9 : (a : Int) ≤ (a : Int) + 1 := by omega
  have q1 : IntKind.i64.wrap ((a : Int) + 1) = (a : Int) + 1 := IntWalk.i64_in _ (by omega)
  have q2 : IntKind.i64.wrap ((a : Int) + 2) = (a : Int) + 2 := IntWalk.i64_in _ (by omega)
  have q3 : ((a : Int) + 1).toNat = a + 1 := by omega
  have q4 : ((a : Int) + 2).toNat = a + 2 := by omega
  go_quiet (fail)
  go_wp2_with fail
  go_quiet (fail)
  clear q1 q2
  go_wp2_with fail
  refine (swapped_any _ _ (by exact swap_le S a h9 HS.out) (by exact HT.out.below (HB3.out.drewN' _)) (by exact HU.out)).mono ?_
  rintro e w5 ⟨rfl, hb5⟩
  have HB5 := Lib.hid hb5
  clear hb5
  go_wp2_with fail
  refine (awake_any _ (HT.out.below ((HB3.out.drewN' _).trans (HB5.out.mono (HB3.out.drewN' _).size)))).mono ?_
  rintro e w6 ⟨rfl, hb6⟩
  have HB6 := Lib.hid hb6
  clear hb6
  go_wp2
  go_ret
  have hb7 := (HB3.out.drewN' _).trans (HB5.out.mono (HB3.out.drewN' _).size)
  exact ⟨rfl, hb7.trans (HB6.out.mono hb7.size)⟩

set_option maxRecDepth 100000 in
theorem law_A2D1 (n a : Nat) (c : UInt8) (S : ByteArray) (w : World) (hn : n ≤ 999999) (ht : Tab w) (hS : S = ⟨(markL n).toArray⟩) (ha : a ≤ 7) (h8 : a < S.size) (hle : a ≤ S.size) (h8' : S.size ≤ 8)
    (h6 : ((a : Int) != 6) = true) (hc : ((c.toNat : Int) != ((S[a]'h8).toNat : Int)) = false)
    (h5 : decide ((a : Int) < 5) = false) :
    Calls Tryd.prog 4 #[.int .i64 n, .int .i64 a, .int .u8 c.toNat] w (Ends w) := by
  have hm := Mark_yes n w hn ht
  have hl : ((S.size : Int) != 8) = false := by subst hS; rfl
  have hn2 : ∀ w' : World, Below w.heap.size w w' → Calls Tryd.prog 15 #[.string S] w' fun e w'' => e = .returned (.tuple #[.int .i64 n, .int .i64 0]) ∧ Below w'.heap.size w' w'' := fun w' hb => by subst hS; exact whole_any n w' hn (ht.below hb)
  rw [← hS] at hm
  have hz8 : S.size = 8 := by subst hS; rfl
  have HM := Lib.hid hm
  have HN := Lib.hid hn2
  have HT := Lib.hid ht
  have HS := Lib.hid hz8
  clear hm hn2 hS ht hz8
  go_enter Tryd.func4, Tryd.ntmps4
  go_wp2_with fail
  refine HM.out.mono ?_
  rintro e w1 ⟨rfl, hb1⟩
  have HB1 := Lib.hid hb1
  clear hb1
  go_wp2_with fail
  refine (HN.out _ HB1.out).mono ?_
  rintro e w2 ⟨rfl, hb2⟩
  have HB2 := Lib.hid (HB1.out.trans (hb2.mono HB1.out.size))
  clear hb2 HN HM
  have HB3 := Lib.hid HB2.out
  go_wp2_with fail
  go_quiet (fail)
  go_wp2_with fail
  refine (awake_any _ (HT.out.below (HB3.out.drewN' _))).mono ?_
  rintro e w6 ⟨rfl, hb6⟩
  have HB6 := Lib.hid hb6
  clear hb6
  go_wp2
  go_ret
  exact ⟨rfl, (HB3.out.drewN' _).trans (HB6.out.mono (HB3.out.drewN' _).size)⟩

set_option maxRecDepth 100000 in
theorem law_A2D2 (n a : Nat) (c : UInt8) (S : ByteArray) (w : World) (hn : n ≤ 999999) (ht : Tab w) (hS : S = ⟨(markL n).toArray⟩) (ha : a ≤ 7) (h8 : a < S.size) (hle : a ≤ S.size) (h8' : S.size ≤ 8)
    (h6 : ((a : Int) != 6) = true) (hc : ((c.toNat : Int) != ((S[a]'h8).toNat : Int)) = false)
    (h5 : (a : Int) < 5) (h9 : a + 1 < S.size) (he : (((S[a]'h8).toNat : Int) != ((S[a + 1]'h9).toNat : Int)) = false) :
    Calls Tryd.prog 4 #[.int .i64 n, .int .i64 a, .int .u8 c.toNat] w (Ends w) := by
  have hm := Mark_yes n w hn ht
  have hl : ((S.size : Int) != 8) = false := by subst hS; rfl
  have hn2 : ∀ w' : World, Below w.heap.size w w' → Calls Tryd.prog 15 #[.string S] w' fun e w'' => e = .returned (.tuple #[.int .i64 n, .int .i64 0]) ∧ Below w'.heap.size w' w'' := fun w' hb => by subst hS; exact whole_any n w' hn (ht.below hb)
  rw [← hS] at hm
  have hz8 : S.size = 8 := by subst hS; rfl
  have HM := Lib.hid hm
  have HN := Lib.hid hn2
  have HT := Lib.hid ht
  have HS := Lib.hid hz8
  clear hm hn2 hS ht hz8
  go_enter Tryd.func4, Tryd.ntmps4
  go_wp2_with fail
  refine HM.out.mono ?_
  rintro e w1 ⟨rfl, hb1⟩
  have HB1 := Lib.hid hb1
  clear hb1
  go_wp2_with fail
  refine (HN.out _ HB1.out).mono ?_
  rintro e w2 ⟨rfl, hb2⟩
  have HB2 := Lib.hid (HB1.out.trans (hb2.mono HB1.out.size))
  clear hb2 HN HM
  have HB3 := Lib.hid HB2.out
  go_wp2_with fail
  have o4 : (a : Int) + 1 < (S.size : Int) := by omega
  have o6 : (0 : Int) ≤ (a : Int) + 1 := by omega
  have q1 : IntKind.i64.wrap ((a : Int) + 1) = (a : Int) + 1 := IntWalk.i64_in _ (by omega)
  have q3 : ((a : Int) + 1).toNat = a + 1 := by omega
  go_quiet (fail)
  clear q1
  go_wp2_with fail
  refine (awake_any _ (HT.out.below (HB3.out.drewN' _))).mono ?_
  rintro e w6 ⟨rfl, hb6⟩
  have HB6 := Lib.hid hb6
  clear hb6
  go_wp2
  go_ret
  exact ⟨rfl, (HB3.out.drewN' _).trans (HB6.out.mono (HB3.out.drewN' _).size)⟩

set_option maxRecDepth 100000 in
theorem law_BC (n a : Nat) (c : UInt8) (S : ByteArray) (w : World) (hn : n ≤ 999999) (ht : Tab w) (hS : S = ⟨(markL n).toArray⟩) (ha : a ≤ 7) (h8 : a < S.size) (hle : a ≤ S.size) (h8' : S.size ≤ 8)
    (h6 : ((a : Int) != 6) = true) (hc : ((c.toNat : Int) != ((S[a]'h8).toNat : Int)) = true) (HT2 : Kp ((number (turn S a c).data.toList).2 ≠ 0))
    (h5 : (a : Int) < 5) (h9 : a + 1 < S.size) (he : (((S[a]'h8).toNat : Int) != ((S[a + 1]'h9).toNat : Int)) = true) (HU : Kp (number (swap S a).data.toList = (0, 12))) :
    Calls Tryd.prog 4 #[.int .i64 n, .int .i64 a, .int .u8 c.toNat] w (Ends w) := by
  have hm := Mark_yes n w hn ht
  have hl : ((S.size : Int) != 8) = false := by subst hS; rfl
  have hn2 : ∀ w' : World, Below w.heap.size w w' → Calls Tryd.prog 15 #[.string S] w' fun e w'' => e = .returned (.tuple #[.int .i64 n, .int .i64 0]) ∧ Below w'.heap.size w' w'' := fun w' hb => by subst hS; exact whole_any n w' hn (ht.below hb)
  rw [← hS] at hm
  have hz8 : S.size = 8 := by subst hS; rfl
  have HM := Lib.hid hm
  have HN := Lib.hid hn2
  have HT := Lib.hid ht
  have HS := Lib.hid hz8
  clear hm hn2 hS ht hz8
  go_enter Tryd.func4, Tryd.ntmps4
  go_wp2_with fail
  refine HM.out.mono ?_
  rintro e w1 ⟨rfl, hb1⟩
  have HB1 := Lib.hid hb1
  clear hb1
  go_wp2_with fail
  refine (HN.out _ HB1.out).mono ?_
  rintro e w2 ⟨rfl, hb2⟩
  have HB2 := Lib.hid (HB1.out.trans (hb2.mono HB1.out.size))
  clear hb2 HN HM
  go_wp2_with fail
  have hconv := conv_one c w2
  go_region
  clear hconv
  go_wp2_with fail
  refine (turned_any _ _ (by exact turn_le S a c h8 HS.out) (by exact HT.out.below ((HB2.out.alloc HB2.out.size _).drew)) (by exact HT2.out)).mono ?_
  rintro e w3 ⟨k, f, rfl, hf, hb3⟩
  have hb4 : Below w.heap.size w w3 := ((HB2.out.alloc HB2.out.size _).drew).trans (hb3.mono (by have := HB2.out.size; simp; omega))
  have HB3 := Lib.hid hb4
  clear hb3 hb4
  go_wp2_with fail
  have o4 : (a : Int) + 1 < (S.size : Int) := by omega
  have o5 : (a : Int) + 2 ≤ (S.size : Int) := by omega
  have o6 : (0 : Int) ≤ (a : Int) + 1 := by omega
  have o7 : (0 : Int) ≤ (a : Int) + 2 := by omega
  have o8 : (a : Int) + 1 ≤ (a : Int) + 2 := by omega
  have o9 : (a : Int) ≤ (a : Int) + 1 := by omega
  have q1 : IntKind.i64.wrap ((a : Int) + 1) = (a : Int) + 1 := IntWalk.i64_in _ (by omega)
  have q2 : IntKind.i64.wrap ((a : Int) + 2) = (a : Int) + 2 := IntWalk.i64_in _ (by omega)
  have q3 : ((a : Int) + 1).toNat = a + 1 := by omega
  have q4 : ((a : Int) + 2).toNat = a + 2 := by omega
  go_quiet (fail)
  go_wp2_with fail
  go_quiet (fail)
  clear q1 q2
  go_wp2_with fail
  refine (swapped_any _ _ (by exact swap_le S a h9 HS.out) (by exact HT.out.below (HB3.out.drewN' _)) (by exact HU.out)).mono ?_
  rintro e w5 ⟨rfl, hb5⟩
  have HB5 := Lib.hid hb5
  clear hb5
  go_wp2_with fail
  refine (awake_any _ (HT.out.below ((HB3.out.drewN' _).trans (HB5.out.mono (HB3.out.drewN' _).size)))).mono ?_
  rintro e w6 ⟨rfl, hb6⟩
  have HB6 := Lib.hid hb6
  clear hb6
  go_wp2
  go_ret
  have hb7 := (HB3.out.drewN' _).trans (HB5.out.mono (HB3.out.drewN' _).size)
  exact ⟨rfl, hb7.trans (HB6.out.mono hb7.size)⟩

set_option maxRecDepth 100000 in
theorem law_BD1 (n a : Nat) (c : UInt8) (S : ByteArray) (w : World) (hn : n ≤ 999999) (ht : Tab w) (hS : S = ⟨(markL n).toArray⟩) (ha : a ≤ 7) (h8 : a < S.size) (hle : a ≤ S.size) (h8' : S.size ≤ 8)
    (h6 : ((a : Int) != 6) = true) (hc : ((c.toNat : Int) != ((S[a]'h8).toNat : Int)) = true) (HT2 : Kp ((number (turn S a c).data.toList).2 ≠ 0))
    (h5 : decide ((a : Int) < 5) = false) :
    Calls Tryd.prog 4 #[.int .i64 n, .int .i64 a, .int .u8 c.toNat] w (Ends w) := by
  have hm := Mark_yes n w hn ht
  have hl : ((S.size : Int) != 8) = false := by subst hS; rfl
  have hn2 : ∀ w' : World, Below w.heap.size w w' → Calls Tryd.prog 15 #[.string S] w' fun e w'' => e = .returned (.tuple #[.int .i64 n, .int .i64 0]) ∧ Below w'.heap.size w' w'' := fun w' hb => by subst hS; exact whole_any n w' hn (ht.below hb)
  rw [← hS] at hm
  have hz8 : S.size = 8 := by subst hS; rfl
  have HM := Lib.hid hm
  have HN := Lib.hid hn2
  have HT := Lib.hid ht
  have HS := Lib.hid hz8
  clear hm hn2 hS ht hz8
  go_enter Tryd.func4, Tryd.ntmps4
  go_wp2_with fail
  refine HM.out.mono ?_
  rintro e w1 ⟨rfl, hb1⟩
  have HB1 := Lib.hid hb1
  clear hb1
  go_wp2_with fail
  refine (HN.out _ HB1.out).mono ?_
  rintro e w2 ⟨rfl, hb2⟩
  have HB2 := Lib.hid (HB1.out.trans (hb2.mono HB1.out.size))
  clear hb2 HN HM
  go_wp2_with fail
  have hconv := conv_one c w2
  go_region
  clear hconv
  go_wp2_with fail
  refine (turned_any _ _ (by exact turn_le S a c h8 HS.out) (by exact HT.out.below ((HB2.out.alloc HB2.out.size _).drew)) (by exact HT2.out)).mono ?_
  rintro e w3 ⟨k, f, rfl, hf, hb3⟩
  have hb4 : Below w.heap.size w w3 := ((HB2.out.alloc HB2.out.size _).drew).trans (hb3.mono (by have := HB2.out.size; simp; omega))
  have HB3 := Lib.hid hb4
  clear hb3 hb4
  go_wp2_with fail
  go_quiet (fail)
  go_wp2_with fail
  refine (awake_any _ (HT.out.below (HB3.out.drewN' _))).mono ?_
  rintro e w6 ⟨rfl, hb6⟩
  have HB6 := Lib.hid hb6
  clear hb6
  go_wp2
  go_ret
  exact ⟨rfl, (HB3.out.drewN' _).trans (HB6.out.mono (HB3.out.drewN' _).size)⟩

set_option maxRecDepth 100000 in
theorem law_BD2 (n a : Nat) (c : UInt8) (S : ByteArray) (w : World) (hn : n ≤ 999999) (ht : Tab w) (hS : S = ⟨(markL n).toArray⟩) (ha : a ≤ 7) (h8 : a < S.size) (hle : a ≤ S.size) (h8' : S.size ≤ 8)
    (h6 : ((a : Int) != 6) = true) (hc : ((c.toNat : Int) != ((S[a]'h8).toNat : Int)) = true) (HT2 : Kp ((number (turn S a c).data.toList).2 ≠ 0))
    (h5 : (a : Int) < 5) (h9 : a + 1 < S.size) (he : (((S[a]'h8).toNat : Int) != ((S[a + 1]'h9).toNat : Int)) = false) :
    Calls Tryd.prog 4 #[.int .i64 n, .int .i64 a, .int .u8 c.toNat] w (Ends w) := by
  have hm := Mark_yes n w hn ht
  have hl : ((S.size : Int) != 8) = false := by subst hS; rfl
  have hn2 : ∀ w' : World, Below w.heap.size w w' → Calls Tryd.prog 15 #[.string S] w' fun e w'' => e = .returned (.tuple #[.int .i64 n, .int .i64 0]) ∧ Below w'.heap.size w' w'' := fun w' hb => by subst hS; exact whole_any n w' hn (ht.below hb)
  rw [← hS] at hm
  have hz8 : S.size = 8 := by subst hS; rfl
  have HM := Lib.hid hm
  have HN := Lib.hid hn2
  have HT := Lib.hid ht
  have HS := Lib.hid hz8
  clear hm hn2 hS ht hz8
  go_enter Tryd.func4, Tryd.ntmps4
  go_wp2_with fail
  refine HM.out.mono ?_
  rintro e w1 ⟨rfl, hb1⟩
  have HB1 := Lib.hid hb1
  clear hb1
  go_wp2_with fail
  refine (HN.out _ HB1.out).mono ?_
  rintro e w2 ⟨rfl, hb2⟩
  have HB2 := Lib.hid (HB1.out.trans (hb2.mono HB1.out.size))
  clear hb2 HN HM
  go_wp2_with fail
  have hconv := conv_one c w2
  go_region
  clear hconv
  go_wp2_with fail
  refine (turned_any _ _ (by exact turn_le S a c h8 HS.out) (by exact HT.out.below ((HB2.out.alloc HB2.out.size _).drew)) (by exact HT2.out)).mono ?_
  rintro e w3 ⟨k, f, rfl, hf, hb3⟩
  have hb4 : Below w.heap.size w w3 := ((HB2.out.alloc HB2.out.size _).drew).trans (hb3.mono (by have := HB2.out.size; simp; omega))
  have HB3 := Lib.hid hb4
  clear hb3 hb4
  go_wp2_with fail
  have o4 : (a : Int) + 1 < (S.size : Int) := by omega
  have o6 : (0 : Int) ≤ (a : Int) + 1 := by omega
  have q1 : IntKind.i64.wrap ((a : Int) + 1) = (a : Int) + 1 := IntWalk.i64_in _ (by omega)
  have q3 : ((a : Int) + 1).toNat = a + 1 := by omega
  go_quiet (fail)
  clear q1
  go_wp2_with fail
  refine (awake_any _ (HT.out.below (HB3.out.drewN' _))).mono ?_
  rintro e w6 ⟨rfl, hb6⟩
  have HB6 := Lib.hid hb6
  clear hb6
  go_wp2
  go_ret
  exact ⟨rfl, (HB3.out.drewN' _).trans (HB6.out.mono (HB3.out.drewN' _).size)⟩

set_option maxRecDepth 100000 in
theorem law_out (n : Nat) (a : Int) (c : Int) (S : ByteArray) (w : World) (hn : n ≤ 999999) (ht : Tab w) (hS : S = ⟨(markL n).toArray⟩) (ha : a < 0 ∨ 7 < a) :
    Calls Tryd.prog 4 #[.int .i64 n, .int .i64 a, .int .u8 c] w (Ends w) := by
  have hm := Mark_yes n w hn ht
  have hl : ((S.size : Int) != 8) = false := by subst hS; rfl
  have hn2 : ∀ w' : World, Below w.heap.size w w' → Calls Tryd.prog 15 #[.string S] w' fun e w'' => e = .returned (.tuple #[.int .i64 n, .int .i64 0]) ∧ Below w'.heap.size w' w'' := fun w' hb => by subst hS; exact whole_any n w' hn (ht.below hb)
  rw [← hS] at hm
  have hz8 : S.size = 8 := by subst hS; rfl
  have HM := Lib.hid hm
  have HN := Lib.hid hn2
  have HT := Lib.hid ht
  have HS := Lib.hid hz8
  clear hm hn2 hS ht hz8
  go_enter Tryd.func4, Tryd.ntmps4
  go_wp2_with fail
  refine HM.out.mono ?_
  rintro e w1 ⟨rfl, hb1⟩
  have HB1 := Lib.hid hb1
  clear hb1
  go_wp2_with fail
  refine (HN.out _ HB1.out).mono ?_
  rintro e w2 ⟨rfl, hb2⟩
  have HB2 := Lib.hid (HB1.out.trans (hb2.mono HB1.out.size))
  clear hb2 HN HM
  have HA := Lib.hid ha
  clear ha
  rcases HA.out with ha | ha
  · go_wp2_with fail
    refine (awake_any _ (HT.out.below HB2.out)).mono ?_
    rintro e w6 ⟨rfl, hb6⟩
    have HB6 := Lib.hid hb6
    clear hb6
    go_wp2
    go_ret
    exact ⟨rfl, HB2.out.trans (HB6.out.mono HB2.out.size)⟩
  · have hd : ¬ a < 0 := by omega
    go_wp2_with fail
    refine (awake_any _ (HT.out.below HB2.out)).mono ?_
    rintro e w6 ⟨rfl, hb6⟩
    have HB6 := Lib.hid hb6
    clear hb6
    go_wp2
    go_ret
    exact ⟨rfl, HB2.out.trans (HB6.out.mono HB2.out.size)⟩
end Go.Proofs.YtacghdfhafkcoaaDoor.Mk
