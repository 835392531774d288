/-
  THE WALK of the law MarkNumbers.
-/
import Derived.Test.YtacghdfhafkcoaaDoorMkNearC
import Derived.Test.YtacghdfhafkcoaaDoorMkSame
namespace Go.Proofs.YtacghdfhafkcoaaDoor.Mk
open Go Go.RowKit

/-- Two results of which the second is a number, and nothing that lay turned. -/
def Two (v : Value) (f : Int) (w : World) (e : Ending) (w' : World) : Prop := e = .returned (.tuple #[v, .int .i64 f]) ∧ Below w.heap.size w w'
theorem below_of_eq {w w' : World} (h : w = w') : Below w.heap.size w w' := by subst h; exact Below.refl _ _
theorem signs_any (n : Int) : ∃ (A B : ByteArray) (f : Int),
    (∀ w, Tab w → Calls Tryd.prog 11 #[.int .i64 n] w (Two (.string A) f w)) ∧ (∀ w, Calls Tryd.prog 12 #[.int .i64 n] w (Two (.string A) f w)) ∧
    (∀ w, Tab w → Calls Tryd.prog 13 #[.int .i64 n] w (Two (.string B) f w)) ∧ (∀ w, Tab w → Calls Tryd.prog 14 #[.int .i64 n] w (Two (.string B) f w)) := by
  by_cases hn : n < 0 ∨ 999999 < n
  · exact ⟨⟨#[]⟩, ⟨#[]⟩, 7, fun w _ => (Sign_no n w hn).mono fun _ _ h => ⟨h.1, below_of_eq h.2⟩, fun w => (refSign_no n w hn).mono fun _ _ h => ⟨h.1, below_of_eq h.2⟩,
      fun w _ => (Mark_no n w hn).mono fun _ _ h => ⟨h.1, below_of_eq h.2⟩, fun w _ => (refMark_no n w hn).mono fun _ _ h => ⟨h.1, below_of_eq h.2⟩⟩
  · obtain ⟨m, rfl⟩ := Int.eq_ofNat_of_zero_le (show 0 ≤ n by omega)
    have hm : m ≤ 999999 := by omega
    exact ⟨_, _, 0, fun w ht => Sign_yes m w hm ht, fun w => (refSign_yes m w hm).mono fun _ _ h => ⟨h.1, below_of_eq h.2⟩, fun w ht => Mark_yes m w hm ht, fun w ht => refMark_yes m w hm ht⟩
def TwoL (L : List Int) (f : Int) (w : World) (e : Ending) (w' : World) : Prop := (∃ v, e = .returned (.tuple #[v, .int .i64 f]) ∧ RI w' v L) ∧ Below w.heap.size w w'
theorem nears_any (s : ByteArray) (hs : s.size ≤ maxLen) : ∃ (L : List Int) (f : Int), L.length ≤ 1000 ∧
    (∀ w, Tab w → Calls Tryd.prog 17 #[.string s] w (TwoL L f w)) ∧ (∀ w, Calls Tryd.prog 18 #[.string s] w (TwoL L f w)) := by
  cases hf : form s.data.toList with
  | false =>
    exact ⟨[], 2, by simp, fun w _ => (near_no s w hs hf).mono fun _ _ h => ⟨⟨_, h.1, RI.nil _⟩, h.2⟩, fun w => (refnear_no s w hs hf).mono fun _ _ h => ⟨⟨_, h.1, RI.nil _⟩, below_of_eq h.2⟩⟩
  | true =>
    refine ⟨sorted (nearJ (numOf s.data.toList) (signOf s.data.toList) 6), 0, ?_, fun w ht => near_main s w hs ht hf, fun w => refnear_main s w hs hf⟩
    rw [sorted_len]
    have := nearJ_len (numOf s.data.toList) (signOf s.data.toList) 6
    omega
theorem numbers_any (s : ByteArray) (hs : s.size ≤ maxLen) : ∃ x f : Int, (∀ w, Tab w → Calls Tryd.prog 15 #[.string s] w (Two (.int .i64 x) f w)) ∧ (∀ w, Calls Tryd.prog 16 #[.string s] w (Two (.int .i64 x) f w)) :=
  ⟨_, _, fun w ht => (Number_any s w hs ht).mono fun _ _ h => ⟨h.1, h.2⟩, fun w => (refNumber_any s w hs).mono fun _ _ h => ⟨h.1, below_of_eq h.2⟩⟩

theorem numbers_long (n : Int) (s : ByteArray) (w : World) (_hs : s.size ≤ maxLen) (hl : (100 : Int) < (s.size : Int)) (ht : Tab w) :
    Calls Tryd.prog 3 #[.int .i64 n, .string s] w (fun e w' => e = .returned (.bool true) ∧ Below w.heap.size w w') := by
  have HT := Lib.hid ht
  clear ht
  unfold maxLen at _hs
  go_enter Tryd.func3, Tryd.ntmps3
  go_wp2_with fail
  refine (awake_any _ HT.out).mono ?_
  rintro e w2 ⟨rfl, hb2⟩
  have HB := Lib.hid hb2
  clear hb2
  go_wp2
  go_ret
  exact ⟨rfl, HB.out⟩
set_option maxRecDepth 100000 in
set_option maxHeartbeats 1000000 in
theorem numbers_short (n : Int) (s : ByteArray) (w : World) (hs : s.size ≤ maxLen) (hl : ¬ (100 : Int) < (s.size : Int)) (ht : Tab w) :
    Calls Tryd.prog 3 #[.int .i64 n, .string s] w (fun e w' => e = .returned (.bool true) ∧ Below w.heap.size w w') := by
  obtain ⟨A, B, f, p1, p2, p3, p4⟩ := signs_any n
  obtain ⟨x, f2, q1, q2⟩ := numbers_any s hs
  obtain ⟨L, f3, hL, r1, r2⟩ := nears_any s hs
  have HT := Lib.hid ht
  have P1 := Lib.hid p1
  have P2 := Lib.hid p2
  have P3 := Lib.hid p3
  have P4 := Lib.hid p4
  have Q1 := Lib.hid q1
  have Q2 := Lib.hid q2
  have R1 := Lib.hid r1
  have R2 := Lib.hid r2
  clear ht p1 p2 p3 p4 q1 q2 r1 r2
  go_enter Tryd.func3, Tryd.ntmps3
  go_wp2_with fail
  refine (P1.out _ HT.out).mono ?_
  rintro e w1 ⟨rfl, hb1⟩
  have B1 := Lib.hid hb1
  clear hb1
  go_wp2_with fail
  refine (P2.out _).mono ?_
  rintro e w2 ⟨rfl, hb2⟩
  have B2 := Lib.hid (B1.out.trans (hb2.mono B1.out.size))
  clear hb2 B1
  go_wp2_with fail
  refine (P3.out _ (HT.out.below B2.out)).mono ?_
  rintro e w3 ⟨rfl, hb3⟩
  have B3 := Lib.hid (B2.out.trans (hb3.mono B2.out.size))
  clear hb3 B2
  go_wp2_with fail
  refine (P4.out _ (HT.out.below B3.out)).mono ?_
  rintro e w4 ⟨rfl, hb4⟩
  have B4 := Lib.hid (B3.out.trans (hb4.mono B3.out.size))
  clear hb4 B3
  go_wp2_with fail
  refine (Q1.out _ (HT.out.below B4.out)).mono ?_
  rintro e w5 ⟨rfl, hb5⟩
  have B5 := Lib.hid (B4.out.trans (hb5.mono B4.out.size))
  clear hb5 B4
  go_wp2_with fail
  refine (Q2.out _).mono ?_
  rintro e w6 ⟨rfl, hb6⟩
  have B6 := Lib.hid (B5.out.trans (hb6.mono B5.out.size))
  clear hb6 B5
  go_wp2_with fail
  refine (R1.out _ (HT.out.below B6.out)).mono ?_
  rintro e w7 ⟨⟨v, rfl, hv⟩, hb7⟩
  have B7 := Lib.hid (B6.out.trans (hb7.mono B6.out.size))
  have HV := Lib.hid hv
  clear hb7 B6 hv
  go_wp2_with fail
  refine (R2.out _).mono ?_
  rintro e w8 ⟨⟨u, rfl, hu⟩, hb8⟩
  have B8 := Lib.hid (B7.out.trans (hb8.mono B7.out.size))
  have HV8 := Lib.hid (HV.out.below hb8)
  have HU := Lib.hid hu
  clear hb8 B7 hu HV
  go_wp2_with fail
  refine (same_yes v u L _ hL HV8.out HU.out).mono ?_
  rintro e w9 ⟨rfl, k, hw9⟩
  have B9 : Hid (Below w.heap.size w w9) := by
    rw [hw9]
    exact ⟨B8.out.os, B8.out.tape, B8.out.output, B8.out.size, B8.out.block⟩
  clear hw9 B8
  go_wp2_with fail
  refine (awake_any _ (HT.out.below B9.out)).mono ?_
  rintro e w10 ⟨rfl, hb10⟩
  have B10 := Lib.hid (B9.out.trans (hb10.mono B9.out.size))
  clear hb10 B9
  go_wp2
  go_ret
  exact ⟨rfl, B10.out⟩
end Go.Proofs.YtacghdfhafkcoaaDoor.Mk
