/-
  THE WALK of the law TopColds.
-/
import Derived.Test.YteidabpflfkdcaaDoorTpAwake
import Derived.Test.YteidabpflfkdcaaDoorTpColdsP
import Derived.Test.YteidabpflfkdcaaDoorCdRLong
namespace Go.Proofs.YteidabpflfkdcaaDoor.Tp
open Go Go.RowKit Go.Sort Go.Proofs.YteidabpflfkdcaaDoor.Cd

def EndsT (w : World) (e : Ending) (w' : World) : Prop := e = .returned (.bool true) ∧ Below w.heap.size w w'
theorem colds_long (a b c d g : Int) (u : Value) (l : List Rd) (e : Int) (w : World) (ht : Mk.Tab w) (hs : Cd.RS w u l) (h : 300 < l.length) :
    Calls Tryd.prog 5 #[.agg #[.int .i64 a, .int .i64 b, .int .i64 c, .int .i64 d, .int .i64 g], .agg #[u, .int .i64 e]] w (EndsT w) := by
  have HT := Kp.mk ht
  obtain ⟨gl, cl, rfl⟩ := hs.shape
  have hd : (300 : Int) < (l.length : Int) := by omega
  clear hs h ht
  go_enter Tryd.func5, Tryd.ntmps5
  go_wp2_with fail
  refine (awake5_any _ (HT.out.below (by repeat (first | exact Below.refl _ _ | refine Below.alloc ?_ (by simp <;> omega) _ | refine bDrewN ?_ _ | refine Below.drew ?_)))).mono ?_
  rintro en w1 ⟨rfl, hb1⟩
  have HB1 : Kp (Below w.heap.size w w1) := ⟨Below.trans (by repeat (first | exact Below.refl _ _ | refine Below.alloc ?_ (by simp <;> omega) _ | refine bDrewN ?_ _ | refine Below.drew ?_)) (hb1.mono (by simp <;> omega))⟩
  clear hb1
  go_wp2
  go_ret
  exact ⟨rfl, HB1.out⟩
theorem colds_no (a b c d g : Int) (u : Value) (l : List Rd) (e r : Int) (w : World) (ht : Mk.Tab w) (hs : Cd.RS w u l) (h : l.length ≤ 300) (hr : kilE a b c d g l e = r) (hz : (r != 0) = true) :
    Calls Tryd.prog 5 #[.agg #[.int .i64 a, .int .i64 b, .int .i64 c, .int .i64 d, .int .i64 g], .agg #[u, .int .i64 e]] w (EndsT w) := by
  have HT := Kp.mk ht
  have HK : Kp (∀ W, Below w.heap.size w W → Calls Tryd.prog 13 #[.agg #[.int .i64 a, .int .i64 b, .int .i64 c, .int .i64 d, .int .i64 g], u, .int .i64 e] W fun en w' => en = .returned (.tuple #[.int .i64 (kilV a b c d g l e), .int .i64 r]) ∧ Below W.heap.size W w') := ⟨fun W hW => hr ▸ Killed_any a b c d g u l e W (hs.below hW)⟩
  obtain ⟨V, hV⟩ : ∃ V, kilV a b c d g l e = V := ⟨_, rfl⟩
  rw [hV] at HK
  obtain ⟨gl, cl, rfl⟩ := hs.shape
  have hd : ¬ (300 : Int) < (l.length : Int) := by omega
  clear hs h hr hV ht
  go_enter Tryd.func5, Tryd.ntmps5
  go_wp2_with fail
  refine (HK.out _ (by repeat (first | exact Below.refl _ _ | refine Below.alloc ?_ (by simp <;> omega) _ | refine bDrewN ?_ _ | refine Below.drew ?_))).mono ?_
  rintro en w1 ⟨rfl, hb1⟩
  have HB1 : Kp (Below w.heap.size w w1) := ⟨Below.trans (by repeat (first | exact Below.refl _ _ | refine Below.alloc ?_ (by simp <;> omega) _ | refine bDrewN ?_ _ | refine Below.drew ?_)) (hb1.mono (by simp <;> omega))⟩
  clear hb1
  go_wp2_with fail
  refine (awake5_any _ (HT.out.below HB1.out)).mono ?_
  rintro en w2 ⟨rfl, hb2⟩
  have HB2 : Kp (Below w.heap.size w w2) := ⟨HB1.out.trans (hb2.mono HB1.out.size)⟩
  clear hb2
  go_wp2
  go_ret
  exact ⟨rfl, HB2.out⟩
set_option maxHeartbeats 1000000 in
theorem colds_core (a b c d g : Int) (gl : Option Addr) (n cl : Nat) (e V N P H : Int) (w : World) (ht : Mk.Tab w) (hn : ¬ (300 : Int) < (n : Int))
    (e1 : IntKind.i64.wrap (b * c) = b * c) (e2 : IntKind.i64.wrap (P + b) = P + b) (h1 : ¬ N < b * c) (h2 : ¬ H < b) (h3 : ¬ N < H) (h4 : b ≤ V)
    (HK : Kp (∀ W, Below w.heap.size w W → Calls Tryd.prog 13 #[.agg #[.int .i64 a, .int .i64 b, .int .i64 c, .int .i64 d, .int .i64 g], .slice gl n cl, .int .i64 e] W fun en w' => en = .returned (.tuple #[.int .i64 V, .int .i64 0]) ∧ Below W.heap.size W w'))
    (HC : Kp (∀ W, Below w.heap.size w W → Calls Tryd.prog 14 #[.slice gl n cl, .int .i64 e, .int .i64 a] W fun en w' => en = .returned (.tuple #[.int .i64 N, .int .i64 0]) ∧ Below W.heap.size W w'))
    (HL : Kp (∀ W, Below w.heap.size w W → Calls Tryd.prog 15 #[.slice gl n cl, .int .i64 e, .int .i64 a] W fun en w' => en = .returned (.tuple #[.int .i64 P, .int .i64 H, .int .i64 0]) ∧ Below W.heap.size W w'))
    (HH : Kp (∀ W, Below w.heap.size w W → Calls Tryd.prog 16 #[.agg #[.int .i64 a, .int .i64 b, .int .i64 c, .int .i64 d, .int .i64 g], .slice gl n cl, .int .i64 e, .int .i64 P] W fun en w' => en = .returned (.tuple #[.int .i64 (P + b), .int .i64 0]) ∧ Below W.heap.size W w')) :
    Calls Tryd.prog 5 #[.agg #[.int .i64 a, .int .i64 b, .int .i64 c, .int .i64 d, .int .i64 g], .agg #[.slice gl n cl, .int .i64 e]] w (EndsT w) := by
  have HT := Kp.mk ht
  clear ht
  go_enter Tryd.func5, Tryd.ntmps5
  go_wp2_with fail
  refine (HK.out _ (by repeat (first | exact Below.refl _ _ | refine Below.alloc ?_ (by simp <;> omega) _ | refine bDrewN ?_ _ | refine Below.drew ?_))).mono ?_
  rintro en w1 ⟨rfl, hb1⟩
  have HF1 : Kp (Below (w.heap.size + 1 + 1) ((w.alloc (.cells #[.int .i64 a, .int .i64 b, .int .i64 c, .int .i64 d, .int .i64 g] 46)).alloc (.cells #[.slice gl n cl, .int .i64 e] 49)) w1) := ⟨by rw [World.size_alloc, World.size_alloc] at hb1; exact hb1⟩
  clear hb1
  obtain ⟨f0, f1, f2, f3, f4, g0, g1, hz1⟩ := fl_cells HF1.out
  go_wp2_with fail
  refine (HC.out _ (fl_below HF1.out)).mono ?_
  rintro en w2 ⟨rfl, hb2⟩
  have HF2 := Kp.mk (HF1.out.trans (hb2.mono (by omega)))
  clear hb2 f0 f1 f2 f3 f4 g0 g1 hz1
  obtain ⟨f0, f1, f2, f3, f4, g0, g1, hz1⟩ := fl_cells HF2.out
  go_wp2_with fail
  refine (HL.out _ (fl_below HF2.out)).mono ?_
  rintro en w3 ⟨rfl, hb3⟩
  have HF3 := Kp.mk (HF2.out.trans (hb3.mono (by omega)))
  clear hb3 f0 f1 f2 f3 f4 g0 g1 hz1
  obtain ⟨f0, f1, f2, f3, f4, g0, g1, hz1⟩ := fl_cells HF3.out
  go_wp2_with fail
  refine (HH.out _ (fl_below HF3.out)).mono ?_
  rintro en w4 ⟨rfl, hb4⟩
  have HF4 := Kp.mk (HF3.out.trans (hb4.mono (by omega)))
  clear hb4 f0 f1 f2 f3 f4 g0 g1 hz1
  obtain ⟨f0, f1, f2, f3, f4, g0, g1, hz1⟩ := fl_cells HF4.out
  have HB4 := Kp.mk (fl_below HF4.out)
  go_wp2_with fail
  refine (awake5_any _ (HT.out.below HB4.out)).mono ?_
  rintro en w5 ⟨rfl, hb5⟩
  have HB5 : Kp (Below w.heap.size w w5) := ⟨HB4.out.trans (hb5.mono HB4.out.size)⟩
  clear hb5
  go_wp2
  go_ret
  exact ⟨rfl, HB5.out⟩
theorem lawColds_any (a b c d g : Int) (u : Value) (l : List Rd) (e : Int) (w : World) (ht : Mk.Tab w) (hs : Cd.RS w u l) :
    Calls Tryd.prog 5 #[.agg #[.int .i64 a, .int .i64 b, .int .i64 c, .int .i64 d, .int .i64 g], .agg #[u, .int .i64 e]] w (EndsT w) := by
  by_cases hl : 300 < l.length
  · exact colds_long a b c d g u l e w ht hs hl
  · by_cases hk : kilE a b c d g l e = 0
    · obtain ⟨q0, ⟨q1, q2⟩, q3, q4, q5, q6, q7, q8, q9, q10, q11⟩ := colds_said hk
      have hK : ∀ W, Below w.heap.size w W → Calls Tryd.prog 13 #[.agg #[.int .i64 a, .int .i64 b, .int .i64 c, .int .i64 d, .int .i64 g], u, .int .i64 e] W fun en w' => en = .returned (.tuple #[.int .i64 (kilV a b c d g l e), .int .i64 0]) ∧ Below W.heap.size W w' := fun W hW => by
        have := Killed_any a b c d g u l e W (hs.below hW)
        rw [hk] at this
        exact this
      have hC : ∀ W, Below w.heap.size w W → Calls Tryd.prog 14 #[u, .int .i64 e, .int .i64 a] W fun en w' => en = .returned (.tuple #[.int .i64 (coldN l e a), .int .i64 0]) ∧ Below W.heap.size W w' := fun W hW => by
        have := Cold_any u l e a W (hs.below hW)
        rw [q0] at this
        exact this
      have hL : ∀ W, Below w.heap.size w W → Calls Tryd.prog 15 #[u, .int .i64 e, .int .i64 a] W fun en w' => en = .returned (.tuple #[.int .i64 (lgR l e a).1, .int .i64 (lgR l e a).2.1, .int .i64 0]) ∧ Below W.heap.size W w' := fun W hW => by
        have := Longest_any u l e a W (hs.below hW)
        rw [q4] at this
        exact this
      have hH : ∀ W, Below w.heap.size w W → Calls Tryd.prog 16 #[.agg #[.int .i64 a, .int .i64 b, .int .i64 c, .int .i64 d, .int .i64 g], u, .int .i64 e, .int .i64 (lgR l e a).1] W fun en w' => en = .returned (.tuple #[.int .i64 ((lgR l e a).1 + b), .int .i64 0]) ∧ Below W.heap.size W w' := fun W hW => by
        have := Chill_any a b c d g u l e (lgR l e a).1 W (hs.below hW)
        rw [q7, q8] at this
        exact this
      obtain ⟨gl, cl, rfl⟩ := hs.shape
      exact colds_core a b c d g gl l.length cl e (kilV a b c d g l e) (coldN l e a) (lgR l e a).1 (lgR l e a).2.1 w ht (by omega) (IntWalk.i64_in _ (by omega)) (IntWalk.i64_in _ (by omega)) (by omega) (by omega) (by omega) q10 ⟨hK⟩ ⟨hC⟩ ⟨hL⟩ ⟨hH⟩
    · exact colds_no a b c d g u l e _ w ht hs (by omega) rfl (by rw [bne_iff_ne]; exact hk)
end Go.Proofs.YteidabpflfkdcaaDoor.Tp
