/-
  THE WALK of the law ColdLoads.
-/
import Derived.Test.YtbbbnfodjkpiaaaCdAwake
import Derived.Test.YtbbbnfodjkpiaaaCdOverB
namespace Go.Proofs.Ytbbbnfodjkpiaaa.Cd
open Go Go.RowKit Go.Sort

def EndsB (w : World) (e : Ending) (w' : World) : Prop := e = .returned (.bool true) ∧ Below w.heap.size w w'
theorem lawLoads_long (v : Value) (l : List Bx) (x y : Int) (w : World) (hs : BS w v l) (h : 100 < l.length) :
    Calls Try.prog 6 #[v, .int .i64 x, .int .i64 y] w (EndsB w) := by
  obtain ⟨gl, cl, rfl⟩ := hs.shape
  have hd : (decide (0 ≤ 300) && decide (l.length ≤ 100)) = false := by rw [decide_eq_false (show ¬ l.length ≤ 100 by omega), Bool.and_false]
  clear hs h
  go_enter Try.func6, Try.ntmps6
  go_wp2_with fail
  refine (short_any none gl 0 0 l.length cl _).mono ?_
  rw [hd]
  rintro en w1 ⟨rfl, rfl⟩
  go_wp2_with fail
  refine (awake_any _).mono ?_
  rintro en w2 ⟨rfl, hb2⟩
  go_wp2
  go_ret
  exact ⟨rfl, hb2⟩
set_option maxRecDepth 100000 in
set_option maxHeartbeats 2000000 in
theorem lawLoads_core (v : Value) (x y : Int) (n : Nat) (Bv F : Bool) (LV LE PV1 PV2 MV1 MV2 PE OV OE : Int) (w : World) (hu : ∃ gl cl, v = .slice gl n cl) (hn : n ≤ 100)
    (H1 : Kp (∀ W, Below w.heap.size w W → Calls Try.prog 34 #[v, .int .i64 x] W fun en w' => en = .returned (.tuple #[.int .i64 LV, .int .i64 LE]) ∧ Below W.heap.size W w'))
    (H2 : Kp (∀ W, Below w.heap.size w W → Calls Try.prog 35 #[v, .int .i64 x] W fun en w' => en = .returned (.tuple #[.int .i64 LV, .int .i64 LE]) ∧ Below W.heap.size W w'))
    (H3 : Kp (∀ W, Below w.heap.size w W → Calls Try.prog 36 #[v] W fun en w' => en = .returned (.bool Bv) ∧ Below W.heap.size W w'))
    (H4 : Kp (∀ W, Below w.heap.size w W → Calls Try.prog 37 #[v] W fun en w' => en = .returned (.bool Bv) ∧ Below W.heap.size W w'))
    (H5 : Kp (∀ W, Below w.heap.size w W → Calls Try.prog 38 #[v, .int .i64 y] W fun en w' => en = .returned (.bool F) ∧ Below W.heap.size W w'))
    (H6 : Kp (∀ W, Below w.heap.size w W → Calls Try.prog 39 #[v, .int .i64 y] W fun en w' => en = .returned (.bool F) ∧ Below W.heap.size W w'))
    (H7 : Kp (∀ W, Below w.heap.size w W → Calls Try.prog 40 #[v] W fun en w' => en = .returned (.tuple #[.int .i64 PV1, .int .i64 PV2, .int .i64 PE]) ∧ Below W.heap.size W w'))
    (H8 : Kp (∀ W, Below w.heap.size w W → Calls Try.prog 41 #[v] W fun en w' => en = .returned (.tuple #[.int .i64 PV1, .int .i64 PV2, .int .i64 PE]) ∧ Below W.heap.size W w'))
    (H9 : Kp (∀ W, Below w.heap.size w W → Calls Try.prog 42 #[v] W fun en w' => en = .returned (.tuple #[.int .i64 MV1, .int .i64 MV2, .int .i64 PE]) ∧ Below W.heap.size W w'))
    (H10 : Kp (∀ W, Below w.heap.size w W → Calls Try.prog 43 #[v] W fun en w' => en = .returned (.tuple #[.int .i64 MV1, .int .i64 MV2, .int .i64 PE]) ∧ Below W.heap.size W w'))
    (H11 : Kp (∀ W, Below w.heap.size w W → Calls Try.prog 44 #[v, .int .i64 y] W fun en w' => en = .returned (.tuple #[.int .i64 OV, .int .i64 OE]) ∧ Below W.heap.size W w'))
    (H12 : Kp (∀ W, Below w.heap.size w W → Calls Try.prog 45 #[v, .int .i64 y] W fun en w' => en = .returned (.tuple #[.int .i64 OV, .int .i64 OE]) ∧ Below W.heap.size W w')) :
    Calls Try.prog 6 #[v, .int .i64 x, .int .i64 y] w (EndsB w) := by
  obtain ⟨gl, cl, rfl⟩ := hu
  have hd : (decide (0 ≤ 300) && decide (n ≤ 100)) = true := by rw [decide_eq_true hn]; rfl
  clear hn
  go_enter Try.func6, Try.ntmps6
  go_wp2_with fail
  refine (short_any none gl 0 0 n cl _).mono ?_
  rw [hd]
  clear hd
  rintro en w0 ⟨rfl, rfl⟩
  go_wp2_with fail
  refine (H1.out _ (Below.refl _ _)).mono ?_
  rintro en w1 ⟨rfl, hb1⟩
  have HB1 : Kp (Below w.heap.size w w1) := ⟨hb1⟩
  clear hb1
  go_wp2_with fail
  refine (H2.out _ HB1.out).mono ?_
  rintro en w2 ⟨rfl, hb2⟩
  have HB2 := Kp.mk (HB1.out.trans (hb2.mono HB1.out.size))
  clear hb2
  go_wp2_with fail
  refine (H3.out _ HB2.out).mono ?_
  rintro en w3 ⟨rfl, hb3⟩
  have HB3 := Kp.mk (HB2.out.trans (hb3.mono HB2.out.size))
  clear hb3
  go_wp2_with fail
  refine (H4.out _ HB3.out).mono ?_
  rintro en w4 ⟨rfl, hb4⟩
  have HB4 := Kp.mk (HB3.out.trans (hb4.mono HB3.out.size))
  clear hb4
  go_wp2_with fail
  refine (H5.out _ HB4.out).mono ?_
  rintro en w5 ⟨rfl, hb5⟩
  have HB5 := Kp.mk (HB4.out.trans (hb5.mono HB4.out.size))
  clear hb5
  go_wp2_with fail
  refine (H6.out _ HB5.out).mono ?_
  rintro en w6 ⟨rfl, hb6⟩
  have HB6 := Kp.mk (HB5.out.trans (hb6.mono HB5.out.size))
  clear hb6
  go_wp2_with fail
  refine (H7.out _ HB6.out).mono ?_
  rintro en w7 ⟨rfl, hb7⟩
  have HB7 := Kp.mk (HB6.out.trans (hb7.mono HB6.out.size))
  clear hb7
  go_wp2_with fail
  refine (H8.out _ HB7.out).mono ?_
  rintro en w8 ⟨rfl, hb8⟩
  have HB8 := Kp.mk (HB7.out.trans (hb8.mono HB7.out.size))
  clear hb8
  go_wp2_with fail
  refine (H9.out _ HB8.out).mono ?_
  rintro en w9 ⟨rfl, hb9⟩
  have HB9 := Kp.mk (HB8.out.trans (hb9.mono HB8.out.size))
  clear hb9
  go_wp2_with fail
  refine (H10.out _ HB9.out).mono ?_
  rintro en w10 ⟨rfl, hb10⟩
  have HB10 := Kp.mk (HB9.out.trans (hb10.mono HB9.out.size))
  clear hb10
  go_wp2_with fail
  refine (H11.out _ HB10.out).mono ?_
  rintro en w11 ⟨rfl, hb11⟩
  have HB11 := Kp.mk (HB10.out.trans (hb11.mono HB10.out.size))
  clear hb11
  go_wp2_with fail
  refine (H12.out _ HB11.out).mono ?_
  rintro en w12 ⟨rfl, hb12⟩
  have HB12 := Kp.mk (HB11.out.trans (hb12.mono HB11.out.size))
  clear hb12
  go_wp2_with fail
  refine (awake_any _).mono ?_
  rintro en w13 ⟨rfl, hb13⟩
  have HB13 := Kp.mk (HB12.out.trans (hb13.mono HB12.out.size))
  clear hb13
  go_wp2
  go_ret
  exact ⟨rfl, HB13.out⟩
theorem lawLoads_any (v : Value) (l : List Bx) (x y : Int) (w : World) (hs : BS w v l) :
    Calls Try.prog 6 #[v, .int .i64 x, .int .i64 y] w (EndsB w) := by
  by_cases h : 100 < l.length
  · exact lawLoads_long v l x y w hs h
  · have hm : l.length ≤ 100000 := by omega
    exact lawLoads_core v x y l.length (boxesB l) (fitB l y) (ldV l x) (ldE l x) (pkV szQ l).1 (pkV szQ l).2 (pkV oneQ l).1 (pkV oneQ l).2 (pkE l) (ovV l y) (ovE l y) w hs.shape (by omega)
      ⟨fun W hW => Load_any v l x W (hs.below hW)⟩ ⟨fun W hW => rLoad_any v l x W (hs.below hW) hm⟩
      ⟨fun W hW => ValidBoxes_any v l W (hs.below hW)⟩ ⟨fun W hW => rValidBoxes_any v l W (hs.below hW) hm⟩
      ⟨fun W hW => Fit_any v l y W (hs.below hW)⟩ ⟨fun W hW => rFit_any v l y W (hs.below hW) hm⟩
      ⟨fun W hW => Peak_any v l W (hs.below hW)⟩ ⟨fun W hW => rPeak_any v l W (hs.below hW) hm⟩
      ⟨fun W hW => Most_any v l W (hs.below hW)⟩ ⟨fun W hW => rMost_any v l W (hs.below hW) hm⟩
      ⟨fun W hW => Over_any v l y W (hs.below hW)⟩ ⟨fun W hW => rOver_any v l y W (hs.below hW) hm⟩
end Go.Proofs.Ytbbbnfodjkpiaaa.Cd
