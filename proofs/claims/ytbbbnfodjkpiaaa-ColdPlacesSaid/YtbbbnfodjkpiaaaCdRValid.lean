/-
  WALKS (layer 4, cold): readings that are valid, by the reference.
-/
import Derived.Test.YtbbbnfodjkpiaaaCdWalkA
import Derived.IntWalk
namespace Go.Proofs.Ytbbbnfodjkpiaaa.Cd
open Go Go.RowKit Go.Sort

set_option maxHeartbeats 1000000 in
set_option maxRecDepth 100000 in
theorem rValidReadings_any (v : Value) (l : List Rd) (w : World) (hs : RS w v l) (hm : l.length ≤ 100000) :
    Calls Try.prog 18 #[v] w fun e w' => e = .returned (.bool (readB l)) ∧ Below w.heap.size w w' := by
  obtain ⟨g, c, rfl, -, hi⟩ := hs
  have HS := Lib.hid hi
  have HM := Lib.hid hm
  clear hi hm
  go_enter Try.func18, Try.ntmps18
  go_wp2
  go_loopw [7] (fun i wr => ∃ k : Nat, k ≤ l.length ∧ i = .int .i64 k ∧ Kp (okUp l k = true) ∧ Kp (Below w.heap.size w wr)) (fun i _ => l.length - (intOf i).toNat)
  case atStart => exact ⟨0, Nat.zero_le _, rfl, ⟨rfl⟩, ⟨by repeat (first | exact Below.refl _ _ | refine Below.alloc ?_ (by simp <;> omega) _ | refine bDrewN ?_ _ | refine Below.drew ?_)⟩⟩
  case round =>
    obtain ⟨k, hk, rfl, HK, HB⟩ := hrel
    by_cases hlt : k < l.length
    · obtain ⟨x, hx⟩ : ∃ x, l[k]? = some x := ⟨l[k], List.getElem?_eq_getElem hlt⟩
      obtain ⟨b, o, hg, hbl, hc1, hc2⟩ := HS.out k x hx
      subst hg
      have hbr : b < wr.heap.size := Nat.lt_of_lt_of_le hbl HB.out.size
      have c1 : wr.cell? ⟨b, o + k * 2, none⟩ = some (.int .i64 x.h) := (HB.out.cell (p := ⟨b, _, none⟩) hbl).trans hc1
      have c2 : wr.cell? ⟨b, o + k * 2 + 1, none⟩ = some (.int .i64 x.t) := (HB.out.cell (p := ⟨b, _, none⟩) hbl).trans hc2
      have HB1 : Kp (Below w.heap.size w (wr.alloc (.cells #[.int .i64 x.h, .int .i64 x.t] 59))) := ⟨HB.out.alloc HB.out.size _⟩
      have o1 : (k : Int) < (l.length : Int) := by omega
      cases h1 : inB 0 1000000 x.h with
      | false =>
        have HE : Kp (readB l = false) := ⟨read_no hlt (by rw [okAt_at hx]; unfold folB; rw [h1]; simp)⟩
        have H1 : Kp (inB 0 1000000 x.h = false) := ⟨h1⟩
        clear h1 hx hc1 hc2 hbl
        go_wp2
        go_quiet ((go_at_call 57; with_reducible exact rwithin_q H1.out _ _))
        go_wp2
        go_ret
        exact ⟨ret_bool HE.out.symm, bDrewN HB1.out _⟩
      | true =>
        cases h2 : inB (-1000) 1000 x.t with
        | false =>
          have HE : Kp (readB l = false) := ⟨read_no hlt (by rw [okAt_at hx]; unfold folB; rw [h2]; simp)⟩
          have H1 : Kp (inB 0 1000000 x.h = true) := ⟨h1⟩
          have H2 : Kp (inB (-1000) 1000 x.t = false) := ⟨h2⟩
          clear h1 h2 hx hc1 hc2 hbl
          go_wp2
          go_quiet ((first | (go_at_call 57; with_reducible exact rwithin_q H1.out _ _) | (go_at_call 57; with_reducible exact rwithin_q H2.out _ _)))
          go_wp2
          go_ret
          exact ⟨ret_bool HE.out.symm, bDrewN HB1.out _⟩
        | true =>
          have H1 : Kp (inB 0 1000000 x.h = true) := ⟨h1⟩
          have H2 : Kp (inB (-1000) 1000 x.t = true) := ⟨h2⟩
          have o4 : k ≤ 100000 := by have := HM.out; omega
          cases k with
          | zero =>
            have HE : Kp (okUp l (0 + 1) = true) := ⟨okUp_step HK.out (by rw [okAt_at hx]; unfold folB prev precB; rw [h1, h2]; rfl)⟩
            simp only [Nat.zero_mul, Nat.add_zero] at c1 c2
            clear h1 h2 hx hc1 hc2 hbl
            go_wp2
            go_quiet ((first | (go_at_call 57; with_reducible exact rwithin_q H1.out _ _) | (go_at_call 57; with_reducible exact rwithin_q H2.out _ _)))
            go_wp2
            go_roundw
            case rel => exact ⟨1, by omega, by go_num, HE, ⟨bDrewN HB1.out _⟩⟩
            case measure => simp [intOf]; omega
          | succ m =>
            obtain ⟨y, hy⟩ : ∃ y, l[m]? = some y := ⟨l[m], List.getElem?_eq_getElem (by omega)⟩
            obtain ⟨b', o', hg, hbl', hc3, -⟩ := HS.out m _ hy
            simp only [Option.some.injEq, Addr.mk.injEq, and_true] at hg
            obtain ⟨rfl, rfl⟩ := hg
            have c3 : wr.cell? ⟨b, o + m * 2, none⟩ = some (.int .i64 y.h) := (HB.out.cell (p := ⟨b, _, none⟩) hbl).trans hc3
            have e : prev l (m + 1) = some y := hy
            have i1 : IntKind.i64.wrap ((m : Int) + 1 - 1) = (m : Int) := by rw [Int.add_sub_cancel]; exact IntWalk.i64_in _ (by omega)
            have i2 : (m : Int) < (l.length : Int) := by omega
            by_cases hle : x.h ≤ y.h
            · have HE : Kp (readB l = false) := ⟨read_no hlt (by rw [okAt_at hx, e]; unfold folB precB; simp; omega)⟩
              have hle' : decide (x.h ≤ y.h) = true := decide_eq_true hle
              clear h1 h2 hx hc1 hc2 hbl hbl' hc3 hy e
              go_wp2
              go_quiet ((first | (go_at_call 57; with_reducible exact rwithin_q H1.out _ _) | (go_at_call 57; with_reducible exact rwithin_q H2.out _ _)))
              go_wp2
              go_ret
              exact ⟨ret_bool HE.out.symm, bDrewN HB1.out _⟩
            · have HE : Kp (okUp l (m + 1 + 1) = true) := ⟨okUp_step HK.out (by rw [okAt_at hx, e]; unfold folB; rw [h1, h2, show precB (some y) x = true from decide_eq_true (by omega)]; rfl)⟩
              have hle' : decide (x.h ≤ y.h) = false := decide_eq_false hle
              clear h1 h2 hx hc1 hc2 hbl hbl' hc3 hy e
              go_wp2
              go_quiet ((first | (go_at_call 57; with_reducible exact rwithin_q H1.out _ _) | (go_at_call 57; with_reducible exact rwithin_q H2.out _ _)))
              clear i1 i2
              go_wp2
              go_roundw
              case rel => exact ⟨m + 1 + 1, by omega, by go_num, HE, ⟨bDrewN HB1.out _⟩⟩
              case measure => simp [intOf]; omega
    · have hkl : k = l.length := by omega
      have HE : Kp (readB l = inB 1 200 l.length) := ⟨by unfold readB; rw [← hkl, HK.out, Bool.and_true]⟩
      have o4 : k ≤ 100000 := by have := HM.out; omega
      clear hkl
      go_wp2_with fail
      refine (rwithin_any (l.length : Int) 1 200 _).mono ?_
      rw [← HE.out]
      rintro e w1 ⟨rfl, rfl⟩
      go_wp2
      go_ret
      exact ⟨rfl, HB.out⟩
theorem rValidReadings_yes (v : Value) (l : List Rd) (w : World) (hs : RS w v l) (hm : l.length ≤ 100000) (h : readB l = true) : Calls Try.prog 18 #[v] w fun e w' => e = .returned (.bool true) ∧ Below w.heap.size w w' := h ▸ rValidReadings_any v l w hs hm
theorem rValidReadings_no (v : Value) (l : List Rd) (w : World) (hs : RS w v l) (hm : l.length ≤ 100000) (h : readB l = false) : Calls Try.prog 18 #[v] w fun e w' => e = .returned (.bool false) ∧ Below w.heap.size w w' := h ▸ rValidReadings_any v l w hs hm
end Go.Proofs.Ytbbbnfodjkpiaaa.Cd
