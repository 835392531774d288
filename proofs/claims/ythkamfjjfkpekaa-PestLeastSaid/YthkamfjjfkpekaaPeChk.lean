/-
  WALKS (layer 8, pest): the error of a house, of names and of numbers.
-/
import Derived.Test.YthkamfjjfkpekaaPeFull
namespace Go.Proofs.Ythkamfjjfkpekaa.Pe
open Go Go.RowKit Go.Proofs Go.Sort

/-- The error of a house, or else of names, or else of numbers. -/
def chkE (V n q : Bool) : Int := if V then (if n then (if q then 0 else 7) else 5) else 1
theorem chkE_zero {V n q : Bool} (h : chkE V n q = 0) : V = true ∧ n = true ∧ q = true := by
  cases V <;> cases n <;> cases q <;> simp [chkE] at h ⊢
theorem chkE_cases (V n q : Bool) : chkE V n q = 0 ∨ chkE V n q = 1 ∨ chkE V n q = 5 ∨ chkE V n q = 7 := by
  cases V <;> cases n <;> cases q <;> simp [chkE]
set_option maxRecDepth 100000 in
set_option maxHeartbeats 1000000 in
theorem checked_any (R x y : Int) (v : Value) (ds : List Dr) (n q : Bool) (w : World) (hv : DS w v ds) (hl : ds.length ≤ 9223372036854775807) :
    Calls Try.prog 48 #[.agg #[.int .i64 R, v, .int .i64 x, .int .i64 y], .bool n, .bool q] w fun e w' => e = .returned (.int .i64 (chkE (valB R ds x y) n q)) ∧ Below w.heap.size w w' := by
  have HV : Kp (∀ W, Below w.heap.size w W → Calls Try.prog 19 #[.agg #[.int .i64 R, v, .int .i64 x, .int .i64 y]] W fun e w' => e = .returned (.bool (valB R ds x y)) ∧ Below W.heap.size W w') := ⟨fun W hW => Valid_any R x y v ds W (hv.below hW) hl⟩
  obtain ⟨g, c, rfl⟩ := hv.shape
  obtain ⟨V, hV⟩ : ∃ V, valB R ds x y = V := ⟨_, rfl⟩
  obtain ⟨M, hM⟩ : ∃ M, ds.length = M := ⟨_, rfl⟩
  rw [hV, hM] at HV
  rw [hV, hM]
  clear hV hM hv hl
  cases V with
  | false =>
    have HE : Kp (chkE false n q = 1) := ⟨rfl⟩
    go_enter Try.func48, Try.ntmps48
    go_wp2_with fail
    refine (HV.out _ (by repeat (first | exact Below.refl _ _ | refine Below.alloc ?_ (by simp <;> omega) _ | refine bDrewN ?_ _ | refine Below.drew ?_))).mono ?_
    rintro en w1 ⟨rfl, hb1⟩
    have HB1 : Kp (Below w.heap.size w w1) := ⟨Below.trans (by repeat (first | exact Below.refl _ _ | refine Below.alloc ?_ (by simp <;> omega) _ | refine bDrewN ?_ _ | refine Below.drew ?_)) (hb1.mono (by simp <;> omega))⟩
    clear hb1
    go_wp2
    go_ret
    exact ⟨by rw [HE.out]; rfl, HB1.out⟩
  | true =>
    cases n with
    | false =>
      have HE : Kp (chkE true false q = 5) := ⟨rfl⟩
      go_enter Try.func48, Try.ntmps48
      go_wp2_with fail
      refine (HV.out _ (by repeat (first | exact Below.refl _ _ | refine Below.alloc ?_ (by simp <;> omega) _ | refine bDrewN ?_ _ | refine Below.drew ?_))).mono ?_
      rintro en w1 ⟨rfl, hb1⟩
      have HB1 : Kp (Below w.heap.size w w1) := ⟨Below.trans (by repeat (first | exact Below.refl _ _ | refine Below.alloc ?_ (by simp <;> omega) _ | refine bDrewN ?_ _ | refine Below.drew ?_)) (hb1.mono (by simp <;> omega))⟩
      clear hb1
      go_wp2
      go_ret
      exact ⟨by rw [HE.out]; rfl, HB1.out⟩
    | true =>
      cases q with
      | false =>
        go_enter Try.func48, Try.ntmps48
        go_wp2_with fail
        refine (HV.out _ (by repeat (first | exact Below.refl _ _ | refine Below.alloc ?_ (by simp <;> omega) _ | refine bDrewN ?_ _ | refine Below.drew ?_))).mono ?_
        rintro en w1 ⟨rfl, hb1⟩
        have HB1 : Kp (Below w.heap.size w w1) := ⟨Below.trans (by repeat (first | exact Below.refl _ _ | refine Below.alloc ?_ (by simp <;> omega) _ | refine bDrewN ?_ _ | refine Below.drew ?_)) (hb1.mono (by simp <;> omega))⟩
        clear hb1
        go_wp2
        go_ret
        exact ⟨rfl, HB1.out⟩
      | true =>
        go_enter Try.func48, Try.ntmps48
        go_wp2_with fail
        refine (HV.out _ (by repeat (first | exact Below.refl _ _ | refine Below.alloc ?_ (by simp <;> omega) _ | refine bDrewN ?_ _ | refine Below.drew ?_))).mono ?_
        rintro en w1 ⟨rfl, hb1⟩
        have HB1 : Kp (Below w.heap.size w w1) := ⟨Below.trans (by repeat (first | exact Below.refl _ _ | refine Below.alloc ?_ (by simp <;> omega) _ | refine bDrewN ?_ _ | refine Below.drew ?_)) (hb1.mono (by simp <;> omega))⟩
        clear hb1
        go_wp2
        go_ret
        exact ⟨rfl, HB1.out⟩
end Go.Proofs.Ythkamfjjfkpekaa.Pe
