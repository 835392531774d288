/-
  A loop in which deferrals grow: each round ranges over a function and so lays one more; the function's return takes them all. What is asked of one loan by another.
-/
import Derived.Test.YtaofjomocefdkaaLnClone
import Derived.Test.YtaofjomocefdkaaLnRefO
import Derived.LoopNIn
namespace Go.Proofs.Ytaofjomocefdkaa.Ln
open Go Go.RowKit Go.Sort

theorem loop_many {F : Fence} {n : Nat} {P : Program} {c : Code} {Q : Exit → Act → World → Prop} (I : Nat → Act → World → Prop) (N : Nat)
    (hstep : ∀ k a w, k ≤ N → I k a w → c.wpIn F n P (Exit.then (fun a' w' => k < N ∧ I (k + 1) a' w') Q) a w) {a : Act} {w : World} (h : I 0 a w) : (Code.loop c).wpIn F n P Q a w := by
  have key : ∀ m k a w, k + m = N → I k a w → Code.roundsIn F n P c Q (m + 1) a w := by
    intro m
    induction m with
    | zero =>
      intro k a w hk hi
      rw [roundsIn_succ]
      refine Code.wpIn_mono (fun e a' w' he => ?_) (hstep k a w (by omega) hi)
      cases e with
      | normal => exact absurd he.1 (by omega)
      | ret => exact he
      | exit id => exact he
      | goto id => exact he
      | panic ch => exact he
      | outgrown => exact he
    | succ m ih =>
      intro k a w hk hi
      rw [roundsIn_succ]
      refine Code.wpIn_mono (fun e a' w' he => ?_) (hstep k a w (by omega) hi)
      cases e with
      | normal => exact ih (k + 1) a' w' (by omega) he.2
      | ret => exact he
      | exit id => exact he
      | goto id => exact he
      | panic ch => exact he
      | outgrown => exact he
  exact wpIn_loop_rounds (N + 1) (key N 0 a w (by omega) h)
def markD (D : Nat) : Deferred := { target := .collected D, args := #[] }
/-- All marks are taken, one after the other. -/
theorem leaves_marks {F : Fence} {n : Nat} {P : Program} {fn : Func} {tmps : Array Value} {R : Ending → World → Prop} (I : World → Prop) : ∀ (Ds : List Nat) (w : World), Ds.Nodup → (∀ D ∈ Ds, w.heap[D]? = some (.deferred (some []))) →
    (∀ W D, D ∈ Ds → I W → W.heap[D]? = some (.deferred (some [])) → I (W.putObj D (.deferred none))) → I w → (∀ w', I w' → LeavesInM F n P fn tmps R [] .returning w') → LeavesInM F n P fn tmps R (Ds.map markD) .returning w
  | [], w, _, _, _, hi, hl => hl w hi
  | D :: Ds, w, hn, hd, ht, hi, hl => by
    rw [List.nodup_cons] at hn
    refine ⟨by simp, .inl ⟨D, _, rfl, run_takeDeferred (hd D (by simp)), leaves_marks I Ds _ hn.2 (fun D' hD' => ?_) (fun W D' hD' => ht W D' (by simp [hD'])) (ht w D (by simp) hi (hd D (by simp))) hl⟩⟩
    have : D' ≠ D := fun e => hn.1 (e ▸ hD')
    exact (World.putObj_heap_other this).trans (hd D' (by simp [hD']))
theorem clashes_any (y x : Loan) (w : World) : Calls Try.prog 56 #[.agg #[.string y.p, .string y.t, .int .i64 y.out, .int .i64 y.due, .int .i64 y.back], .agg #[.string x.p, .string x.t, .int .i64 x.out, .int .i64 x.due, .int .i64 x.back]] w fun e w' => e = .returned (.bool (csB x y)) ∧ Below w.heap.size w w' := by
  have HI : Kp (∀ W, Calls Try.prog 63 #[.agg #[.string y.p, .string y.t, .int .i64 y.out, .int .i64 y.due, .int .i64 y.back], .string x.p] W fun e w' => e = .returned (.bool (eqS y.p x.p)) ∧ Below W.heap.size W w') := ⟨fun W => isOf_any y x.p W⟩
  have HO : Kp (∀ W, Calls Try.prog 64 #[.agg #[.string x.p, .string x.t, .int .i64 x.out, .int .i64 x.due, .int .i64 x.back], .int .i64 y.out] W fun e w' => e = .returned (.bool (outB x y.out)) ∧ Below W.heap.size W w') := ⟨fun W => isOut_any x y.out W⟩
  have hc : csB x y = (eqS y.p x.p && outB x y.out) := rfl
  rw [hc]
  obtain ⟨P, hP⟩ : ∃ P, eqS y.p x.p = P := ⟨_, rfl⟩
  obtain ⟨R, hR⟩ : ∃ R, outB x y.out = R := ⟨_, rfl⟩
  rw [hP] at HI ⊢
  rw [hR] at HO ⊢
  clear hP hR hc
  obtain ⟨p, t, o, d, b⟩ := y
  obtain ⟨xp, xt, xo, xd, xb⟩ := x
  simp only at *
  obtain ⟨W1, hW1⟩ : ∃ W1, (w.alloc (.cells #[.string p, .string t, .int .i64 o, .int .i64 d, .int .i64 b] 62)).alloc (.cells #[.string xp, .string xt, .int .i64 xo, .int .i64 xd, .int .i64 xb] 26) = W1 := ⟨_, rfl⟩
  have hb1 : Below w.heap.size w W1 := by rw [← hW1]; exact by repeat (first | exact Below.refl _ _ | refine Below.alloc ?_ (by simp <;> omega) _ | refine bDrewN ?_ _ | refine Below.drew ?_)
  have hz : W1.heap.size = w.heap.size + 2 := by rw [← hW1]; simp
  have hy : LAt W1 w.heap.size 0 ⟨p, t, o, d, b⟩ := by subst hW1; exact ⟨by go_simp, by go_simp, by go_simp, by go_simp, by go_simp⟩
  have hx : LAt W1 (w.heap.size + 1) 0 ⟨xp, xt, xo, xd, xb⟩ := by subst hW1; exact ⟨by go_simp, by go_simp, by go_simp, by go_simp, by go_simp⟩
  have HY := Kp.mk hy
  have HX := Kp.mk hx
  have HB1 := Kp.mk hb1
  obtain ⟨c0, c1, c2, c3, c4⟩ := hy
  obtain ⟨d0, d1, d2, d3, d4⟩ := hx
  simp only [Nat.zero_add] at c0 c1 c2 c3 c4 d0 d1 d2 d3 d4
  clear hb1
  go_enter Try.func56, Try.ntmps56
  go_wp2_with fail
  try rw [hW1]
  clear hW1 hz c0 c1 c2 c3 c4 d0 d1 d2 d3 d4
  refine (HI.out _).mono ?_
  rintro en w1 ⟨rfl, hb2⟩
  have HB2 := Kp.mk (HB1.out.trans (hb2.mono HB1.out.size))
  obtain ⟨c0, c1, c2, c3, c4⟩ := HY.out.on hb2
  obtain ⟨d0, d1, d2, d3, d4⟩ := HX.out.on hb2
  simp only [Nat.zero_add] at c0 c1 c2 c3 c4 d0 d1 d2 d3 d4
  clear hb2
  cases P with
  | false =>
    go_wp2
    go_ret
    exact ⟨rfl, HB2.out⟩
  | true =>
    go_wp2_with fail
    refine (HO.out _).mono ?_
    rintro en w2 ⟨rfl, hb3⟩
    have HB3 := Kp.mk (HB2.out.trans (hb3.mono HB2.out.size))
    clear hb3
    go_wp2
    go_ret
    exact ⟨rfl, HB3.out⟩
end Go.Proofs.Ytaofjomocefdkaa.Ln
