/-
  THE WALK of the law BathParts.
-/
import Derived.Test.YtakldbpfdoeimaaBtPartsA
import Derived.Test.YtakldbpfdoeimaaBtLawRuns
import Derived.Deep.CutRange
import Derived.Deep.DeepCutAuto
import Derived.Deep.RegionWith
import Derived.Deep.RegionLaw
namespace Go.Proofs.Ytakldbpfdoeimaa.Bt
open Go Go.RowKit Go.Sort
attribute [-go_sem] Builtin.append_

/-- What Run answers. -/
def runF (v : Va) (l : List St) : Va × Nat × Int := if vatB v then if stepsB l then ((runR l v 0).1, (runR l v 0).2.1, (runR l v 0).2.2) else (zeroV, 0, 1) else (zeroV, 0, 1)
theorem Run_short (bw bs ba sw ss sa so gw gs ga : Int) (v : Value) (l : List St) (w : World) (hs : RS w v l) (hl : l.length ≤ 300) : RunC 30 bw bs ba sw ss sa so gw gs ga v w (runF ⟨⟨bw, bs, ba⟩, ⟨sw, ss, sa, so⟩, ⟨gw, gs, ga⟩⟩ l).1 (runF ⟨⟨bw, bs, ba⟩, ⟨sw, ss, sa, so⟩, ⟨gw, gs, ga⟩⟩ l).2.1 (runF ⟨⟨bw, bs, ba⟩, ⟨sw, ss, sa, so⟩, ⟨gw, gs, ga⟩⟩ l).2.2 := by
  cases hv : vatB ⟨⟨bw, bs, ba⟩, ⟨sw, ss, sa, so⟩, ⟨gw, gs, ga⟩⟩ with
  | false =>
    have e : runF ⟨⟨bw, bs, ba⟩, ⟨sw, ss, sa, so⟩, ⟨gw, gs, ga⟩⟩ l = (zeroV, 0, 1) := by unfold runF; rw [hv]; rfl
    rw [e]
    exact Run_inv bw bs ba sw ss sa so gw gs ga v w hv
  | true =>
    cases h : stepsB l with
    | false =>
      have e : runF ⟨⟨bw, bs, ba⟩, ⟨sw, ss, sa, so⟩, ⟨gw, gs, ga⟩⟩ l = (zeroV, 0, 1) := by unfold runF; rw [hv, h]; rfl
      rw [e]
      exact Run_bad bw bs ba sw ss sa so gw gs ga v l w hv hs hl h
    | true =>
      have e : runF ⟨⟨bw, bs, ba⟩, ⟨sw, ss, sa, so⟩, ⟨gw, gs, ga⟩⟩ l = ((runR l ⟨⟨bw, bs, ba⟩, ⟨sw, ss, sa, so⟩, ⟨gw, gs, ga⟩⟩ 0).1, (runR l ⟨⟨bw, bs, ba⟩, ⟨sw, ss, sa, so⟩, ⟨gw, gs, ga⟩⟩ 0).2.1, (runR l ⟨⟨bw, bs, ba⟩, ⟨sw, ss, sa, so⟩, ⟨gw, gs, ga⟩⟩ 0).2.2) := by unfold runF; rw [hv, h]; rfl
      rw [e]
      exact Run_yes bw bs ba sw ss sa so gw gs ga v l w hv hs hl h
theorem Run_any (bw bs ba sw ss sa so gw gs ga : Int) (v : Value) (l : List St) (w : World) (hs : RS w v l) : RunC 30 bw bs ba sw ss sa so gw gs ga v w (runF ⟨⟨bw, bs, ba⟩, ⟨sw, ss, sa, so⟩, ⟨gw, gs, ga⟩⟩ l).1 (runF ⟨⟨bw, bs, ba⟩, ⟨sw, ss, sa, so⟩, ⟨gw, gs, ga⟩⟩ l).2.1 (runF ⟨⟨bw, bs, ba⟩, ⟨sw, ss, sa, so⟩, ⟨gw, gs, ga⟩⟩ l).2.2 := by
  by_cases hl : l.length ≤ 300
  · exact Run_short bw bs ba sw ss sa so gw gs ga v l w hs hl
  · cases hv : vatB ⟨⟨bw, bs, ba⟩, ⟨sw, ss, sa, so⟩, ⟨gw, gs, ga⟩⟩ with
    | false =>
      have e : runF ⟨⟨bw, bs, ba⟩, ⟨sw, ss, sa, so⟩, ⟨gw, gs, ga⟩⟩ l = (zeroV, 0, 1) := by unfold runF; rw [hv]; rfl
      rw [e]
      exact Run_inv bw bs ba sw ss sa so gw gs ga v w hv
    | true =>
      have h : stepsB l = false := by unfold stepsB; rw [decide_eq_false (by omega)]; rfl
      have e : runF ⟨⟨bw, bs, ba⟩, ⟨sw, ss, sa, so⟩, ⟨gw, gs, ga⟩⟩ l = (zeroV, 0, 1) := by unfold runF; rw [hv, h]; rfl
      rw [e]
      obtain ⟨g, c, rfl⟩ := hs.shape
      exact Run_long bw bs ba sw ss sa so gw gs ga g c l w hv (by omega)
theorem runR_cons (s : St) (r : List St) (v : Va) (i : Nat) : runR (s :: r) v i = if vatB (doS v s.k s.n) then runR r (doS v s.k s.n) (i + 1) else (zeroV, i, 4) := rfl
theorem runR_app (a b : List St) (v : Va) (i : Nat) : (runR a v i).2.2 = 0 → ∃ j, runR (a ++ b) v i = runR b (runR a v i).1 j := by
  induction a generalizing v i with
  | nil => exact fun _ => ⟨i, rfl⟩
  | cons s r ih =>
    intro h
    rw [runR_cons] at h
    rw [List.cons_append, runR_cons, runR_cons]
    cases hd : vatB (doS v s.k s.n) with
    | false => rw [hd] at h; simp at h
    | true =>
      rw [hd, if_pos rfl] at h
      obtain ⟨j, hj⟩ := ih _ _ h
      exact ⟨j, by rw [if_pos rfl, if_pos rfl, hj]⟩
theorem runR_from (l : List St) (v : Va) (i j : Nat) : (runR l v i).1 = (runR l v j).1 ∧ (runR l v i).2.2 = (runR l v j).2.2 := by
  induction l generalizing v i j with
  | nil => exact ⟨rfl, rfl⟩
  | cons s r ih =>
    unfold runR
    cases hd : vatB (doS v s.k s.n) with
    | false => exact ⟨rfl, rfl⟩
    | true => exact ih _ _ _
theorem runR_vat (l : List St) {v : Va} (i : Nat) (hv : vatB v = true) (h : (runR l v i).2.2 = 0) : vatB (runR l v i).1 = true := by
  induction l generalizing v i with
  | nil => exact hv
  | cons s r ih =>
    unfold runR at h ⊢
    cases hd : vatB (doS v s.k s.n) with
    | false => rw [hd] at h; simp at h
    | true => rw [hd, if_pos rfl] at h; rw [if_pos rfl]; exact ih _ hd h
/-- A run of steps and then of others is the run of both. -/
theorem run_parts {v : Va} {a b : List St} (ha : (runF v a).2.2 = 0) (hb : (runF (runF v a).1 b).2.2 = 0) (hl : a.length + b.length ≤ 200) : (runF v (a ++ b)).2.2 = 0 ∧ (runF v (a ++ b)).1 = (runF (runF v a).1 b).1 := by
  cases hv : vatB v with
  | false => unfold runF at ha; rw [hv] at ha; cases ha
  | true =>
    cases h : stepsB a with
    | false => unfold runF at ha; rw [hv, h] at ha; cases ha
    | true =>
      have ea : runF v a = ((runR a v 0).1, (runR a v 0).2.1, (runR a v 0).2.2) := by unfold runF; rw [hv, h]; rfl
      rw [ea] at ha hb ⊢
      simp only at ha hb ⊢
      have hm := runR_vat a 0 hv ha
      cases hbs : stepsB b with
      | false => unfold runF at hb; rw [hm, hbs] at hb; cases hb
      | true =>
        have eb : runF (runR a v 0).1 b = ((runR b (runR a v 0).1 0).1, (runR b (runR a v 0).1 0).2.1, (runR b (runR a v 0).1 0).2.2) := by unfold runF; rw [hm, hbs]; rfl
        rw [eb] at hb ⊢
        simp only at hb ⊢
        have hab : stepsB (a ++ b) = true := by
          unfold stepsB at h hbs ⊢
          rw [Bool.and_eq_true] at h hbs
          rw [List.all_append, h.2, hbs.2, decide_eq_true (by rw [List.length_append]; omega)]
          rfl
        have ec : runF v (a ++ b) = ((runR (a ++ b) v 0).1, (runR (a ++ b) v 0).2.1, (runR (a ++ b) v 0).2.2) := by unfold runF; rw [hv, hab]; rfl
        rw [ec]
        obtain ⟨j, hj⟩ := runR_app a b v 0 ha
        rw [hj]
        have := runR_from b (runR a v 0).1 j 0
        exact ⟨this.2.trans hb, this.1⟩


def TwoOk (bw bs ba sw ss sa so gw gs ga a b : Int) : Prop := ∃ o0 o1 o2 o3 o4 o5 o6 o7 o8 o9 t0 t1 t2 t3 t4 t5 t6 t7 t8 t9, StepC 32 bw bs ba sw ss sa so gw gs ga 1 a o0 o1 o2 o3 o4 o5 o6 o7 o8 o9 0 ∧ StepC 32 o0 o1 o2 o3 o4 o5 o6 o7 o8 o9 1 b t0 t1 t2 t3 t4 t5 t6 t7 t8 t9 0 ∧ StepC 32 bw bs ba sw ss sa so gw gs ga 1 (a + b) t0 t1 t2 t3 t4 t5 t6 t7 t8 t9 0
def TwoBad (bw bs ba sw ss sa so gw gs ga a b : Int) : Prop := ∃ o0 o1 o2 o3 o4 o5 o6 o7 o8 o9 t0 t1 t2 t3 t4 t5 t6 t7 t8 t9 c0 c1 c2 c3 c4 c5 c6 c7 c8 c9 i h, (h != 0) = true ∧ StepC 32 bw bs ba sw ss sa so gw gs ga 1 a o0 o1 o2 o3 o4 o5 o6 o7 o8 o9 h ∧ StepC 32 o0 o1 o2 o3 o4 o5 o6 o7 o8 o9 1 b t0 t1 t2 t3 t4 t5 t6 t7 t8 t9 i ∧ StepC 32 bw bs ba sw ss sa so gw gs ga 1 (a + b) c0 c1 c2 c3 c4 c5 c6 c7 c8 c9 h
set_option maxRecDepth 100000 in
set_option maxHeartbeats 8000000 in
theorem parts_core (bw bs ba sw ss sa so gw gs ga m0 m1 m2 m3 m4 m5 m6 m7 m8 m9 i1 e1 x0 x1 x2 x3 x4 x5 x6 x7 x8 x9 i2 e2 y0 y1 y2 y3 y4 y5 y6 y7 y8 y9 i3 e3 a b : Int) (pa pb : Option Addr) (ca cb : Nat) (la lb : List St) (w : World) (hla : la.length ≤ 300) (hlb : lb.length ≤ 300) (ha : RS w (.slice pa la.length ca) la) (hb : RS w (.slice pb lb.length cb) lb)
    (H1 : Kp (∀ W, Below w.heap.size w W → Calls Try.prog 30 #[.agg #[.int .i64 bw, .int .i64 bs, .int .i64 ba, .int .i64 sw, .int .i64 ss, .int .i64 sa, .int .i64 so, .int .i64 gw, .int .i64 gs, .int .i64 ga], .slice pa la.length ca] W fun en w' => en = .returned (.tuple #[.agg #[.int .i64 m0, .int .i64 m1, .int .i64 m2, .int .i64 m3, .int .i64 m4, .int .i64 m5, .int .i64 m6, .int .i64 m7, .int .i64 m8, .int .i64 m9], .int .i64 i1, .int .i64 e1]) ∧ Below W.heap.size W w'))
    (H2 : Kp (∀ W, Below w.heap.size w W → Calls Try.prog 30 #[.agg #[.int .i64 m0, .int .i64 m1, .int .i64 m2, .int .i64 m3, .int .i64 m4, .int .i64 m5, .int .i64 m6, .int .i64 m7, .int .i64 m8, .int .i64 m9], .slice pb lb.length cb] W fun en w' => en = .returned (.tuple #[.agg #[.int .i64 x0, .int .i64 x1, .int .i64 x2, .int .i64 x3, .int .i64 x4, .int .i64 x5, .int .i64 x6, .int .i64 x7, .int .i64 x8, .int .i64 x9], .int .i64 i2, .int .i64 e2]) ∧ Below W.heap.size W w'))
    (H3 : Kp (∀ W v, RS W v (la ++ lb) → Calls Try.prog 30 #[.agg #[.int .i64 bw, .int .i64 bs, .int .i64 ba, .int .i64 sw, .int .i64 ss, .int .i64 sa, .int .i64 so, .int .i64 gw, .int .i64 gs, .int .i64 ga], v] W fun en w' => en = .returned (.tuple #[.agg #[.int .i64 y0, .int .i64 y1, .int .i64 y2, .int .i64 y3, .int .i64 y4, .int .i64 y5, .int .i64 y6, .int .i64 y7, .int .i64 y8, .int .i64 y9], .int .i64 i3, .int .i64 e3]) ∧ Below W.heap.size W w'))
    (HC : Kp (e1 = 0 → e2 = 0 → la.length + lb.length ≤ 200 → e3 = 0 ∧ (y0 = x0 ∧ y1 = x1 ∧ y2 = x2 ∧ y3 = x3 ∧ y4 = x4 ∧ y5 = x5 ∧ y6 = x6 ∧ y7 = x7 ∧ y8 = x8 ∧ y9 = x9)))
    (HD : Kp (0 ≤ a → a ≤ 500 → 0 ≤ b → b ≤ 500 → TwoOk bw bs ba sw ss sa so gw gs ga a b ∨ TwoBad bw bs ba sw ss sa so gw gs ga a b)) :
    Calls Try.prog 12 #[.agg #[.int .i64 bw, .int .i64 bs, .int .i64 ba, .int .i64 sw, .int .i64 ss, .int .i64 sa, .int .i64 so, .int .i64 gw, .int .i64 gs, .int .i64 ga], .slice pa la.length ca, .slice pb lb.length cb, .agg #[.int .i64 a, .int .i64 b]] w (Ends w) := by
  have HLA := Lib.hid hla
  have HLB := Lib.hid hlb
  have HRA := Lib.hid ha
  have HRB := Lib.hid hb
  clear hla hlb ha hb
  go_enter Try.func12, Try.ntmps12
  go_wp2_with fail
  refine (long_no _ _ _ _ HLA.out).mono ?_
  rintro e0 w0 ⟨rfl, rfl⟩
  go_wp2_with fail
  refine (long_no _ _ _ _ HLB.out).mono ?_
  rintro e0 w0 ⟨rfl, rfl⟩
  go_wp2_with fail
  refine (H1.out _ (by repeat (first | exact Below.refl _ _ | refine Below.alloc ?_ (by simp <;> omega) _ | refine bDrewN ?_ _ | refine Below.drew ?_))).mono ?_
  rintro e0 w1 ⟨rfl, hb1⟩
  have HB1 : Kp (Below w.heap.size w w1) := ⟨Below.trans (by repeat (first | refine Below.alloc ?_ (by (try simp) <;> omega) _ | refine bDrewN ?_ _ | refine Below.drew ?_ | exact Below.refl _ _)) (hb1.mono (by (try simp) <;> omega))⟩
  have hz1_0 : w.heap.size < w1.heap.size := by have := hb1.size; (try simp at this); omega
  have hz1_1 : w.heap.size + 1 < w1.heap.size := by have := hb1.size; (try simp at this); omega
  obtain ⟨hc, hf⟩ := bcell hb1
  have c1_0_0 : w1.cell? ⟨w.heap.size, 0, none⟩ = some (.int .i64 bw) := (hc _ _ (by (try simp) <;> omega)).trans (by go_simp)
  have c1_0_1 : w1.cell? ⟨w.heap.size, 1, none⟩ = some (.int .i64 bs) := (hc _ _ (by (try simp) <;> omega)).trans (by go_simp)
  have c1_0_2 : w1.cell? ⟨w.heap.size, 2, none⟩ = some (.int .i64 ba) := (hc _ _ (by (try simp) <;> omega)).trans (by go_simp)
  have c1_0_3 : w1.cell? ⟨w.heap.size, 3, none⟩ = some (.int .i64 sw) := (hc _ _ (by (try simp) <;> omega)).trans (by go_simp)
  have c1_0_4 : w1.cell? ⟨w.heap.size, 4, none⟩ = some (.int .i64 ss) := (hc _ _ (by (try simp) <;> omega)).trans (by go_simp)
  have c1_0_5 : w1.cell? ⟨w.heap.size, 5, none⟩ = some (.int .i64 sa) := (hc _ _ (by (try simp) <;> omega)).trans (by go_simp)
  have c1_0_6 : w1.cell? ⟨w.heap.size, 6, none⟩ = some (.int .i64 so) := (hc _ _ (by (try simp) <;> omega)).trans (by go_simp)
  have c1_0_7 : w1.cell? ⟨w.heap.size, 7, none⟩ = some (.int .i64 gw) := (hc _ _ (by (try simp) <;> omega)).trans (by go_simp)
  have c1_0_8 : w1.cell? ⟨w.heap.size, 8, none⟩ = some (.int .i64 gs) := (hc _ _ (by (try simp) <;> omega)).trans (by go_simp)
  have c1_0_9 : w1.cell? ⟨w.heap.size, 9, none⟩ = some (.int .i64 ga) := (hc _ _ (by (try simp) <;> omega)).trans (by go_simp)
  have z1_0 : ∀ j, w1.frozen? ⟨w.heap.size, j, none⟩ = false := fun j => (hf _ _ (by (try simp) <;> omega)).trans (by go_simp)
  have c1_1_0 : w1.cell? ⟨w.heap.size + 1, 0, none⟩ = some (.int .i64 a) := (hc _ _ (by (try simp) <;> omega)).trans (by go_simp)
  have c1_1_1 : w1.cell? ⟨w.heap.size + 1, 1, none⟩ = some (.int .i64 b) := (hc _ _ (by (try simp) <;> omega)).trans (by go_simp)
  have z1_1 : ∀ j, w1.frozen? ⟨w.heap.size + 1, j, none⟩ = false := fun j => (hf _ _ (by (try simp) <;> omega)).trans (by go_simp)
  clear hc hf hb1
  go_wp2_with fail
  refine (H2.out _ (HB1.out.alloc HB1.out.size _)).mono ?_
  rintro e0 w2 ⟨rfl, hb2⟩
  have HB2 : Kp (Below w.heap.size w w2) := ⟨Below.trans (by repeat (first | refine Below.alloc ?_ (by have := HB1.out.size; (try simp) <;> omega) _ | refine bDrewN ?_ _ | refine Below.drew ?_ | exact HB1.out)) (hb2.mono (by have := HB1.out.size; (try simp) <;> omega))⟩
  have hz2_0 : w.heap.size < w2.heap.size := by have := hb2.size; (try simp at this); omega
  have hz2_1 : w.heap.size + 1 < w2.heap.size := by have := hb2.size; (try simp at this); omega
  obtain ⟨hc, hf⟩ := bcell hb2
  have c2_0_0 : w2.cell? ⟨w.heap.size, 0, none⟩ = some (.int .i64 bw) := (hc _ _ (by (try simp) <;> omega)).trans (by go_simp)
  have c2_0_1 : w2.cell? ⟨w.heap.size, 1, none⟩ = some (.int .i64 bs) := (hc _ _ (by (try simp) <;> omega)).trans (by go_simp)
  have c2_0_2 : w2.cell? ⟨w.heap.size, 2, none⟩ = some (.int .i64 ba) := (hc _ _ (by (try simp) <;> omega)).trans (by go_simp)
  have c2_0_3 : w2.cell? ⟨w.heap.size, 3, none⟩ = some (.int .i64 sw) := (hc _ _ (by (try simp) <;> omega)).trans (by go_simp)
  have c2_0_4 : w2.cell? ⟨w.heap.size, 4, none⟩ = some (.int .i64 ss) := (hc _ _ (by (try simp) <;> omega)).trans (by go_simp)
  have c2_0_5 : w2.cell? ⟨w.heap.size, 5, none⟩ = some (.int .i64 sa) := (hc _ _ (by (try simp) <;> omega)).trans (by go_simp)
  have c2_0_6 : w2.cell? ⟨w.heap.size, 6, none⟩ = some (.int .i64 so) := (hc _ _ (by (try simp) <;> omega)).trans (by go_simp)
  have c2_0_7 : w2.cell? ⟨w.heap.size, 7, none⟩ = some (.int .i64 gw) := (hc _ _ (by (try simp) <;> omega)).trans (by go_simp)
  have c2_0_8 : w2.cell? ⟨w.heap.size, 8, none⟩ = some (.int .i64 gs) := (hc _ _ (by (try simp) <;> omega)).trans (by go_simp)
  have c2_0_9 : w2.cell? ⟨w.heap.size, 9, none⟩ = some (.int .i64 ga) := (hc _ _ (by (try simp) <;> omega)).trans (by go_simp)
  have z2_0 : ∀ j, w2.frozen? ⟨w.heap.size, j, none⟩ = false := fun j => (hf _ _ (by (try simp) <;> omega)).trans (by go_simp)
  have c2_1_0 : w2.cell? ⟨w.heap.size + 1, 0, none⟩ = some (.int .i64 a) := (hc _ _ (by (try simp) <;> omega)).trans (by go_simp)
  have c2_1_1 : w2.cell? ⟨w.heap.size + 1, 1, none⟩ = some (.int .i64 b) := (hc _ _ (by (try simp) <;> omega)).trans (by go_simp)
  have z2_1 : ∀ j, w2.frozen? ⟨w.heap.size + 1, j, none⟩ = false := fun j => (hf _ _ (by (try simp) <;> omega)).trans (by go_simp)
  clear hc hf hb2
  have HB3 : Kp (Below w.heap.size w (w2.alloc (.cells #[.int .i64 x0, .int .i64 x1, .int .i64 x2, .int .i64 x3, .int .i64 x4, .int .i64 x5, .int .i64 x6, .int .i64 x7, .int .i64 x8, .int .i64 x9] 27))) := ⟨HB2.out.alloc HB2.out.size _⟩
  have HV3 : Kp (VatAt (w2.alloc (.cells #[.int .i64 x0, .int .i64 x1, .int .i64 x2, .int .i64 x3, .int .i64 x4, .int .i64 x5, .int .i64 x6, .int .i64 x7, .int .i64 x8, .int .i64 x9] 27)) w.heap.size ⟨⟨bw, bs, ba⟩, ⟨sw, ss, sa, so⟩, ⟨gw, gs, ga⟩⟩) := ⟨vatAt_alloc' ⟨c2_0_0, c2_0_1, c2_0_2, c2_0_3, c2_0_4, c2_0_5, c2_0_6, c2_0_7, c2_0_8, c2_0_9, z2_0⟩ _⟩
  have HX3 : Kp (VatAt (w2.alloc (.cells #[.int .i64 x0, .int .i64 x1, .int .i64 x2, .int .i64 x3, .int .i64 x4, .int .i64 x5, .int .i64 x6, .int .i64 x7, .int .i64 x8, .int .i64 x9] 27)) w2.heap.size ⟨⟨x0, x1, x2⟩, ⟨x3, x4, x5, x6⟩, ⟨x7, x8, x9⟩⟩) := ⟨by constructor <;> (try intro j) <;> go_simp⟩
  have HP3 : Kp ((w2.alloc (.cells #[.int .i64 x0, .int .i64 x1, .int .i64 x2, .int .i64 x3, .int .i64 x4, .int .i64 x5, .int .i64 x6, .int .i64 x7, .int .i64 x8, .int .i64 x9] 27)).cell? ⟨w.heap.size + 1, 0, none⟩ = some (.int .i64 a) ∧ (w2.alloc (.cells #[.int .i64 x0, .int .i64 x1, .int .i64 x2, .int .i64 x3, .int .i64 x4, .int .i64 x5, .int .i64 x6, .int .i64 x7, .int .i64 x8, .int .i64 x9] 27)).cell? ⟨w.heap.size + 1, 1, none⟩ = some (.int .i64 b)) := ⟨by constructor <;> go_simp⟩
  go_upto_region 5 with fail
  obtain ⟨Z, hZ⟩ : ∃ Z, w.heap.size = Z := ⟨_, rfl⟩
  obtain ⟨Z1, hZ1⟩ : ∃ Z, w1.heap.size = Z := ⟨_, rfl⟩
  obtain ⟨X, hX⟩ : ∃ Z, w2.heap.size = Z := ⟨_, rfl⟩
  obtain ⟨W, hW⟩ : ∃ W, w2.alloc (.cells #[.int .i64 x0, .int .i64 x1, .int .i64 x2, .int .i64 x3, .int .i64 x4, .int .i64 x5, .int .i64 x6, .int .i64 x7, .int .i64 x8, .int .i64 x9] 27) = W := ⟨_, rfl⟩
  have HN : Kp (w.heap.size = Z ∧ Z + 1 < X ∧ W.heap.size = X + 1) := ⟨by rw [← hW]; simp; omega⟩
  rw [hZ, hZ1, hX, hW]
  rw [hW] at HB3
  rw [hW, hZ] at HV3 HP3
  rw [hW, hX] at HX3
  clear hz2_0 hz2_1 hz1_0 hz1_1 c2_0_0 c2_0_1 c2_0_2 c2_0_3 c2_0_4 c2_0_5 c2_0_6 c2_0_7 c2_0_8 c2_0_9 z2_0 c2_1_0 c2_1_1 z2_1 HB1 HB2 hZ hZ1 hX hW H1 H2
  go_cut [15, 16, 17] (fun s15 s16 s17 wx => ∃ Y, s15 = .pointer (some ⟨Y, 0, none⟩) ∧ s16 = .int .i64 i3 ∧ s17 = .int .i64 e3 ∧ VatAt wx Y ⟨⟨y0, y1, y2⟩, ⟨y3, y4, y5, y6⟩, ⟨y7, y8, y9⟩⟩ ∧ Kp (Below W.heap.size W wx))
  case first =>
    have RA : Kp (∀ X, Below W.heap.size W X → RS X (.slice pa la.length ca) la) := ⟨fun X h => HRA.out.below (HB3.out.trans (h.mono HB3.out.size))⟩
    have RB : Kp (∀ X, Below W.heap.size W X → RS X (.slice pb lb.length cb) lb) := ⟨fun X h => HRB.out.below (HB3.out.trans (h.mono HB3.out.size))⟩
    obtain ⟨a0, a1, a2, a3, a4, a5, a6, a7, a8, a9, az⟩ := HV3.out
    simp only at a0 a1 a2 a3 a4 a5 a6 a7 a8 a9
    have hlz := HV3.out.lt
    go_region_law (first
      | (have hx2 := HO2.out
         clear hx2
         go_simp
         go_at_call 30
         refine (H3.out _ _ (by first | exact rs_app HO2.out | exact rs_app (HO2.out.alloc _))).mono ?_
         rintro e0 w5 ⟨rfl, hb5⟩
         have hs2 := HB2.out.size
         have HB5 : Kp (Below W.heap.size W w5) := ⟨Below.trans (by (repeat (with_reducible first | exact Below.refl _ _ | exact HB1.out | exact HB2.out | refine Below.alloc ?_ ?_ _ | refine Below.drew ?_ | refine bDrewN ?_ _)); all_goals ((try simp) <;> omega)) (hb5.mono (by (try simp) <;> omega))⟩
         first
           | have HY5 := Lib.hid (HY2.out.same (hb5.block _ HY2.out.lt))
             obtain ⟨p0, p1, p2, p3, p4, p5, p6, p7, p8, p9, pz⟩ := HY5.out
             simp only [zeroV] at p0 p1 p2 p3 p4 p5 p6 p7 p8 p9
           | (refine cutin (p := VatAt w5 w2.heap.size zeroV) (VatAt.same ?_ (hb5.block _ ?_)) (fun HY5 => ?_)
              · (constructor <;> (try intro j) <;> ((try simp only [zeroV]); go_simp; done))
              · (simp; done))
             obtain ⟨p0, p1, p2, p3, p4, p5, p6, p7, p8, p9, pz⟩ := HY5.out
             simp only [zeroV] at p0 p1 p2 p3 p4 p5 p6 p7 p8 p9
           | skip
         clear hb5 hs2)
      | (have hx1 := HO1.out
         clear hx1
         have hs1 := HB1.out.size
         refine step_app (base := W.heap.size) (la := la) (lb := lb) rfl _ _ rfl rfl (v := .slice g1 la.length c1) (by first | exact HO1.out | exact HO1.out.alloc _) (RB.out _ (by (repeat (with_reducible first | exact Below.refl _ _ | exact HB1.out | exact HB2.out | refine Below.alloc ?_ ?_ _ | refine Below.drew ?_ | refine bDrewN ?_ _)); all_goals ((try simp) <;> omega))) rfl rfl (by have := HLA.out; have := HLB.out; omega) (by have := HB1.out.size; (try simp) <;> omega) ?_
         intro g2 c2 w2 ho2 hl2 hg2 ha2
         simp only [List.length_append] at ho2
         have HO2 := Kp.mk ho2
         have HB2 : Kp (Below W.heap.size W w2) := ⟨Below.trans (by (repeat (with_reducible first | exact Below.refl _ _ | exact HB1.out | refine Below.alloc ?_ ?_ _ | refine Below.drew ?_)); all_goals ((try simp) <;> omega)) hl2⟩
         have HV2 := Lib.hid (HV3.out.same (HB2.out.block _ HV3.out.lt))
         first
           | have HY2 := Lib.hid (HY1.out.1.same (hg2.block _ HY1.out.1.lt (fun e => HY1.out.2 e.symm)))
           | (refine cutin (p := VatAt w2 w1.heap.size zeroV) (VatAt.same ?_ (hg2.block _ ?_ (fun e => absurd (HO1.out.lt _ e.symm).2 (Nat.lt_irrefl _)))) (fun HY2 => ?_)
              · (constructor <;> (try intro j) <;> ((try simp only [zeroV]); go_simp; done))
              · (simp; done))
           | skip
         clear ho2 hg2 ha2 hl2 hs1
         have hlz2 := HV2.out.lt
         obtain ⟨q0, q1, q2, q3, q4, q5, q6, q7, q8, q9, qz⟩ := HV2.out
         simp only at q0 q1 q2 q3 q4 q5 q6 q7 q8 q9)
      | (refine step_app (base := W.heap.size) (la := []) (lb := la) rfl _ _ rfl rfl (own_empty ?_ ?_) (RA.out _ ?_) rfl rfl ?_ ?_ ?_
         · ((try simp) <;> omega)
         · first | exact World.alloc_heap_new W _ | exact (Below.heap_alloc (W.alloc _) _ W.heap.size (by simp)).trans (World.alloc_heap_new W _) | (have h := World.alloc_heap_new (W.alloc (.cells #[.int .i64 0, .int .i64 0, .int .i64 0, .int .i64 0, .int .i64 0, .int .i64 0, .int .i64 0, .int .i64 0, .int .i64 0, .int .i64 0] 27)) (.cells #[] 46); rw [World.size_alloc] at h; exact h)
         · ((repeat (with_reducible first | exact Below.refl _ _ | refine Below.alloc ?_ ?_ _ | refine Below.drew ?_)); all_goals ((try simp) <;> omega))
         · (have hxa := HLA.out; simp; omega)
         · ((try simp) <;> omega)
         intro g1 c1 w1 ho1 hl1 hg1 ha1
         simp only [List.nil_append] at ho1 ha1 ⊢
         have HO1 := Kp.mk ho1
         have HB1 : Kp (Below W.heap.size W w1) := ⟨Below.trans (by (repeat (with_reducible first | exact Below.refl _ _ | refine Below.alloc ?_ ?_ _ | refine Below.drew ?_)); all_goals ((try simp) <;> omega)) hl1⟩
         have HV1 := Lib.hid (HV3.out.same (HB1.out.block _ HV3.out.lt))
         first
           | (refine cutin (p := VatAt w1 W.heap.size zeroV ∧ (Value.slice g1 la.length c1).ownBlock ≠ some W.heap.size) ⟨VatAt.same ?_ (hg1.block _ ?_ ?_), ?_⟩ (fun HY1 => ?_)
              · (constructor <;> (try intro j) <;> ((try simp only [zeroV]); go_simp; done))
              · ((try simp) <;> omega)
              · (simp [Value.ownBlock] <;> omega)
              · (rcases ha1 with h | h <;> rw [h] <;> simp [Value.ownBlock] <;> omega))
           | (refine cutin (p := VatAt w1 (W.heap.size + 1) zeroV ∧ (Value.slice g1 la.length c1).ownBlock ≠ some (W.heap.size + 1)) ⟨VatAt.same ?_ (hg1.block _ ?_ ?_), ?_⟩ (fun HY1 => ?_)
              · (constructor <;> (try intro j) <;> ((try simp only [zeroV]); go_simp; done))
              · ((try simp) <;> omega)
              · (simp [Value.ownBlock] <;> omega)
              · (rcases ha1 with h | h <;> rw [h] <;> simp [Value.ownBlock] <;> omega))
           | skip
         clear ho1 hg1 ha1 hl1
         have hlz1 := HV1.out.lt
         obtain ⟨r0, r1, r2, r3, r4, r5, r6, r7, r8, r9, rz⟩ := HV1.out
         simp only at r0 r1 r2 r3 r4 r5 r6 r7 r8 r9))
    all_goals
      go_wp2_with fail
      go_meet
      first
        | (have hs1 := HB1.out.size
           have hs2 := HB2.out.size
           have hy5 := HY5.out
           exact ⟨_, rfl, rfl, rfl, setVat_at (u' := ⟨⟨y0, y1, y2⟩, ⟨y3, y4, y5, y6⟩, ⟨y7, y8, y9⟩⟩) HY5.out, ⟨HB5.out.grown (setVat_grown w5 _ ⟨⟨y0, y1, y2⟩, ⟨y3, y4, y5, y6⟩, ⟨y7, y8, y9⟩⟩) HB5.out.size (fun j e => by simp only [Option.some.injEq] at e; omega)⟩⟩)
        | (refine ⟨_, rfl, rfl, rfl, ?_, ⟨HB5.out.alloc HB5.out.size _⟩⟩
           constructor <;> (try intro j) <;> go_simp)
  case rest =>
    obtain ⟨Y, rfl, rfl, rfl, hy, HB⟩ := hcut
    have HY0 := Kp.mk hy
    have HV0 : Kp (VatAt wc Z ⟨⟨bw, bs, ba⟩, ⟨sw, ss, sa, so⟩, ⟨gw, gs, ga⟩⟩) := ⟨HV3.out.same (HB.out.block _ HV3.out.lt)⟩
    have HX0 : Kp (VatAt wc X ⟨⟨x0, x1, x2⟩, ⟨x3, x4, x5, x6⟩, ⟨x7, x8, x9⟩⟩) := ⟨HX3.out.same (HB.out.block _ HX3.out.lt)⟩
    have HP0 : Kp (wc.cell? ⟨Z + 1, 0, none⟩ = some (.int .i64 a) ∧ wc.cell? ⟨Z + 1, 1, none⟩ = some (.int .i64 b)) := ⟨(HB.out.cell (p := ⟨Z + 1, 0, none⟩) (World.block_lt_of_cell? _ _ HP3.out.1)).trans HP3.out.1, (HB.out.cell (p := ⟨Z + 1, 1, none⟩) (World.block_lt_of_cell? _ _ HP3.out.2)).trans HP3.out.2⟩
    have HB0 : Kp (Below w.heap.size w wc) := ⟨HB3.out.trans (HB.out.mono HB3.out.size)⟩
    clear hy HB HV3 HX3 HP3 HB3
    go_upto_region 6 with fail
    go_cut [78] (fun s78 wx => s78 = .bool false ∧ wx = wc)
    case first =>
      by_cases he1 : e1 = 0
      · by_cases he2 : e2 = 0
        · by_cases hlen : la.length + lb.length ≤ 200
          · obtain ⟨rfl, rfl, rfl, rfl, rfl, rfl, rfl, rfl, rfl, rfl, rfl⟩ := HC.out he1 he2 hlen
            subst he1
            subst he2
            obtain ⟨q0, q1, q2, q3, q4, q5, q6, q7, q8, q9, qz⟩ := HX0.out
            obtain ⟨r0, r1, r2, r3, r4, r5, r6, r7, r8, r9, rz⟩ := HY0.out
            simp only at q0 q1 q2 q3 q4 q5 q6 q7 q8 q9 r0 r1 r2 r3 r4 r5 r6 r7 r8 r9
            have hl1 : (la.length : Int) + (lb.length : Int) ≤ 200 := by omega
            clear hlen
            go_wp2_with fail
            go_meet
            exact ⟨rfl, rfl⟩
          · have hl1 : ¬ (la.length : Int) + (lb.length : Int) ≤ 200 := by omega
            have hl2 := HLA.out
            have hl3 := HLB.out
            subst he1
            subst he2
            clear hlen
            go_wp2_with fail
            go_meet
            exact ⟨rfl, rfl⟩
        · have hb2 : (e2 == 0) = false := by rw [beq_eq_false_iff_ne]; exact he2
          subst he1
          clear he2
          go_wp2_with fail
          go_meet
          exact ⟨rfl, rfl⟩
      · have hb1 : (e1 == 0) = false := by rw [beq_eq_false_iff_ne]; exact he1
        clear he1
        go_wp2_with fail
        go_meet
        exact ⟨rfl, rfl⟩
    case rest =>
      obtain ⟨rfl, rfl⟩ := hcut
      clear HC HX0 HY0
      go_upto_region 8 with fail
      go_cut [96] (fun s96 wx => s96 = .bool (decide (a < 0 ∨ b < 0 ∨ 500 < a ∨ 500 < b)) ∧ wx = wc)
      case first =>
        obtain ⟨b0, b1⟩ := HP0.out
        by_cases g1 : a < 0
        · have HE : Kp (decide (a < 0 ∨ b < 0 ∨ 500 < a ∨ 500 < b) = true) := ⟨decide_eq_true (.inl g1)⟩
          go_wp2_with fail
          go_meet
          exact ⟨by rw [HE.out], rfl⟩
        · by_cases g2 : b < 0
          · have HE : Kp (decide (a < 0 ∨ b < 0 ∨ 500 < a ∨ 500 < b) = true) := ⟨decide_eq_true (.inr (.inl g2))⟩
            go_wp2_with fail
            go_meet
            exact ⟨by rw [HE.out], rfl⟩
          · by_cases g3 : 500 < a
            · have HE : Kp (decide (a < 0 ∨ b < 0 ∨ 500 < a ∨ 500 < b) = true) := ⟨decide_eq_true (.inr (.inr (.inl g3)))⟩
              go_wp2_with fail
              go_meet
              exact ⟨by rw [HE.out], rfl⟩
            · by_cases g4 : 500 < b
              · have HE : Kp (decide (a < 0 ∨ b < 0 ∨ 500 < a ∨ 500 < b) = true) := ⟨decide_eq_true (.inr (.inr (.inr g4)))⟩
                go_wp2_with fail
                go_meet
                exact ⟨by rw [HE.out], rfl⟩
              · have HE : Kp (decide (a < 0 ∨ b < 0 ∨ 500 < a ∨ 500 < b) = false) := ⟨decide_eq_false (by omega)⟩
                go_wp2_with fail
                go_meet
                exact ⟨by rw [HE.out], rfl⟩
      case rest =>
        obtain ⟨rfl, rfl⟩ := hcut
        by_cases hbad : a < 0 ∨ b < 0 ∨ 500 < a ∨ 500 < b
        · have HE : Kp (decide (a < 0 ∨ b < 0 ∨ 500 < a ∨ 500 < b) = true) := ⟨decide_eq_true hbad⟩
          clear hbad
          rw [HE.out]
          go_wp2_with fail
          refine (awake_any _).mono ?_
          rintro e7 w7 ⟨rfl, hb7⟩
          have HB7 : Kp (Below w.heap.size w w7) := ⟨Below.trans (by have hzS := HB0.out.size; (repeat (with_reducible first | exact HB0.out | refine Below.alloc ?_ ?_ _ | refine Below.drew ?_ | refine bDrewN ?_ _)); all_goals ((try simp) <;> omega)) (hb7.mono (by have hzS := HB0.out.size; (try simp) <;> omega))⟩
          clear hb7
          go_wp2
          go_ret
          exact ⟨rfl, HB7.out⟩
        · have HE : Kp (decide (a < 0 ∨ b < 0 ∨ 500 < a ∨ 500 < b) = false) := ⟨decide_eq_false hbad⟩
          rw [HE.out]
          have g1 : 0 ≤ a := by omega
          have g2 : 0 ≤ b := by omega
          have g3 : a ≤ 500 := by omega
          have g4 : b ≤ 500 := by omega
          clear hbad
          rcases HD.out g1 g3 g2 g4 with hd | hd
          · obtain ⟨o0, o1, o2, o3, o4, o5, o6, o7, o8, o9, t0, t1, t2, t3, t4, t5, t6, t7, t8, t9, hd1, hd2, hd3⟩ := hd
            have HD1 := Lib.hid hd1
            have HD2 := Lib.hid hd2
            have HD3 := Lib.hid hd3
            clear hd1 hd2 hd3
            have hlz0 := HV0.out.lt
            have hlp0 := World.block_lt_of_cell? _ _ HP0.out.1
            obtain ⟨a00, a01, a02, a03, a04, a05, a06, a07, a08, a09, a0z⟩ := HV0.out
            obtain ⟨b00, b01⟩ := HP0.out
            simp only at a00 a01 a02 a03 a04 a05 a06 a07 a08 a09
            go_wp2_with fail
            refine (HD1.out _).mono ?_
            rintro e0 v1 ⟨rfl, hb1⟩
            have HK1 : Kp (Below wc.heap.size wc v1) := ⟨Below.trans (by (repeat (with_reducible first | exact Below.refl _ _ | refine Below.alloc ?_ ?_ _ | refine Below.drew ?_ | refine bDrewN ?_ _)); all_goals ((try simp) <;> omega)) (hb1.mono (by (try simp) <;> omega))⟩
            have HB1 : Kp (Below w.heap.size w v1) := ⟨HB0.out.trans (HK1.out.mono HB0.out.size)⟩
            have HV1 : Kp (VatAt v1 Z ⟨⟨bw, bs, ba⟩, ⟨sw, ss, sa, so⟩, ⟨gw, gs, ga⟩⟩) := ⟨HV0.out.same (HK1.out.block _ HV0.out.lt)⟩
            have HP1 : Kp (v1.cell? ⟨Z + 1, 0, none⟩ = some (.int .i64 a) ∧ v1.cell? ⟨Z + 1, 1, none⟩ = some (.int .i64 b)) := ⟨(HK1.out.cell (p := ⟨Z + 1, 0, none⟩) (World.block_lt_of_cell? _ _ HP0.out.1)).trans HP0.out.1, (HK1.out.cell (p := ⟨Z + 1, 1, none⟩) (World.block_lt_of_cell? _ _ HP0.out.2)).trans HP0.out.2⟩
            clear hb1 a00 a01 a02 a03 a04 a05 a06 a07 a08 a09 a0z b00 b01 hlz0 hlp0
            have hlz1 := HV1.out.lt
            have hlp1 := World.block_lt_of_cell? _ _ HP1.out.1
            obtain ⟨a10, a11, a12, a13, a14, a15, a16, a17, a18, a19, a1z⟩ := HV1.out
            obtain ⟨b10, b11⟩ := HP1.out
            simp only at a10 a11 a12 a13 a14 a15 a16 a17 a18 a19
            go_wp2_with fail
            refine (HD2.out _).mono ?_
            rintro e0 v2 ⟨rfl, hb2⟩
            have HK2 : Kp (Below v1.heap.size v1 v2) := ⟨Below.trans (by (repeat (with_reducible first | exact Below.refl _ _ | refine Below.alloc ?_ ?_ _ | refine Below.drew ?_ | refine bDrewN ?_ _)); all_goals ((try simp) <;> omega)) (hb2.mono (by (try simp) <;> omega))⟩
            have HB2 : Kp (Below w.heap.size w v2) := ⟨HB1.out.trans (HK2.out.mono HB1.out.size)⟩
            have HV2 : Kp (VatAt v2 Z ⟨⟨bw, bs, ba⟩, ⟨sw, ss, sa, so⟩, ⟨gw, gs, ga⟩⟩) := ⟨HV1.out.same (HK2.out.block _ HV1.out.lt)⟩
            have HP2 : Kp (v2.cell? ⟨Z + 1, 0, none⟩ = some (.int .i64 a) ∧ v2.cell? ⟨Z + 1, 1, none⟩ = some (.int .i64 b)) := ⟨(HK2.out.cell (p := ⟨Z + 1, 0, none⟩) (World.block_lt_of_cell? _ _ HP1.out.1)).trans HP1.out.1, (HK2.out.cell (p := ⟨Z + 1, 1, none⟩) (World.block_lt_of_cell? _ _ HP1.out.2)).trans HP1.out.2⟩
            clear hb2 a10 a11 a12 a13 a14 a15 a16 a17 a18 a19 a1z b10 b11 hlz1 hlp1
            have hlz2 := HV2.out.lt
            have hlp2 := World.block_lt_of_cell? _ _ HP2.out.1
            obtain ⟨a20, a21, a22, a23, a24, a25, a26, a27, a28, a29, a2z⟩ := HV2.out
            obtain ⟨b20, b21⟩ := HP2.out
            simp only at a20 a21 a22 a23 a24 a25 a26 a27 a28 a29
            go_wp2_with fail
            refine (HD3.out _).mono ?_
            rintro e0 v3 ⟨rfl, hb3⟩
            have HK3 : Kp (Below v2.heap.size v2 v3) := ⟨Below.trans (by (repeat (with_reducible first | exact Below.refl _ _ | refine Below.alloc ?_ ?_ _ | refine Below.drew ?_ | refine bDrewN ?_ _)); all_goals ((try simp) <;> omega)) (hb3.mono (by (try simp) <;> omega))⟩
            have HB3 : Kp (Below w.heap.size w v3) := ⟨HB2.out.trans (HK3.out.mono HB2.out.size)⟩
            have HV3 : Kp (VatAt v3 Z ⟨⟨bw, bs, ba⟩, ⟨sw, ss, sa, so⟩, ⟨gw, gs, ga⟩⟩) := ⟨HV2.out.same (HK3.out.block _ HV2.out.lt)⟩
            have HP3 : Kp (v3.cell? ⟨Z + 1, 0, none⟩ = some (.int .i64 a) ∧ v3.cell? ⟨Z + 1, 1, none⟩ = some (.int .i64 b)) := ⟨(HK3.out.cell (p := ⟨Z + 1, 0, none⟩) (World.block_lt_of_cell? _ _ HP2.out.1)).trans HP2.out.1, (HK3.out.cell (p := ⟨Z + 1, 1, none⟩) (World.block_lt_of_cell? _ _ HP2.out.2)).trans HP2.out.2⟩
            have HT3 : Kp (VatAt v3 v2.heap.size ⟨⟨t0, t1, t2⟩, ⟨t3, t4, t5, t6⟩, ⟨t7, t8, t9⟩⟩) := ⟨VatAt.same (W := v2.alloc (.cells #[.int .i64 t0, .int .i64 t1, .int .i64 t2, .int .i64 t3, .int .i64 t4, .int .i64 t5, .int .i64 t6, .int .i64 t7, .int .i64 t8, .int .i64 t9] 27)) (by constructor <;> (try intro j) <;> go_simp) (hb3.block _ (by (try simp) <;> omega))⟩
            clear hb3 a20 a21 a22 a23 a24 a25 a26 a27 a28 a29 a2z b20 b21 hlz2 hlp2
            have hlt3 := HT3.out.lt
            obtain ⟨s0, s1, s2, s3, s4, s5, s6, s7, s8, s9, sz⟩ := HT3.out
            simp only at s0 s1 s2 s3 s4 s5 s6 s7 s8 s9
            go_wp2_with fail
            refine (awake_any _).mono ?_
            rintro e7 w7 ⟨rfl, hb7⟩
            have HB7 : Kp (Below w.heap.size w w7) := ⟨Below.trans (by have hzS := HB3.out.size; (repeat (with_reducible first | exact HB3.out | refine Below.alloc ?_ ?_ _ | refine Below.drew ?_ | refine bDrewN ?_ _)); all_goals ((try simp) <;> omega)) (hb7.mono (by have hzS := HB3.out.size; (try simp) <;> omega))⟩
            clear hb7
            go_wp2
            go_ret
            exact ⟨rfl, HB7.out⟩
          · obtain ⟨o0, o1, o2, o3, o4, o5, o6, o7, o8, o9, t0, t1, t2, t3, t4, t5, t6, t7, t8, t9, c0, c1, c2, c3, c4, c5, c6, c7, c8, c9, ii, hh, hne, hd1, hd2, hd3⟩ := hd
            have HD1 := Lib.hid hd1
            have HD2 := Lib.hid hd2
            have HD3 := Lib.hid hd3
            clear hd1 hd2 hd3
            have hlz0 := HV0.out.lt
            have hlp0 := World.block_lt_of_cell? _ _ HP0.out.1
            obtain ⟨a00, a01, a02, a03, a04, a05, a06, a07, a08, a09, a0z⟩ := HV0.out
            obtain ⟨b00, b01⟩ := HP0.out
            simp only at a00 a01 a02 a03 a04 a05 a06 a07 a08 a09
            go_wp2_with fail
            refine (HD1.out _).mono ?_
            rintro e0 v1 ⟨rfl, hb1⟩
            have HK1 : Kp (Below wc.heap.size wc v1) := ⟨Below.trans (by (repeat (with_reducible first | exact Below.refl _ _ | refine Below.alloc ?_ ?_ _ | refine Below.drew ?_ | refine bDrewN ?_ _)); all_goals ((try simp) <;> omega)) (hb1.mono (by (try simp) <;> omega))⟩
            have HB1 : Kp (Below w.heap.size w v1) := ⟨HB0.out.trans (HK1.out.mono HB0.out.size)⟩
            have HV1 : Kp (VatAt v1 Z ⟨⟨bw, bs, ba⟩, ⟨sw, ss, sa, so⟩, ⟨gw, gs, ga⟩⟩) := ⟨HV0.out.same (HK1.out.block _ HV0.out.lt)⟩
            have HP1 : Kp (v1.cell? ⟨Z + 1, 0, none⟩ = some (.int .i64 a) ∧ v1.cell? ⟨Z + 1, 1, none⟩ = some (.int .i64 b)) := ⟨(HK1.out.cell (p := ⟨Z + 1, 0, none⟩) (World.block_lt_of_cell? _ _ HP0.out.1)).trans HP0.out.1, (HK1.out.cell (p := ⟨Z + 1, 1, none⟩) (World.block_lt_of_cell? _ _ HP0.out.2)).trans HP0.out.2⟩
            clear hb1 a00 a01 a02 a03 a04 a05 a06 a07 a08 a09 a0z b00 b01 hlz0 hlp0
            have hlz1 := HV1.out.lt
            have hlp1 := World.block_lt_of_cell? _ _ HP1.out.1
            obtain ⟨a10, a11, a12, a13, a14, a15, a16, a17, a18, a19, a1z⟩ := HV1.out
            obtain ⟨b10, b11⟩ := HP1.out
            simp only at a10 a11 a12 a13 a14 a15 a16 a17 a18 a19
            go_wp2_with fail
            refine (HD2.out _).mono ?_
            rintro e0 v2 ⟨rfl, hb2⟩
            have HK2 : Kp (Below v1.heap.size v1 v2) := ⟨Below.trans (by (repeat (with_reducible first | exact Below.refl _ _ | refine Below.alloc ?_ ?_ _ | refine Below.drew ?_ | refine bDrewN ?_ _)); all_goals ((try simp) <;> omega)) (hb2.mono (by (try simp) <;> omega))⟩
            have HB2 : Kp (Below w.heap.size w v2) := ⟨HB1.out.trans (HK2.out.mono HB1.out.size)⟩
            have HV2 : Kp (VatAt v2 Z ⟨⟨bw, bs, ba⟩, ⟨sw, ss, sa, so⟩, ⟨gw, gs, ga⟩⟩) := ⟨HV1.out.same (HK2.out.block _ HV1.out.lt)⟩
            have HP2 : Kp (v2.cell? ⟨Z + 1, 0, none⟩ = some (.int .i64 a) ∧ v2.cell? ⟨Z + 1, 1, none⟩ = some (.int .i64 b)) := ⟨(HK2.out.cell (p := ⟨Z + 1, 0, none⟩) (World.block_lt_of_cell? _ _ HP1.out.1)).trans HP1.out.1, (HK2.out.cell (p := ⟨Z + 1, 1, none⟩) (World.block_lt_of_cell? _ _ HP1.out.2)).trans HP1.out.2⟩
            clear hb2 a10 a11 a12 a13 a14 a15 a16 a17 a18 a19 a1z b10 b11 hlz1 hlp1
            have hlz2 := HV2.out.lt
            have hlp2 := World.block_lt_of_cell? _ _ HP2.out.1
            obtain ⟨a20, a21, a22, a23, a24, a25, a26, a27, a28, a29, a2z⟩ := HV2.out
            obtain ⟨b20, b21⟩ := HP2.out
            simp only at a20 a21 a22 a23 a24 a25 a26 a27 a28 a29
            go_wp2_with fail
            refine (HD3.out _).mono ?_
            rintro e0 v3 ⟨rfl, hb3⟩
            have HK3 : Kp (Below v2.heap.size v2 v3) := ⟨Below.trans (by (repeat (with_reducible first | exact Below.refl _ _ | refine Below.alloc ?_ ?_ _ | refine Below.drew ?_ | refine bDrewN ?_ _)); all_goals ((try simp) <;> omega)) (hb3.mono (by (try simp) <;> omega))⟩
            have HB3 : Kp (Below w.heap.size w v3) := ⟨HB2.out.trans (HK3.out.mono HB2.out.size)⟩
            have HV3 : Kp (VatAt v3 Z ⟨⟨bw, bs, ba⟩, ⟨sw, ss, sa, so⟩, ⟨gw, gs, ga⟩⟩) := ⟨HV2.out.same (HK3.out.block _ HV2.out.lt)⟩
            have HP3 : Kp (v3.cell? ⟨Z + 1, 0, none⟩ = some (.int .i64 a) ∧ v3.cell? ⟨Z + 1, 1, none⟩ = some (.int .i64 b)) := ⟨(HK3.out.cell (p := ⟨Z + 1, 0, none⟩) (World.block_lt_of_cell? _ _ HP2.out.1)).trans HP2.out.1, (HK3.out.cell (p := ⟨Z + 1, 1, none⟩) (World.block_lt_of_cell? _ _ HP2.out.2)).trans HP2.out.2⟩
            clear hb3 a20 a21 a22 a23 a24 a25 a26 a27 a28 a29 a2z b20 b21 hlz2 hlp2
            go_wp2_with fail
            refine (awake_any _).mono ?_
            rintro e7 w7 ⟨rfl, hb7⟩
            have HB7 : Kp (Below w.heap.size w w7) := ⟨Below.trans (by have hzS := HB3.out.size; (repeat (with_reducible first | exact HB3.out | refine Below.alloc ?_ ?_ _ | refine Below.drew ?_ | refine bDrewN ?_ _)); all_goals ((try simp) <;> omega)) (hb7.mono (by have hzS := HB3.out.size; (try simp) <;> omega))⟩
            clear hb7
            go_wp2
            go_ret
            exact ⟨rfl, HB7.out⟩
theorem step_1n {n : Nat} (h : n ≤ 1000) : stepB ⟨1, n⟩ = true := by
  rw [step_iff]; simp only [lim, true_or, if_true]; omega
theorem waitC (v : Va) (n : Nat) (hv : vatB v = true) (hn : n ≤ 1000) : StepC 32 v.b.w v.b.s v.b.a v.s.w v.s.s v.s.a v.s.o v.g.w v.g.s v.g.a 1 n (hoursN n v).b.w (hoursN n v).b.s (hoursN n v).b.a (hoursN n v).s.w (hoursN n v).s.s (hoursN n v).s.a (hoursN n v).s.o (hoursN n v).g.w (hoursN n v).g.s (hoursN n v).g.a 0 :=
  fun W => Do_ok _ _ _ _ _ _ _ _ _ _ 1 n _ _ _ _ _ _ _ _ _ _ 0 W ⟨step_wait v.b.w v.b.s v.b.a v.s.w v.s.s v.s.a v.s.o v.g.w v.g.s v.g.a n hv hn⟩ hv (step_1n hn)
theorem two_any (bw bs ba sw ss sa so gw gs ga a b : Int) (g1 : 0 ≤ a) (g3 : a ≤ 500) (g2 : 0 ≤ b) (g4 : b ≤ 500) : TwoOk bw bs ba sw ss sa so gw gs ga a b ∨ TwoBad bw bs ba sw ss sa so gw gs ga a b := by
  cases hv : vatB ⟨⟨bw, bs, ba⟩, ⟨sw, ss, sa, so⟩, ⟨gw, gs, ga⟩⟩ with
  | true =>
    obtain ⟨n, rfl⟩ := Int.eq_ofNat_of_zero_le g1
    obtain ⟨m, rfl⟩ := Int.eq_ofNat_of_zero_le g2
    have h1 := waitC ⟨⟨bw, bs, ba⟩, ⟨sw, ss, sa, so⟩, ⟨gw, gs, ga⟩⟩ n hv (by omega)
    have h2 := waitC (hoursN n ⟨⟨bw, bs, ba⟩, ⟨sw, ss, sa, so⟩, ⟨gw, gs, ga⟩⟩) m (hoursN_valid n hv) (by omega)
    have h3 := waitC ⟨⟨bw, bs, ba⟩, ⟨sw, ss, sa, so⟩, ⟨gw, gs, ga⟩⟩ (n + m) hv (by omega)
    rw [hoursN_add] at h3
    exact .inl ⟨_, _, _, _, _, _, _, _, _, _, _, _, _, _, _, _, _, _, _, _, h1, h2, h3⟩
  | false =>
    obtain ⟨t0, t1, t2, t3, t4, t5, t6, t7, t8, t9, i, h2, -⟩ := do_both 0 0 0 0 0 0 0 0 0 0 1 b
    exact .inr ⟨_, _, _, _, _, _, _, _, _, _, t0, t1, t2, t3, t4, t5, t6, t7, t8, t9, _, _, _, _, _, _, _, _, _, _, i, 1, rfl, fun W => Do_inv bw bs ba sw ss sa so gw gs ga 1 a W hv, h2, fun W => Do_inv bw bs ba sw ss sa so gw gs ga 1 (a + b) W hv⟩
theorem lawParts_any (bw bs ba sw ss sa so gw gs ga : Int) (va : Value) (la : List St) (vb : Value) (lb : List St) (a b : Int) (w : World) (ha : RS w va la) (_hla : la.length ≤ maxLen) (hb : RS w vb lb) (_hlb : lb.length ≤ maxLen) :
    Calls Try.prog 12 #[.agg #[.int .i64 bw, .int .i64 bs, .int .i64 ba, .int .i64 sw, .int .i64 ss, .int .i64 sa, .int .i64 so, .int .i64 gw, .int .i64 gs, .int .i64 ga], va, vb, .agg #[.int .i64 a, .int .i64 b]] w (Ends w) := by
  obtain ⟨pa, ca, rfl⟩ := ha.shape
  obtain ⟨pb, cb, rfl⟩ := hb.shape
  by_cases hl : 300 < la.length
  · have HL := Lib.hid hl
    clear hl ha hb
    go_enter Try.func12, Try.ntmps12
    go_wp2_with fail
    refine (long_yes _ _ _ _ HL.out).mono ?_
    rintro e w1 ⟨rfl, rfl⟩
    go_wp2_with fail
    refine (awake_any _).mono ?_
    rintro e w7 ⟨rfl, hb7⟩
    have HB7 : Kp (Below w.heap.size w w7) := ⟨Below.trans (by repeat (first | exact Below.refl _ _ | refine Below.alloc ?_ (by simp <;> omega) _ | refine bDrewN ?_ _ | refine Below.drew ?_)) (hb7.mono (by simp; omega))⟩
    clear hb7
    go_wp2
    go_ret
    exact ⟨rfl, HB7.out⟩
  · by_cases hl2 : 300 < lb.length
    · have HL := Lib.hid hl2
      have HA : Kp (la.length ≤ 300) := ⟨by omega⟩
      clear hl hl2 ha hb
      go_enter Try.func12, Try.ntmps12
      go_wp2_with fail
      refine (long_no _ _ _ _ HA.out).mono ?_
      rintro e w1 ⟨rfl, rfl⟩
      go_wp2_with fail
      refine (long_yes _ _ _ _ HL.out).mono ?_
      rintro e w1 ⟨rfl, rfl⟩
      go_wp2_with fail
      refine (awake_any _).mono ?_
      rintro e w7 ⟨rfl, hb7⟩
      have HB7 : Kp (Below w.heap.size w w7) := ⟨Below.trans (by repeat (first | exact Below.refl _ _ | refine Below.alloc ?_ (by simp <;> omega) _ | refine bDrewN ?_ _ | refine Below.drew ?_)) (hb7.mono (by simp; omega))⟩
      clear hb7
      go_wp2
      go_ret
      exact ⟨rfl, HB7.out⟩
    · have h1 := fun W (hW : Below w.heap.size w W) => Run_any bw bs ba sw ss sa so gw gs ga _ la W (ha.below hW)
      obtain ⟨m, hm⟩ : ∃ m, runF ⟨⟨bw, bs, ba⟩, ⟨sw, ss, sa, so⟩, ⟨gw, gs, ga⟩⟩ la = m := ⟨_, rfl⟩
      rw [hm] at h1
      obtain ⟨⟨⟨m0, m1, m2⟩, ⟨m3, m4, m5, m6⟩, ⟨m7, m8, m9⟩⟩, i1, e1⟩ := m
      have h2 := fun W (hW : Below w.heap.size w W) => Run_any m0 m1 m2 m3 m4 m5 m6 m7 m8 m9 _ lb W (hb.below hW)
      obtain ⟨x, hx⟩ : ∃ x, runF ⟨⟨m0, m1, m2⟩, ⟨m3, m4, m5, m6⟩, ⟨m7, m8, m9⟩⟩ lb = x := ⟨_, rfl⟩
      rw [hx] at h2
      obtain ⟨⟨⟨x0, x1, x2⟩, ⟨x3, x4, x5, x6⟩, ⟨x7, x8, x9⟩⟩, i2, e2⟩ := x
      have h3 := fun W v (hW : RS W v (la ++ lb)) => Run_any bw bs ba sw ss sa so gw gs ga v (la ++ lb) W hW
      obtain ⟨y, hy⟩ : ∃ y, runF ⟨⟨bw, bs, ba⟩, ⟨sw, ss, sa, so⟩, ⟨gw, gs, ga⟩⟩ (la ++ lb) = y := ⟨_, rfl⟩
      rw [hy] at h3
      obtain ⟨⟨⟨y0, y1, y2⟩, ⟨y3, y4, y5, y6⟩, ⟨y7, y8, y9⟩⟩, i3, e3⟩ := y
      refine parts_core bw bs ba sw ss sa so gw gs ga m0 m1 m2 m3 m4 m5 m6 m7 m8 m9 i1 e1 x0 x1 x2 x3 x4 x5 x6 x7 x8 x9 i2 e2 y0 y1 y2 y3 y4 y5 y6 y7 y8 y9 i3 e3 a b pa pb ca cb la lb w (by omega) (by omega) ha hb ⟨h1⟩ ⟨h2⟩ ⟨h3⟩ ⟨fun g1 g2 g3 => ?_⟩ ⟨fun p q r s => two_any bw bs ba sw ss sa so gw gs ga a b p q r s⟩
      have hp := run_parts (v := ⟨⟨bw, bs, ba⟩, ⟨sw, ss, sa, so⟩, ⟨gw, gs, ga⟩⟩) (a := la) (b := lb) (by rw [hm]; exact g1) (by rw [hm, hx]; exact g2) g3
      rw [hm, hx, hy] at hp
      obtain ⟨p1, p2⟩ := hp
      simp only [Va.mk.injEq, Ba.mk.injEq, Sk.mk.injEq] at p1 p2
      exact ⟨p1, p2.1.1, p2.1.2.1, p2.1.2.2, p2.2.1.1, p2.2.1.2.1, p2.2.1.2.2.1, p2.2.1.2.2.2, p2.2.2.1, p2.2.2.2.1, p2.2.2.2.2⟩
end Go.Proofs.Ytakldbpfdoeimaa.Bt
