/-
  WALKS (layer 7, scene): Least at every input, by the program.
-/
import Derived.Test.YtjnggchljilooaaScLeast
namespace Go.Proofs.Ytjnggchljilooaa.Sc
open Go Go.RowKit Go.Sort

theorem chk_zero (wd dp : Int) (L : List Int) (e : Ey) (x y : Int) : chkE (cellB wd dp x y) (gdB wd dp L) (eyB wd e) = askE wd dp L e x y 0 := by
  unfold askE
  rw [show inB 0 3000 0 = true from rfl, Bool.and_true]
theorem Least_any (wd dp : Int) (v : Value) (L : List Int) (e : Ey) (x y : Int) (w : World) (hv : IS w v L) (hl : L.length ≤ 9223372036854775807) :
    Calls Try.prog 35 #[.agg #[.int .i64 wd, .int .i64 dp, v], .agg #[.int .i64 e.x, .int .i64 e.b, .int .i64 e.h], .int .i64 x, .int .i64 y] w fun en w' => en = .returned (leastV (askE wd dp L e x y 0) (lstH (freeB wd L e x y.toNat))) ∧ Below w.heap.size w w' := by
  have HV := Kp.mk hv
  have HZ : Kp (askE wd dp L e x y 0 = 0 → gdB wd dp L = true ∧ eyB wd e = true ∧ (0 ≤ x ∧ x ≤ wd - 1) ∧ (0 ≤ y ∧ y ≤ dp - 1)) := ⟨fun h => by
    obtain ⟨h1, h2, h3, h4, -⟩ := askE_zero h
    exact ⟨h1, h2, h3, h4⟩⟩
  obtain ⟨g, c, rfl⟩ := hv.shape
  obtain ⟨ex, eb, eh⟩ := e
  refine Least_st wd dp ex eb eh x y g L.length c (askE wd dp L ⟨ex, eb, eh⟩ x y 0) (cellB wd dp x y) (freeB wd L ⟨ex, eb, eh⟩ x y.toNat) w ⟨fun W => isCell_any wd dp _ x y W⟩ ⟨fun W u hW hu => ?_⟩ ⟨fun h0 i j hij hp => ?_⟩ ⟨fun h0 W B h hW hh q0 q1 q2 q3 q4 q5 q6 q7 => ?_⟩
  · have := checked_any (cellB wd dp x y) wd dp _ u L [⟨ex, eb, eh⟩] W (HV.out.below hW) hl hu (by simp)
    rw [← chk_zero]
    simpa using this
  · unfold freeB at *
    rw [Option.isNone_iff_eq_none] at *
    exact hid_mono (by have := (eyB_iff.1 (HZ.out h0).2.1).2.1; simp only at this; simp only; omega) (by omega) hp
  · obtain ⟨h1, h2, h3, h4⟩ := HZ.out h0
    have hy : (y.toNat : Int) = y := Int.toNat_of_nonneg h4.1
    have hd := hider_any wd dp _ L ⟨ex, eb, eh⟩ x y.toNat h W (HV.out.below hW) h1 h2 h3 (by omega) (by omega)
    rw [hy] at hd
    exact least1_any B wd dp ex eb eh x y g L.length c _ h W q0 q1 q2 q3 q4 q5 q6 q7 ⟨hd⟩
end Go.Proofs.Ytjnggchljilooaa.Sc
