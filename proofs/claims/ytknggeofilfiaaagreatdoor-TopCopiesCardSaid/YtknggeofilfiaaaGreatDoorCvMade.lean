/-
  WALKS (layer 5, carve): blocks that are made, Full.
-/
import Derived.Test.YtknggeofilfiaaaGreatDoorCvAsked
namespace Go.Proofs.YtknggeofilfiaaaGreatDoor.Cv
open Go Go.RowKit Go.Sort

theorem made_any (f : Nat) (lb : Array Value) (q : Gr → Bool) (s : Nat) (w : World) (hs : 1 ≤ s) (hs2 : s ≤ 10)
    (hE : ∀ args W, (callFunc f args).run Tryz.prog W = .ok (.enter f args) W)
    (hA : Kp (∀ W g, Below w.heap.size w W → insB s g = true → Calls Tryz.prog f (#[.agg #[.int .i64 g.x, .int .i64 g.y, .int .i64 g.z]] ++ lb) W fun e w' => e = .returned (.bool (q g)) ∧ Below W.heap.size W w')) :
    Calls Tryz.prog 28 #[.int .i64 s, .func (.func f) #[] lb] w fun en w' => ∃ v, en = .returned (.agg #[.int .i64 s, v]) ∧ NB w.heap.size w' v ((placesL s).map q) ∧ Below w.heap.size w w' := by
  have HX : Kp (∀ W, Below w.heap.size w W → Calls Tryz.prog 44 #[.int .i64 s, .func (.func f) #[] lb] W fun en w' => ∃ v, en = .returned v ∧ NB W.heap.size w' v ((placesL s).map q) ∧ Below W.heap.size W w') := ⟨fun W hW => asked_any f lb q s W hs hs2 hE ⟨fun X g hX hg => hA.out X g (hW.trans (hX.mono hW.size)) hg⟩⟩
  clear hE hA
  go_enter Tryz.func28, Tryz.ntmps28
  go_wp2_with fail
  refine (HX.out _ (by repeat (first | exact Below.refl _ _ | refine Below.alloc ?_ (by simp <;> omega) _ | refine bDrewN ?_ _ | refine Below.drew ?_))).mono ?_
  rintro en w1 ⟨v, rfl, hv, hb1⟩
  obtain ⟨gv, cv, rfl⟩ := hv.lb.shape
  have HV : Kp (NB (w.heap.size + 1) w1 _ ((placesL s).map q)) := ⟨hv.more (by simp)⟩
  clear hv
  have HB1 : Kp (Below w.heap.size w w1) := ⟨Below.trans (by repeat (first | refine Below.alloc ?_ (by (try simp) <;> omega) _ | refine bDrewN ?_ _ | refine Below.drew ?_ | refine Below.setCell ?_ (by (try simp) <;> omega) _ | exact Below.refl _ _)) (hb1.mono (by (try simp) <;> omega))⟩
  have hz1_0 : w.heap.size < w1.heap.size := by have := hb1.size; (try simp at this); omega
  obtain ⟨hc, hf⟩ := bcell hb1
  have c1_0_0 : w1.cell? ⟨w.heap.size, 0, none⟩ = some (.int .i64 0) := (hc _ _ (by (try simp) <;> omega)).trans (by go_simp)
  have c1_0_1 : w1.cell? ⟨w.heap.size, 1, none⟩ = some ((.slice none 0 0)) := (hc _ _ (by (try simp) <;> omega)).trans (by go_simp)
  have z1_0 : ∀ j, w1.frozen? ⟨w.heap.size, j, none⟩ = false := fun j => (hf _ _ (by (try simp) <;> omega)).trans (by go_simp)
  clear hc hf hb1
  go_wp2
  have HB2 : Below w.heap.size w ((w1.setCell ⟨w.heap.size, 0, none⟩ (.int .i64 s)).setCell ⟨w.heap.size, 1, none⟩ (.slice gv (placesL s).length cv)) := by (have hzS := HB1.out.size; (repeat (with_reducible first | exact HB1.out | refine Below.setCell ?_ ?_ _ | refine Below.alloc ?_ ?_ _ | refine Below.drew ?_ | refine bDrewN ?_ _)); all_goals ((try simp) <;> omega))
  have hV2 := ((HV.out.set w.heap.size 0 (.int .i64 s) (by omega)).set w.heap.size 1 (.slice gv (placesL s).length cv) (by omega)).more (m := w.heap.size) (by omega)
  refine bodyPost_ret (v := .agg #[.int .i64 s, .slice gv (placesL s).length cv]) (by simp [results, Tryz.results28, go_sem, c1_0_0, c1_0_1]) rfl ⟨_, rfl, ?_, HB2⟩
  simpa using hV2
def sideB (n : Int) : Bool := decide (1 ≤ n) && decide (n ≤ 10)
theorem side_iff {n : Int} : sideB n = true ↔ 1 ≤ n ∧ n ≤ 10 := by simp [sideB]
theorem isSide_any (n : Int) (w : World) : Calls Tryz.prog 27 #[.int .i64 n] w fun e w' => e = .returned (.bool (sideB n)) ∧ w = w' := by
  obtain ⟨R, hR⟩ : ∃ R, sideB n = R := ⟨_, rfl⟩
  have HR := Kp.mk hR
  rw [hR]
  clear hR
  go_enter Tryz.func27, Tryz.ntmps27
  go_wp2
  all_goals (go_ret; refine ⟨ret_bool ?_, rfl⟩; rw [← HR.out, Bool.eq_iff_iff]; simp [sideB]; omega)
theorem full1_any (x y z : Int) (w : World) : Calls Tryz.prog 29 #[.agg #[.int .i64 x, .int .i64 y, .int .i64 z]] w fun e w' => e = .returned (.bool true) ∧ Below w.heap.size w w' := by
  go_enter Tryz.func29, Tryz.ntmps29
  go_wp2
  go_ret
  exact ⟨rfl, by repeat (first | exact Below.refl _ _ | refine Below.alloc ?_ (by simp <;> omega) _ | refine bDrewN ?_ _ | refine Below.drew ?_)⟩
/-- A block as a value. -/
def VB (w : World) (v : Value) (s : Int) (h : List Bool) : Prop := ∃ u, v = .agg #[.int .i64 s, u] ∧ LB w u h
theorem VB.below {w w' : World} {v : Value} {s : Int} {h : List Bool} (k : VB w v s h) (hb : Below w.heap.size w w') : VB w' v s h := by
  obtain ⟨u, e, hu⟩ := k; exact ⟨u, e, hu.below hb⟩
theorem LB.nil (w : World) : LB w (.slice none 0 0) [] := ⟨none, 0, rfl, Nat.le_refl _, fun i x h => by simp at h⟩
theorem VB.nil (w : World) : VB w (.agg #[.int .i64 0, .slice none 0 0]) 0 [] := ⟨_, rfl, LB.nil w⟩
/-- A row that lies in a block of its own, or none. -/
def FB (n : Nat) (W : World) (u : Value) (L : List Bool) : Prop := LB W u L ∧ ∀ b o l c, u = .slice (some ⟨b, o, none⟩) l c → n ≤ b
theorem NB.fb {n : Nat} {W : World} {v : Value} {bs : List Bool} (h : NB n W v bs) : FB n W v bs := ⟨h.lb, by
  obtain ⟨U, N, rfl, hn, -⟩ := h
  intro b o l c e
  simp only [Value.slice.injEq, Option.some.injEq, Addr.mk.injEq, and_true] at e
  omega⟩
theorem FB.nil (n : Nat) (W : World) : FB n W (.slice none 0 0) [] := ⟨LB.nil W, fun b o l c e => by cases e⟩
theorem FB.below {n : Nat} {W V : World} {u : Value} {L : List Bool} (h : FB n W u L) (hb : Below W.heap.size W V) : FB n V u L := ⟨h.1.below hb, h.2⟩
theorem FB.more {n m : Nat} {W : World} {u : Value} {L : List Bool} (h : FB n W u L) (hm : m ≤ n) : FB m W u L := ⟨h.1, fun b o l c e => Nat.le_trans hm (h.2 b o l c e)⟩
theorem FB.set {n : Nat} {W : World} {u : Value} {L : List Bool} (h : FB n W u L) (B k : Nat) (v : Value) (hB : B < n) : FB n (W.setCell ⟨B, k, none⟩ v) u L := by
  refine ⟨?_, h.2⟩
  obtain ⟨⟨g, c, rfl, hc, hi⟩, hf⟩ := h
  refine ⟨g, c, rfl, hc, fun i x hx => ?_⟩
  obtain ⟨b, o, rfl, hbl, hcell⟩ := hi i x hx
  have hb := hf b o _ _ rfl
  exact ⟨b, o, rfl, by rw [World.size_setCell]; exact hbl, (World.cell?_setCell_other _ _ _ _ (by intro he; simp only [Addr.mk.injEq] at he; omega)).trans hcell⟩
/-- A block as a value, its row in a block of its own. -/
def VF (n : Nat) (w : World) (v : Value) (s : Int) (h : List Bool) : Prop := ∃ u, v = .agg #[.int .i64 s, u] ∧ FB n w u h
theorem VF.vb {n : Nat} {w : World} {v : Value} {s : Int} {h : List Bool} (k : VF n w v s h) : VB w v s h := by
  obtain ⟨u, e, hu⟩ := k; exact ⟨u, e, hu.1⟩
theorem VF.nil (n : Nat) (w : World) : VF n w (.agg #[.int .i64 0, .slice none 0 0]) 0 [] := ⟨_, rfl, FB.nil n w⟩
def fullE (n : Int) : Int := if sideB n = true then 0 else 7
def fullS (n : Int) : Int := if sideB n = true then n else 0
def fullL (n : Int) : List Bool := if sideB n = true then (placesL n.toNat).map (fun _ => true) else []
theorem Full_any (n : Int) (w : World) : Calls Tryz.prog 13 #[.int .i64 n] w fun e w' => ∃ v, e = .returned (.tuple #[v, .int .i64 (fullE n)]) ∧ VB w' v (fullS n) (fullL n) ∧ Below w.heap.size w w' := by
  cases h : sideB n with
  | true =>
    have e1 : fullE n = 0 := by unfold fullE; rw [h]; rfl
    have e2 : fullS n = n := by unfold fullS; rw [h]; rfl
    have e3 : fullL n = (placesL n.toNat).map (fun _ => true) := by unfold fullL; rw [h]; rfl
    rw [e1, e2, e3]
    obtain ⟨s, hs⟩ : ∃ s : Nat, n = s := ⟨n.toNat, by have := side_iff.1 h; omega⟩
    subst hs
    have hb := side_iff.1 h
    have HS : Kp (∀ W, Calls Tryz.prog 27 #[.int .i64 s] W fun e w' => e = .returned (.bool true) ∧ W = w') := ⟨fun W => h ▸ isSide_any s W⟩
    have HX : Kp (∀ W, Calls Tryz.prog 28 #[.int .i64 s, .func (.func 29) #[] #[]] W fun en w' => ∃ v, en = .returned (.agg #[.int .i64 s, v]) ∧ NB W.heap.size w' v ((placesL s).map fun _ => true) ∧ Below W.heap.size W w') := ⟨fun W => made_any 29 #[] (fun _ => true) s W (by omega) (by omega) (enters_of Tryz.func29 (by kernel_rfl) rfl) ⟨fun X g _ _ => full1_any g.x g.y g.z X⟩⟩
    clear e1 e2 e3 h hb
    go_enter Tryz.func13, Tryz.ntmps13
    go_wp2_with fail
    refine (HS.out _).mono ?_
    rintro en w1 ⟨rfl, rfl⟩
    go_wp2_with fail
    refine (HX.out _).mono ?_
    rintro en w1 ⟨v, rfl, hv, hb1⟩
    obtain ⟨gv, cv, rfl⟩ := hv.lb.shape
    have HV : Kp (NB (w.heap.size + 1) w1 _ ((placesL s).map fun _ => true)) := ⟨hv.more (by simp)⟩
    clear hv
    have HB1 : Kp (Below w.heap.size w w1) := ⟨Below.trans (by repeat (first | refine Below.alloc ?_ (by (try simp) <;> omega) _ | refine bDrewN ?_ _ | refine Below.drew ?_ | refine Below.setCell ?_ (by (try simp) <;> omega) _ | exact Below.refl _ _)) (hb1.mono (by (try simp) <;> omega))⟩
    have hz1_0 : w.heap.size < w1.heap.size := by have := hb1.size; (try simp at this); omega
    obtain ⟨hc, hf⟩ := bcell hb1
    have c1_0_0 : w1.cell? ⟨w.heap.size, 0, none⟩ = some (.int .i64 0) := (hc _ _ (by (try simp) <;> omega)).trans (by go_simp)
    have c1_0_1 : w1.cell? ⟨w.heap.size, 1, none⟩ = some ((.slice none 0 0)) := (hc _ _ (by (try simp) <;> omega)).trans (by go_simp)
    have z1_0 : ∀ j, w1.frozen? ⟨w.heap.size, j, none⟩ = false := fun j => (hf _ _ (by (try simp) <;> omega)).trans (by go_simp)
    clear hc hf hb1
    go_wp2
    have HB2 : Below w.heap.size w ((w1.setCell ⟨w.heap.size, 0, none⟩ (.int .i64 s)).setCell ⟨w.heap.size, 1, none⟩ (.slice gv (placesL s).length cv)) := by (have hzS := HB1.out.size; (repeat (with_reducible first | exact HB1.out | refine Below.setCell ?_ ?_ _ | refine Below.alloc ?_ ?_ _ | refine Below.drew ?_ | refine bDrewN ?_ _)); all_goals ((try simp) <;> omega))
    have hV2 := (HV.out.set w.heap.size 0 (.int .i64 s) (by omega)).set w.heap.size 1 (.slice gv (placesL s).length cv) (by omega)
    refine bodyPost_ret (v := .tuple #[.agg #[.int .i64 s, .slice gv (placesL s).length cv], .int .i64 0]) (by simp [results, Tryz.results13, go_sem, c1_0_0, c1_0_1]) rfl ⟨_, rfl, ⟨_, rfl, ?_⟩, HB2⟩
    have := hV2.lb
    simpa using this
  | false =>
    have e1 : fullE n = 7 := by unfold fullE; rw [h]; rfl
    have e2 : fullS n = 0 := by unfold fullS; rw [h]; rfl
    have e3 : fullL n = [] := by unfold fullL; rw [h]; rfl
    rw [e1, e2, e3]
    have HS : Kp (∀ W, Calls Tryz.prog 27 #[.int .i64 n] W fun e w' => e = .returned (.bool false) ∧ W = w') := ⟨fun W => h ▸ isSide_any n W⟩
    clear e1 e2 e3 h
    go_enter Tryz.func13, Tryz.ntmps13
    go_wp2_with fail
    refine (HS.out _).mono ?_
    rintro en w1 ⟨rfl, rfl⟩
    go_wp2
    exact bodyPost_ret (v := .tuple #[.agg #[.int .i64 0, .slice none 0 0], .int .i64 7]) (by simp [results, Tryz.results13, go_sem]) rfl ⟨_, rfl, VB.nil _, by repeat (first | exact Below.refl _ _ | refine Below.alloc ?_ (by simp <;> omega) _ | refine bDrewN ?_ _ | refine Below.drew ?_)⟩
end Go.Proofs.YtknggeofilfiaaaGreatDoor.Cv
