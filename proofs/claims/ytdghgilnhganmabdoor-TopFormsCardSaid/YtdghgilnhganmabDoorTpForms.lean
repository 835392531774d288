/-
  THE WALK of the law TopForms.
-/
import Derived.Test.YtdghgilnhganmabDoorTpAwake
import Derived.Test.YtdghgilnhganmabDoorTpFormsK
import Derived.Deep.CutRange
import Derived.Deep.DeepCutAuto
import Derived.Deep.RegionWith
namespace Go.Proofs.YtdghgilnhganmabDoor.Tp
open Go Go.RowKit Go.Sort Go.Proofs.YtdghgilnhganmabDoor.Cv

def EndsT (w : World) (e : Ending) (w' : World) : Prop := e = .returned (.bool true) ∧ Below w.heap.size w w'
theorem forms_long (sx sy sz at_ : Int) (g1 g2 g3 : Option Addr) (n1 c1 n2 c2 n3 c3 : Nat) (w : World) (ht : Mk.Tab w) (S1 S2 : Int) (e1 : IntKind.i64.wrap ((n1 : Int) + n2) = S1) (e2 : IntKind.i64.wrap (S1 + n3) = S2) (h : (300 : Int) < S2) :
    Calls Tryd.prog 5 #[.agg #[.int .i64 sx, .slice g1 n1 c1, .int .i64 sy, .slice g2 n2 c2, .int .i64 sz, .slice g3 n3 c3], .int .i64 at_] w (EndsT w) := by
  have HT := Kp.mk ht
  clear ht
  go_enter Tryd.func5, Tryd.ntmps5
  go_wp2_with fail
  refine (awake5_any _ (HT.out.below (by repeat (first | exact Below.refl _ _ | refine Below.alloc ?_ (by simp <;> omega) _ | refine bDrewN ?_ _ | refine Below.drew ?_)))).mono ?_
  rintro en w1 ⟨rfl, hb1⟩
  have HB1 : Kp (Below w.heap.size w w1) := ⟨Below.trans (by repeat (first | exact Below.refl _ _ | refine Below.alloc ?_ (by simp <;> omega) _ | refine bDrewN ?_ _ | refine Below.drew ?_)) (hb1.mono (by simp <;> omega))⟩
  clear hb1
  go_wp2
  go_ret
  exact ⟨rfl, HB1.out⟩
theorem forms_no (sx sy sz at_ r : Int) (g1 g2 g3 : Option Addr) (n1 c1 n2 c2 n3 c3 : Nat) (w : World) (ht : Mk.Tab w) (S1 S2 : Int) (e1 : IntKind.i64.wrap ((n1 : Int) + n2) = S1) (e2 : IntKind.i64.wrap (S1 + n3) = S2) (h : ¬ (300 : Int) < S2) (hr : (r != 0) = true)
    (HH : Kp (∀ W, Below w.heap.size w W → Calls Tryd.prog 14 #[.agg #[.int .i64 sx, .slice g1 n1 c1], .agg #[.int .i64 sy, .slice g2 n2 c2], .agg #[.int .i64 sz, .slice g3 n3 c3]] W fun e w' => (∃ s g n c, e = .returned (.tuple #[.agg #[.int .i64 s, .slice g n c], .int .i64 r])) ∧ Below W.heap.size W w')) :
    Calls Tryd.prog 5 #[.agg #[.int .i64 sx, .slice g1 n1 c1, .int .i64 sy, .slice g2 n2 c2, .int .i64 sz, .slice g3 n3 c3], .int .i64 at_] w (EndsT w) := by
  have HT := Kp.mk ht
  clear ht
  go_enter Tryd.func5, Tryd.ntmps5
  go_wp2_with fail
  refine (HH.out _ (by repeat (first | exact Below.refl _ _ | refine Below.alloc ?_ (by simp <;> omega) _ | refine bDrewN ?_ _ | refine Below.drew ?_))).mono ?_
  rintro en w1 ⟨⟨s, g, n, c, rfl⟩, hb1⟩
  have HB1 : Kp (Below w.heap.size w w1) := ⟨Below.trans (by repeat (first | exact Below.refl _ _ | refine Below.alloc ?_ (by simp <;> omega) _ | refine bDrewN ?_ _ | refine Below.drew ?_)) (hb1.mono (by simp <;> omega))⟩
  clear hb1
  go_wp2_with fail
  refine (awake5_any _ (HT.out.below (HB1.out.alloc HB1.out.size _))).mono ?_
  rintro en w2 ⟨rfl, hb2⟩
  have HB2 : Kp (Below w.heap.size w w2) := ⟨(HB1.out.alloc HB1.out.size _).trans (hb2.mono (HB1.out.alloc HB1.out.size _).size)⟩
  clear hb2
  go_wp2
  go_ret
  exact ⟨rfl, HB2.out⟩
theorem gs_one {W : World} {Y : Nat} {x : Gr} (h0 : W.cell? ⟨Y, 0, none⟩ = some (.int .i64 x.x)) (h1 : W.cell? ⟨Y, 1, none⟩ = some (.int .i64 x.y)) (h2 : W.cell? ⟨Y, 2, none⟩ = some (.int .i64 x.z)) : GS W (.slice (some ⟨Y, 0, none⟩) 1 1) [x] := by
  refine ⟨_, _, rfl, Nat.le_refl _, fun i s hs => ?_⟩
  match i with
  | 0 =>
    simp at hs
    subst hs
    exact ⟨Y, 0, rfl, World.block_lt_of_cell? _ _ h0, h0, h1, h2⟩
  | i + 1 => simp at hs
theorem within_at {s : Nat} (hs : 1 ≤ s) (hs2 : s ≤ 10) {X Z : List Bool} (h1 : X.length = s * s * s) (h2 : Z.length = s * s * s) : withinB s s X Z = (grainsL s X).all (hasB s Z) := by
  unfold withinB alikeB
  rw [block_ok hs hs2 h1, block_ok hs hs2 h2, decide_eq_true rfl]
  rfl
theorem lb_set {W : World} {b k : Nat} {c v : Value} {u : Value} {h : List Bool} (hv : LB W u h) (hc : W.cell? ⟨b, k, none⟩ = some c) (hn : ∀ x, c ≠ .bool x) : LB (W.setCell ⟨b, k, none⟩ v) u h := by
  obtain ⟨g, c', e, hcc, hi⟩ := hv
  refine ⟨g, c', e, hcc, fun i s hs => ?_⟩
  obtain ⟨b', o', hg, hlt, h1⟩ := hi i s hs
  refine ⟨b', o', hg, by simpa [World.setCell] using hlt, ?_⟩
  rw [World.cell?_setCell_other _ _ _ _ (by intro he; simp only [Addr.mk.injEq, and_true] at he; obtain ⟨rfl, rfl⟩ := he; rw [hc] at h1; exact hn s (Option.some.inj h1)), h1]
theorem kept_k {W w8 : World} {B : Nat} {G : Prop} (hb : Below W.heap.size W w8) (h0 : W.cell? ⟨B, 0, none⟩ = some (.int .i64 0)) (h1 : W.cell? ⟨B, 1, none⟩ = some (.slice none 0 0)) (hz : ∀ j, W.frozen? ⟨B, j, none⟩ = false)
    (k : w8.cell? ⟨B, 0, none⟩ = some (.int .i64 0) → w8.cell? ⟨B, 1, none⟩ = some (.slice none 0 0) → (∀ j, w8.frozen? ⟨B, j, none⟩ = false) → G) : G := by
  have hB : B < W.heap.size := World.block_lt_of_cell? _ _ h0
  exact k ((hb.cell (p := ⟨B, _, none⟩) hB).trans h0) ((hb.cell (p := ⟨B, _, none⟩) hB).trans h1) fun j => (hb.frozen (p := ⟨B, j, none⟩) hB).trans (hz j)
/-- Where a variable of the body has just been laid. -/
structure Laid (w7 : World) (B s N : Nat) (g : Option Addr) (c : Nat) (L : List Bool) (W : World) : Prop where
  below : Below w7.heap.size w7 W
  base : w7.heap.size ≤ B
  c0 : W.cell? ⟨B, 0, none⟩ = some (.int .i64 s)
  c1 : W.cell? ⟨B, 1, none⟩ = some (.slice g N c)
  z : ∀ j, W.frozen? ⟨B, j, none⟩ = false
  row : LB W (.slice g N c) L
/-- The variable is laid behind the call. -/
theorem laid_new {w7 w8 : World} {s N c : Nat} {g : Option Addr} {L : List Bool} (hb : Below w7.heap.size w7 w8) (hl : LB w8 (.slice g N c) L) : Laid w7 w8.heap.size s N g c L (w8.alloc (.cells #[.int .i64 s, .slice g N c] 54)) :=
  ⟨hb.alloc hb.size _, hb.size, by go_simp, by go_simp, fun j => by go_simp, hl.below ((Below.refl _ _).alloc (Nat.le_refl _) _)⟩
/-- The variable was laid ahead of the call. -/
theorem laid_old {w7 w8 : World} {B s N c : Nat} {g : Option Addr} {L : List Bool} (hb : Below w7.heap.size w7 w8) (hB : w7.heap.size ≤ B) (h0 : w8.cell? ⟨B, 0, none⟩ = some (.int .i64 0)) (h1 : w8.cell? ⟨B, 1, none⟩ = some (.slice none 0 0)) (hz : ∀ j, w8.frozen? ⟨B, j, none⟩ = false) (hl : LB w8 (.slice g N c) L) : Laid w7 B s N g c L ((w8.setCell ⟨B, 0, none⟩ (.int .i64 s)).setCell ⟨B, 1, none⟩ (.slice g N c)) := by
  have k1 : (w8.setCell ⟨B, 0, none⟩ (.int .i64 s)).cell? ⟨B, 1, none⟩ = some (.slice none 0 0) := by rw [World.cell?_setCell_other _ _ _ _ (by simp), h1]
  exact ⟨(hb.setCell hB _).setCell hB _, hB, by go_simp, by go_simp, fun j => by simp [go_sem, hz], lb_set (lb_set hl h0 (fun x => by simp)) k1 (fun x => by simp)⟩
set_option maxRecDepth 100000 in
set_option maxHeartbeats 8000000 in
theorem forms_core (s N k : Nat) (x : Gr) (g1 g2 g3 : Option Addr) (n1 c1 n2 c2 n3 c3 : Nat) (q : Gr → Bool) (w : World) (ht : Mk.Tab w) (hs : 1 ≤ s) (hs2 : s ≤ 10) (hN : s * s * s = N) (e1 : IntKind.i64.wrap ((n1 : Int) + n2) = (n1 : Int) + n2) (e2 : IntKind.i64.wrap ((n1 : Int) + n2 + n3) = (n1 : Int) + n2 + n3) (h : ¬ (300 : Int) < (n1 : Int) + n2 + n3)
    (hx : (grainsL s ((placesL s).map q))[k]? = some x)
    (HH : Kp (∀ W, Below w.heap.size w W → Calls Tryd.prog 14 #[.agg #[.int .i64 s, .slice g1 n1 c1], .agg #[.int .i64 s, .slice g2 n2 c2], .agg #[.int .i64 s, .slice g3 n3 c3]] W fun e w' => ∃ g' c', e = .returned (.tuple #[.agg #[.int .i64 s, .slice g' N c'], .int .i64 0]) ∧ LB w' (.slice g' N c') ((placesL s).map q) ∧ Below W.heap.size W w')) :
    Calls Tryd.prog 5 #[.agg #[.int .i64 s, .slice g1 n1 c1, .int .i64 s, .slice g2 n2 c2, .int .i64 s, .slice g3 n3 c3], .int .i64 (k : Int)] w (EndsT w) := by
  have HT := Kp.mk ht
  have HF : Kp (∀ W, Calls Tryd.prog 15 #[.int .i64 s] W fun e w' => ∃ g' c', e = .returned (.tuple #[.agg #[.int .i64 s, .slice g' N c'], .int .i64 0]) ∧ LB w' (.slice g' N c') ((placesL s).map fun _ => true) ∧ Below W.heap.size W w') := ⟨fun W => hN ▸ Full_at hs hs2 W⟩
  have HG : Kp (∀ W g c X, LB W (.slice g N c) X → X.length = N → Calls Tryd.prog 16 #[.agg #[.int .i64 s, .slice g N c]] W fun e w' => ∃ g' c', e = .returned (.tuple #[.slice g' (grainsL s X).length c', .int .i64 0]) ∧ GS w' (.slice g' (grainsL s X).length c') (grainsL s X) ∧ Below W.heap.size W w') := ⟨fun W g c X hX hl => Grains_at hs hs2 hX (hl.trans hN.symm)⟩
  have HC : Kp (∀ W g c X v l, LB W (.slice g N c) X → X.length = N → GS W v l → l.length ≤ 1000 → (∀ x ∈ l, insB s x = true) → Calls Tryd.prog 17 #[.agg #[.int .i64 s, .slice g N c], v] W fun e w' => ∃ g' c', e = .returned (.tuple #[.agg #[.int .i64 s, .slice g' N c'], .int .i64 0]) ∧ LB w' (.slice g' N c') (lessL s X l) ∧ Below W.heap.size W w') := ⟨fun W g c X v l hX hl hv hm hin => hN ▸ Carved_at hs hs2 (hN ▸ hX) (hl.trans hN.symm) hv hm hin⟩
  have HS : Kp (∀ W u v, LB W u ((placesL s).map q) → LB W v ((placesL s).map q) → Calls Tryd.prog 18 #[.agg #[.int .i64 s, u], .agg #[.int .i64 s, v]] W fun e w' => e = .returned (.bool true) ∧ Below W.heap.size W w') := ⟨fun W u v hu hv => Same_yes s u v _ W hu hv (by rw [len_places]; have := (cube_bd hs2).2; omega)⟩
  have hlen : ∀ X, (grainsL s X).length ≤ 1000 := fun X => by
    unfold grainsL
    refine Nat.le_trans (List.length_filter_le _ _) ?_
    rw [places_len]
    exact (cube_bd hs2).2
  have hxg : x ∈ grainsL s ((placesL s).map q) := List.mem_of_getElem? hx
  have hxp : x ∈ placesL s := by unfold grainsL at hxg; exact (List.mem_filter.1 hxg).1
  have hxh : hasB s ((placesL s).map q) x = true := by unfold grainsL at hxg; exact (List.mem_filter.1 hxg).2
  have HO : Kp (∀ W v, GS W v [x] → Calls Tryd.prog 19 #[.int .i64 s, v] W fun e w' => ∃ g' c', e = .returned (.tuple #[.agg #[.int .i64 s, .slice g' N c'], .int .i64 0]) ∧ LB w' (.slice g' N c') (setB s [x]) ∧ Below W.heap.size W w') := ⟨fun W v hv => hN ▸ Of_at hs hs2 hv (mem_ins hxp)⟩
  have HW1 : Kp (∀ W u v, LB W u (setB s [x]) → LB W v ((placesL s).map q) → Calls Tryd.prog 20 #[.agg #[.int .i64 s, u], .agg #[.int .i64 s, v]] W fun e w' => e = .returned (.bool true) ∧ Below W.heap.size W w') := ⟨fun W u v hu hv => by
    have := Within_any s s u v _ _ W hu hv
    rwa [within_at hs hs2 (by unfold setB; exact len_places) len_places, one_within hxh] at this⟩
  have HW2 : Kp (∀ W u v, LB W u (setB s [x]) → LB W v (lessL s ((placesL s).map q) [x]) → Calls Tryd.prog 20 #[.agg #[.int .i64 s, u], .agg #[.int .i64 s, v]] W fun e w' => e = .returned (.bool false) ∧ Below W.heap.size W w') := ⟨fun W u v hu hv => by
    have := Within_any s s u v _ _ W hu hv
    rwa [within_at hs hs2 (by unfold setB; exact len_places) (by unfold lessL; exact len_places), one_not hxp (less_not hxp)] at this⟩
  have HX1 : Kp (∀ y ∈ [x], insB s y = true) := ⟨fun y hy => by rw [List.mem_singleton.1 hy]; exact mem_ins hxp⟩
  have hkl := (List.getElem?_eq_some_iff.1 hx).1
  have HKL : Kp (k < (grainsL s ((placesL s).map q)).length ∧ (grainsL s ((placesL s).map q)).length ≤ 1000) := ⟨hkl, hlen _⟩
  clear ht
  go_enter Tryd.func5, Tryd.ntmps5
  go_wp2_with fail
  refine (HH.out _ (by repeat (first | exact Below.refl _ _ | refine Below.alloc ?_ (by simp <;> omega) _ | refine bDrewN ?_ _ | refine Below.drew ?_))).mono ?_
  rintro en w1 ⟨gh, ch, rfl, hh, hb1⟩
  have HL1 := Kp.mk hh
  have HB1 : Kp (Below w.heap.size w w1) := ⟨Below.trans (by repeat (first | exact Below.refl _ _ | refine Below.alloc ?_ (by simp <;> omega) _ | refine bDrewN ?_ _ | refine Below.drew ?_)) (hb1.mono (by simp <;> omega))⟩
  clear hb1 hh
  go_wp2_with fail
  refine (HF.out _).mono ?_
  rintro en w2 ⟨gf, cf, rfl, hf, hb2⟩
  have HL2 := Kp.mk hf
  have HL1 := Kp.mk ((HL1.out.below ((Below.refl _ _).alloc (Nat.le_refl _) _)).below hb2)
  clear hf
  have HB2 : Kp (Below w.heap.size w w2) := ⟨Below.trans (by repeat (first | refine Below.alloc ?_ (by have := HB1.out.size; (try simp) <;> omega) _ | refine bDrewN ?_ _ | refine Below.drew ?_ | exact HB1.out)) (hb2.mono (by have := HB1.out.size; (try simp) <;> omega))⟩
  have hz2_0 : w1.heap.size < w2.heap.size := by have := hb2.size; (try simp at this); omega
  obtain ⟨hc, hf⟩ := bcell hb2
  have c2_0_0 : w2.cell? ⟨w1.heap.size, 0, none⟩ = some (.int .i64 s) := (hc _ _ (by (try simp) <;> omega)).trans (by go_simp)
  have c2_0_1 : w2.cell? ⟨w1.heap.size, 1, none⟩ = some ((.slice gh N ch)) := (hc _ _ (by (try simp) <;> omega)).trans (by go_simp)
  have z2_0 : ∀ j, w2.frozen? ⟨w1.heap.size, j, none⟩ = false := fun j => (hf _ _ (by (try simp) <;> omega)).trans (by go_simp)
  clear hc hf hb2
  go_wp2_with fail
  refine (HG.out _ _ _ _ (HL1.out.below ((Below.refl _ _).alloc (Nat.le_refl _) _)) (len_places.trans hN)).mono ?_
  rintro en w3 ⟨gi, ci, rfl, hi, hb3⟩
  have HGI := Kp.mk hi
  clear hi
  have HL1 := Kp.mk ((HL1.out.below ((Below.refl _ _).alloc (Nat.le_refl _) _)).below hb3)
  have HL2 := Kp.mk ((HL2.out.below ((Below.refl _ _).alloc (Nat.le_refl _) _)).below hb3)
  have HB3 : Kp (Below w.heap.size w w3) := ⟨Below.trans (by repeat (first | refine Below.alloc ?_ (by have := HB2.out.size; (try simp) <;> omega) _ | refine bDrewN ?_ _ | refine Below.drew ?_ | exact HB2.out)) (hb3.mono (by have := HB2.out.size; (try simp) <;> omega))⟩
  have hz3_0 : w1.heap.size < w3.heap.size := by have := hb3.size; (try simp at this); omega
  have hz3_1 : w2.heap.size < w3.heap.size := by have := hb3.size; (try simp at this); omega
  obtain ⟨hc, hf⟩ := bcell hb3
  have c3_0_0 : w3.cell? ⟨w1.heap.size, 0, none⟩ = some (.int .i64 s) := (hc _ _ (by (try simp) <;> omega)).trans (by go_simp)
  have c3_0_1 : w3.cell? ⟨w1.heap.size, 1, none⟩ = some ((.slice gh N ch)) := (hc _ _ (by (try simp) <;> omega)).trans (by go_simp)
  have z3_0 : ∀ j, w3.frozen? ⟨w1.heap.size, j, none⟩ = false := fun j => (hf _ _ (by (try simp) <;> omega)).trans (by go_simp)
  have c3_1_0 : w3.cell? ⟨w2.heap.size, 0, none⟩ = some (.int .i64 s) := (hc _ _ (by (try simp) <;> omega)).trans (by go_simp)
  have c3_1_1 : w3.cell? ⟨w2.heap.size, 1, none⟩ = some ((.slice gf N cf)) := (hc _ _ (by (try simp) <;> omega)).trans (by go_simp)
  have z3_1 : ∀ j, w3.frozen? ⟨w2.heap.size, j, none⟩ = false := fun j => (hf _ _ (by (try simp) <;> omega)).trans (by go_simp)
  clear hc hf hb3 c2_0_0 c2_0_1 z2_0
  go_wp2_with fail
  refine (HC.out _ _ _ _ _ _ HL2.out (len_places.trans hN) HGI.out (hlen _) grains_ins).mono ?_
  rintro en w4 ⟨ga, ca, rfl, ha, hb4⟩
  have HL3 := Kp.mk ha
  clear ha
  have HL1 := Kp.mk (HL1.out.below hb4)
  have HL2 := Kp.mk (HL2.out.below hb4)
  have HGI := Kp.mk (HGI.out.below hb4)
  have HB4 : Kp (Below w.heap.size w w4) := ⟨Below.trans (by repeat (first | refine Below.alloc ?_ (by have := HB3.out.size; (try simp) <;> omega) _ | refine bDrewN ?_ _ | refine Below.drew ?_ | exact HB3.out)) (hb4.mono (by have := HB3.out.size; (try simp) <;> omega))⟩
  have hz4_0 : w1.heap.size < w4.heap.size := by have := hb4.size; (try simp at this); omega
  have hz4_1 : w2.heap.size < w4.heap.size := by have := hb4.size; (try simp at this); omega
  obtain ⟨hc, hf⟩ := bcell hb4
  have c4_0_0 : w4.cell? ⟨w1.heap.size, 0, none⟩ = some (.int .i64 s) := (hc _ _ (by (try simp) <;> omega)).trans (by go_simp)
  have c4_0_1 : w4.cell? ⟨w1.heap.size, 1, none⟩ = some ((.slice gh N ch)) := (hc _ _ (by (try simp) <;> omega)).trans (by go_simp)
  have z4_0 : ∀ j, w4.frozen? ⟨w1.heap.size, j, none⟩ = false := fun j => (hf _ _ (by (try simp) <;> omega)).trans (by go_simp)
  have c4_1_0 : w4.cell? ⟨w2.heap.size, 0, none⟩ = some (.int .i64 s) := (hc _ _ (by (try simp) <;> omega)).trans (by go_simp)
  have c4_1_1 : w4.cell? ⟨w2.heap.size, 1, none⟩ = some ((.slice gf N cf)) := (hc _ _ (by (try simp) <;> omega)).trans (by go_simp)
  have z4_1 : ∀ j, w4.frozen? ⟨w2.heap.size, j, none⟩ = false := fun j => (hf _ _ (by (try simp) <;> omega)).trans (by go_simp)
  clear hc hf hb4 c3_0_0 c3_0_1 z3_0 c3_1_0 c3_1_1 z3_1
  go_wp2_with fail
  refine (HG.out _ _ _ _ (HL3.out.below ((Below.refl _ _).alloc (Nat.le_refl _) _)) (len_places.trans hN)).mono ?_
  rintro en w5 ⟨gr, cr, rfl, hr, hb5⟩
  have HGR := Kp.mk hr
  clear hr
  have HL1 := Kp.mk ((HL1.out.below ((Below.refl _ _).alloc (Nat.le_refl _) _)).below hb5)
  have HL2 := Kp.mk ((HL2.out.below ((Below.refl _ _).alloc (Nat.le_refl _) _)).below hb5)
  have HGI := Kp.mk ((HGI.out.below ((Below.refl _ _).alloc (Nat.le_refl _) _)).below hb5)
  have HL3 := Kp.mk ((HL3.out.below ((Below.refl _ _).alloc (Nat.le_refl _) _)).below hb5)
  have HB5 : Kp (Below w.heap.size w w5) := ⟨Below.trans (by repeat (first | refine Below.alloc ?_ (by have := HB4.out.size; (try simp) <;> omega) _ | refine bDrewN ?_ _ | refine Below.drew ?_ | exact HB4.out)) (hb5.mono (by have := HB4.out.size; (try simp) <;> omega))⟩
  have hz5_0 : w1.heap.size < w5.heap.size := by have := hb5.size; (try simp at this); omega
  have hz5_1 : w2.heap.size < w5.heap.size := by have := hb5.size; (try simp at this); omega
  obtain ⟨hc, hf⟩ := bcell hb5
  have c5_0_0 : w5.cell? ⟨w1.heap.size, 0, none⟩ = some (.int .i64 s) := (hc _ _ (by (try simp) <;> omega)).trans (by go_simp)
  have c5_0_1 : w5.cell? ⟨w1.heap.size, 1, none⟩ = some ((.slice gh N ch)) := (hc _ _ (by (try simp) <;> omega)).trans (by go_simp)
  have z5_0 : ∀ j, w5.frozen? ⟨w1.heap.size, j, none⟩ = false := fun j => (hf _ _ (by (try simp) <;> omega)).trans (by go_simp)
  have c5_1_0 : w5.cell? ⟨w2.heap.size, 0, none⟩ = some (.int .i64 s) := (hc _ _ (by (try simp) <;> omega)).trans (by go_simp)
  have c5_1_1 : w5.cell? ⟨w2.heap.size, 1, none⟩ = some ((.slice gf N cf)) := (hc _ _ (by (try simp) <;> omega)).trans (by go_simp)
  have z5_1 : ∀ j, w5.frozen? ⟨w2.heap.size, j, none⟩ = false := fun j => (hf _ _ (by (try simp) <;> omega)).trans (by go_simp)
  clear hc hf hb5 c4_0_0 c4_0_1 z4_0 c4_1_0 c4_1_1 z4_1
  go_wp2_with fail
  refine (HC.out _ _ _ _ _ _ HL2.out (len_places.trans hN) HGR.out (hlen _) grains_ins).mono ?_
  rintro en w6 ⟨gb, cb, rfl, hbd, hb6⟩
  have HL4 := Kp.mk hbd
  rw [carve_back] at HL4
  clear hbd
  have HL1 := Kp.mk (HL1.out.below hb6)
  have HGI := Kp.mk (HGI.out.below hb6)
  have HB6 : Kp (Below w.heap.size w w6) := ⟨Below.trans (by repeat (first | refine Below.alloc ?_ (by have := HB5.out.size; (try simp) <;> omega) _ | refine bDrewN ?_ _ | refine Below.drew ?_ | exact HB5.out)) (hb6.mono (by have := HB5.out.size; (try simp) <;> omega))⟩
  have hz6_0 : w1.heap.size < w6.heap.size := by have := hb6.size; (try simp at this); omega
  obtain ⟨hc, hf⟩ := bcell hb6
  have c6_0_0 : w6.cell? ⟨w1.heap.size, 0, none⟩ = some (.int .i64 s) := (hc _ _ (by (try simp) <;> omega)).trans (by go_simp)
  have c6_0_1 : w6.cell? ⟨w1.heap.size, 1, none⟩ = some ((.slice gh N ch)) := (hc _ _ (by (try simp) <;> omega)).trans (by go_simp)
  have z6_0 : ∀ j, w6.frozen? ⟨w1.heap.size, j, none⟩ = false := fun j => (hf _ _ (by (try simp) <;> omega)).trans (by go_simp)
  clear hc hf hb6 c5_0_0 c5_0_1 z5_0 c5_1_0 c5_1_1 z5_1
  go_wp2_with fail
  refine (HS.out _ _ _ (HL4.out.below ((Below.refl _ _).alloc (Nat.le_refl _) _)) (HL1.out.below ((Below.refl _ _).alloc (Nat.le_refl _) _))).mono ?_
  rintro en w7 ⟨rfl, hb7⟩
  have HL1 := Kp.mk ((HL1.out.below ((Below.refl _ _).alloc (Nat.le_refl _) _)).below hb7)
  have HGI := Kp.mk ((HGI.out.below ((Below.refl _ _).alloc (Nat.le_refl _) _)).below hb7)
  have HB7 : Kp (Below w.heap.size w w7) := ⟨Below.trans (by repeat (first | refine Below.alloc ?_ (by have := HB6.out.size; (try simp) <;> omega) _ | refine bDrewN ?_ _ | refine Below.drew ?_ | exact HB6.out)) (hb7.mono (by have := HB6.out.size; (try simp) <;> omega))⟩
  have hz7_0 : w1.heap.size < w7.heap.size := by have := hb7.size; (try simp at this); omega
  obtain ⟨hc, hf⟩ := bcell hb7
  have c7_0_0 : w7.cell? ⟨w1.heap.size, 0, none⟩ = some (.int .i64 s) := (hc _ _ (by (try simp) <;> omega)).trans (by go_simp)
  have c7_0_1 : w7.cell? ⟨w1.heap.size, 1, none⟩ = some ((.slice gh N ch)) := (hc _ _ (by (try simp) <;> omega)).trans (by go_simp)
  have z7_0 : ∀ j, w7.frozen? ⟨w1.heap.size, j, none⟩ = false := fun j => (hf _ _ (by (try simp) <;> omega)).trans (by go_simp)
  clear hc hf hb7 c6_0_0 c6_0_1 z6_0
  obtain ⟨gI, cI, eI, -, hI⟩ := HGI.out
  obtain ⟨b, o, rfl, hbl, d0, d1, d2⟩ := hI k x hx
  simp only [Value.slice.injEq] at eI
  obtain ⟨rfl, -, rfl⟩ := eI
  obtain ⟨L, hL⟩ : ∃ L, (grainsL s ((placesL s).map q)).length = L := ⟨_, rfl⟩
  rw [hL] at hkl HKL HGI
  have o0 : ¬ (k : Int) < 0 := by omega
  have o1 : ¬ (L : Int) ≤ (k : Int) := by omega
  have o2 : (k : Int) < (L : Int) := by omega
  have o3 : k ≤ 1000 := by have := HKL.out; omega
  have HD := Lib.hid (And.intro hbl (And.intro d0 (And.intro d1 d2)))
  clear hI hkl
  go_upto_region 15 with fail
  go_cut [17, 18] (fun p e wx => ∃ B g c, p = .pointer (some ⟨B, 0, none⟩) ∧ e = .int .i64 0 ∧ Kp (Laid w7 B s N g c (setB s [x]) wx))
  case first =>
    go_region_with (go_at_call 19; refine Calls.mono (HO.out _ _ ?_) ?_; (exact gs_one (by go_simp) (by go_simp) (by go_simp)); rintro en w8 ⟨go, co, rfl, ho, hb8⟩; (first | (refine kept_k (B := w7.heap.size) hb8 ?_ ?_ ?_ ?_; (focus (go_simp; done)); (focus (go_simp; done)); (focus (intro j; go_simp; done)); intro q0 q1 qz) | (refine kept_k (B := w7.heap.size + 1) hb8 ?_ ?_ ?_ ?_; (focus (go_simp; done)); (focus (go_simp; done)); (focus (intro j; go_simp; done)); intro q0 q1 qz) | skip))
    all_goals
      go_wp2_with fail
      go_meet
      have hb9 := Below.trans (show Below w7.heap.size w7 _ by repeat (first | exact Below.refl _ _ | refine Below.alloc ?_ (by simp <;> omega) _ | refine bDrewN ?_ _ | refine Below.drew ?_)) (hb8.mono (by simp <;> omega))
      first
      | exact ⟨_, _, _, rfl, rfl, ⟨laid_new hb9 ho⟩⟩
      | exact ⟨_, _, _, rfl, rfl, ⟨laid_old hb9 (by omega) q0 q1 qz ho⟩⟩
  case rest =>
    obtain ⟨B1, gB, cB, rfl, rfl, HLD⟩ := hcut
    obtain ⟨w8, rfl⟩ : ∃ w8, w8 = wc := ⟨_, rfl⟩
    have hbc := HLD.out.below
    have HB8 : Kp (Below w.heap.size w w8) := ⟨HB7.out.trans (hbc.mono HB7.out.size)⟩
    have HL1 := Kp.mk (HL1.out.below hbc)
    have e0 := (hbc.cell (p := ⟨w1.heap.size, 0, none⟩) hz7_0).trans c7_0_0
    have e1 := (hbc.cell (p := ⟨w1.heap.size, 1, none⟩) hz7_0).trans c7_0_1
    have HE := Lib.hid (And.intro e0 e1)
    have hz8 : w1.heap.size < w8.heap.size := Nat.lt_of_lt_of_le hz7_0 hbc.size
    have d0 := (hbc.cell (p := ⟨b, _, none⟩) HD.out.1).trans HD.out.2.1
    have d1 := (hbc.cell (p := ⟨b, _, none⟩) HD.out.1).trans HD.out.2.2.1
    have d2 := (hbc.cell (p := ⟨b, _, none⟩) HD.out.1).trans HD.out.2.2.2
    have HX0 : Kp ([x].length ≤ 1000) := ⟨by simp⟩
    have hbl8 : b < w8.heap.size := Nat.lt_of_lt_of_le HD.out.1 hbc.size
    clear c7_0_0 c7_0_1 z7_0 hz7_0 hbc
    go_upto_region 16 with fail
    go_cut [19, 20] (fun p e wx => ∃ B g c, p = .pointer (some ⟨B, 0, none⟩) ∧ e = .int .i64 0 ∧ Kp (Laid w8 B s N g c (lessL s ((placesL s).map q) [x]) wx))
    case first =>
      go_region_with (go_at_call 17; refine Calls.mono (HC.out _ gh ch ((placesL s).map q) _ [x] ?_ (len_places.trans hN) ?_ HX0.out HX1.out) ?_; (focus (refine HL1.out.below ?_; repeat (first | exact Below.refl _ _ | refine Below.alloc ?_ (by simp <;> omega) _ | refine bDrewN ?_ _ | refine Below.drew ?_))); (exact gs_one (by go_simp) (by go_simp) (by go_simp)); rintro en w9 ⟨gl, cl, rfl, hl, hb9⟩; (first | (refine kept_k (B := w8.heap.size) hb9 ?_ ?_ ?_ ?_; (focus (go_simp; done)); (focus (go_simp; done)); (focus (intro j; go_simp; done)); intro q0 q1 qz) | (refine kept_k (B := w8.heap.size + 1) hb9 ?_ ?_ ?_ ?_; (focus (go_simp; done)); (focus (go_simp; done)); (focus (intro j; go_simp; done)); intro q0 q1 qz) | skip))
      all_goals
        go_wp2_with fail
        go_meet
        have hbx := Below.trans (show Below w8.heap.size w8 _ by repeat (first | exact Below.refl _ _ | refine Below.alloc ?_ (by simp <;> omega) _ | refine bDrewN ?_ _ | refine Below.drew ?_)) (hb9.mono (by simp <;> omega))
        first
        | exact ⟨_, _, _, rfl, rfl, ⟨laid_new hbx hl⟩⟩
        | exact ⟨_, _, _, rfl, rfl, ⟨laid_old hbx (by omega) q0 q1 qz hl⟩⟩
    case rest =>
      obtain ⟨B2, gl, cl, rfl, rfl, HLE⟩ := hcut
      have hbc := HLE.out.below
      have HB9 : Kp (Below w.heap.size w wc) := ⟨HB8.out.trans (hbc.mono HB8.out.size)⟩
      have HL1 := Kp.mk (HL1.out.below hbc)
      have HL5 := Kp.mk (HLD.out.row.below hbc)
      have HL6 := Kp.mk HLE.out.row
      have e0 := (hbc.cell (p := ⟨w1.heap.size, 0, none⟩) hz8).trans HE.out.1
      have e1 := (hbc.cell (p := ⟨w1.heap.size, 1, none⟩) hz8).trans HE.out.2
      have hB1 : B1 < w8.heap.size := World.block_lt_of_cell? _ _ HLD.out.c0
      have f0 := (hbc.cell (p := ⟨B1, 0, none⟩) hB1).trans HLD.out.c0
      have f1 := (hbc.cell (p := ⟨B1, 1, none⟩) hB1).trans HLD.out.c1
      have g0 := HLE.out.c0
      have g1' := HLE.out.c1
      have hB2 : B2 < wc.heap.size := World.block_lt_of_cell? _ _ g0
      have hB1' : B1 < wc.heap.size := World.block_lt_of_cell? _ _ f0
      have HF := Lib.hid (And.intro hB1' (And.intro f0 (And.intro f1 (And.intro hB2 (And.intro g0 g1')))))
      clear d0 d1 d2 hz8 hbl8 hbc hB1 hB2 hB1'
      go_wp2_with fail
      refine (HW1.out _ _ _ HL5.out HL1.out).mono ?_
      rintro en w10 ⟨rfl, hb10⟩
      have HL5 := Kp.mk (HL5.out.below hb10)
      have HL6 := Kp.mk (HL6.out.below hb10)
      have HB10 : Kp (Below w.heap.size w w10) := ⟨HB9.out.trans (hb10.mono HB9.out.size)⟩
      have p0 := (hb10.cell (p := ⟨B1, 0, none⟩) HF.out.1).trans HF.out.2.1
      have p1 := (hb10.cell (p := ⟨B1, 1, none⟩) HF.out.1).trans HF.out.2.2.1
      have r0 := (hb10.cell (p := ⟨B2, 0, none⟩) HF.out.2.2.2.1).trans HF.out.2.2.2.2.1
      have r1 := (hb10.cell (p := ⟨B2, 1, none⟩) HF.out.2.2.2.1).trans HF.out.2.2.2.2.2
      clear hb10 e0 e1 f0 f1 g0 g1'
      go_wp2_with fail
      refine (HW2.out _ _ _ HL5.out HL6.out).mono ?_
      rintro en w11 ⟨rfl, hb11⟩
      have HB11 : Kp (Below w.heap.size w w11) := ⟨HB10.out.trans (hb11.mono HB10.out.size)⟩
      clear hb11 p0 p1 r0 r1
      go_wp2_with fail
      refine (awake5_any _ (HT.out.below HB11.out)).mono ?_
      rintro en w12 ⟨rfl, hb12⟩
      have HB12 : Kp (Below w.heap.size w w12) := ⟨HB11.out.trans (hb12.mono HB11.out.size)⟩
      clear hb12
      go_wp2
      go_ret
      exact ⟨rfl, HB12.out⟩
set_option maxHeartbeats 2000000 in
theorem forms_out (s N : Nat) (at_ : Int) (g1 g2 g3 : Option Addr) (n1 c1 n2 c2 n3 c3 : Nat) (q : Gr → Bool) (w : World) (ht : Mk.Tab w) (hs : 1 ≤ s) (hs2 : s ≤ 10) (hN : s * s * s = N) (e1 : IntKind.i64.wrap ((n1 : Int) + n2) = (n1 : Int) + n2) (e2 : IntKind.i64.wrap ((n1 : Int) + n2 + n3) = (n1 : Int) + n2 + n3) (h : ¬ (300 : Int) < (n1 : Int) + n2 + n3)
    (hat : at_ < 0 ∨ ((grainsL s ((placesL s).map q)).length : Int) ≤ at_)
    (HH : Kp (∀ W, Below w.heap.size w W → Calls Tryd.prog 14 #[.agg #[.int .i64 s, .slice g1 n1 c1], .agg #[.int .i64 s, .slice g2 n2 c2], .agg #[.int .i64 s, .slice g3 n3 c3]] W fun e w' => ∃ g' c', e = .returned (.tuple #[.agg #[.int .i64 s, .slice g' N c'], .int .i64 0]) ∧ LB w' (.slice g' N c') ((placesL s).map q) ∧ Below W.heap.size W w')) :
    Calls Tryd.prog 5 #[.agg #[.int .i64 s, .slice g1 n1 c1, .int .i64 s, .slice g2 n2 c2, .int .i64 s, .slice g3 n3 c3], .int .i64 at_] w (EndsT w) := by
  have HT := Kp.mk ht
  have HF : Kp (∀ W, Calls Tryd.prog 15 #[.int .i64 s] W fun e w' => ∃ g' c', e = .returned (.tuple #[.agg #[.int .i64 s, .slice g' N c'], .int .i64 0]) ∧ LB w' (.slice g' N c') ((placesL s).map fun _ => true) ∧ Below W.heap.size W w') := ⟨fun W => hN ▸ Full_at hs hs2 W⟩
  have HG : Kp (∀ W g c X, LB W (.slice g N c) X → X.length = N → Calls Tryd.prog 16 #[.agg #[.int .i64 s, .slice g N c]] W fun e w' => ∃ g' c', e = .returned (.tuple #[.slice g' (grainsL s X).length c', .int .i64 0]) ∧ GS w' (.slice g' (grainsL s X).length c') (grainsL s X) ∧ Below W.heap.size W w') := ⟨fun W g c X hX hl => Grains_at hs hs2 hX (hl.trans hN.symm)⟩
  have HC : Kp (∀ W g c X v l, LB W (.slice g N c) X → X.length = N → GS W v l → l.length ≤ 1000 → (∀ x ∈ l, insB s x = true) → Calls Tryd.prog 17 #[.agg #[.int .i64 s, .slice g N c], v] W fun e w' => ∃ g' c', e = .returned (.tuple #[.agg #[.int .i64 s, .slice g' N c'], .int .i64 0]) ∧ LB w' (.slice g' N c') (lessL s X l) ∧ Below W.heap.size W w') := ⟨fun W g c X v l hX hl hv hm hin => hN ▸ Carved_at hs hs2 (hN ▸ hX) (hl.trans hN.symm) hv hm hin⟩
  have HS : Kp (∀ W u v, LB W u ((placesL s).map q) → LB W v ((placesL s).map q) → Calls Tryd.prog 18 #[.agg #[.int .i64 s, u], .agg #[.int .i64 s, v]] W fun e w' => e = .returned (.bool true) ∧ Below W.heap.size W w') := ⟨fun W u v hu hv => Same_yes s u v _ W hu hv (by rw [len_places]; have := (cube_bd hs2).2; omega)⟩
  have hlen : ∀ X, (grainsL s X).length ≤ 1000 := fun X => by
    unfold grainsL
    refine Nat.le_trans (List.length_filter_le _ _) ?_
    rw [places_len]
    exact (cube_bd hs2).2
  clear ht
  go_enter Tryd.func5, Tryd.ntmps5
  go_wp2_with fail
  refine (HH.out _ (by repeat (first | exact Below.refl _ _ | refine Below.alloc ?_ (by simp <;> omega) _ | refine bDrewN ?_ _ | refine Below.drew ?_))).mono ?_
  rintro en w1 ⟨gh, ch, rfl, hh, hb1⟩
  have HL1 := Kp.mk hh
  have HB1 : Kp (Below w.heap.size w w1) := ⟨Below.trans (by repeat (first | exact Below.refl _ _ | refine Below.alloc ?_ (by simp <;> omega) _ | refine bDrewN ?_ _ | refine Below.drew ?_)) (hb1.mono (by simp <;> omega))⟩
  clear hb1 hh
  go_wp2_with fail
  refine (HF.out _).mono ?_
  rintro en w2 ⟨gf, cf, rfl, hf, hb2⟩
  have HL2 := Kp.mk hf
  have HL1 := Kp.mk ((HL1.out.below ((Below.refl _ _).alloc (Nat.le_refl _) _)).below hb2)
  clear hf
  have HB2 : Kp (Below w.heap.size w w2) := ⟨Below.trans (by repeat (first | refine Below.alloc ?_ (by have := HB1.out.size; (try simp) <;> omega) _ | refine bDrewN ?_ _ | refine Below.drew ?_ | exact HB1.out)) (hb2.mono (by have := HB1.out.size; (try simp) <;> omega))⟩
  have hz2_0 : w1.heap.size < w2.heap.size := by have := hb2.size; (try simp at this); omega
  obtain ⟨hc, hf⟩ := bcell hb2
  have c2_0_0 : w2.cell? ⟨w1.heap.size, 0, none⟩ = some (.int .i64 s) := (hc _ _ (by (try simp) <;> omega)).trans (by go_simp)
  have c2_0_1 : w2.cell? ⟨w1.heap.size, 1, none⟩ = some ((.slice gh N ch)) := (hc _ _ (by (try simp) <;> omega)).trans (by go_simp)
  have z2_0 : ∀ j, w2.frozen? ⟨w1.heap.size, j, none⟩ = false := fun j => (hf _ _ (by (try simp) <;> omega)).trans (by go_simp)
  clear hc hf hb2
  go_wp2_with fail
  refine (HG.out _ _ _ _ (HL1.out.below ((Below.refl _ _).alloc (Nat.le_refl _) _)) (len_places.trans hN)).mono ?_
  rintro en w3 ⟨gi, ci, rfl, hi, hb3⟩
  have HGI := Kp.mk hi
  clear hi
  have HL1 := Kp.mk ((HL1.out.below ((Below.refl _ _).alloc (Nat.le_refl _) _)).below hb3)
  have HL2 := Kp.mk ((HL2.out.below ((Below.refl _ _).alloc (Nat.le_refl _) _)).below hb3)
  have HB3 : Kp (Below w.heap.size w w3) := ⟨Below.trans (by repeat (first | refine Below.alloc ?_ (by have := HB2.out.size; (try simp) <;> omega) _ | refine bDrewN ?_ _ | refine Below.drew ?_ | exact HB2.out)) (hb3.mono (by have := HB2.out.size; (try simp) <;> omega))⟩
  have hz3_0 : w1.heap.size < w3.heap.size := by have := hb3.size; (try simp at this); omega
  have hz3_1 : w2.heap.size < w3.heap.size := by have := hb3.size; (try simp at this); omega
  obtain ⟨hc, hf⟩ := bcell hb3
  have c3_0_0 : w3.cell? ⟨w1.heap.size, 0, none⟩ = some (.int .i64 s) := (hc _ _ (by (try simp) <;> omega)).trans (by go_simp)
  have c3_0_1 : w3.cell? ⟨w1.heap.size, 1, none⟩ = some ((.slice gh N ch)) := (hc _ _ (by (try simp) <;> omega)).trans (by go_simp)
  have z3_0 : ∀ j, w3.frozen? ⟨w1.heap.size, j, none⟩ = false := fun j => (hf _ _ (by (try simp) <;> omega)).trans (by go_simp)
  have c3_1_0 : w3.cell? ⟨w2.heap.size, 0, none⟩ = some (.int .i64 s) := (hc _ _ (by (try simp) <;> omega)).trans (by go_simp)
  have c3_1_1 : w3.cell? ⟨w2.heap.size, 1, none⟩ = some ((.slice gf N cf)) := (hc _ _ (by (try simp) <;> omega)).trans (by go_simp)
  have z3_1 : ∀ j, w3.frozen? ⟨w2.heap.size, j, none⟩ = false := fun j => (hf _ _ (by (try simp) <;> omega)).trans (by go_simp)
  clear hc hf hb3
  go_wp2_with fail
  refine (HC.out _ _ _ _ _ _ HL2.out (len_places.trans hN) HGI.out (hlen _) grains_ins).mono ?_
  rintro en w4 ⟨ga, ca, rfl, ha, hb4⟩
  have HL3 := Kp.mk ha
  clear ha
  have HL1 := Kp.mk (HL1.out.below hb4)
  have HL2 := Kp.mk (HL2.out.below hb4)
  have HGI := Kp.mk (HGI.out.below hb4)
  have HB4 : Kp (Below w.heap.size w w4) := ⟨Below.trans (by repeat (first | refine Below.alloc ?_ (by have := HB3.out.size; (try simp) <;> omega) _ | refine bDrewN ?_ _ | refine Below.drew ?_ | exact HB3.out)) (hb4.mono (by have := HB3.out.size; (try simp) <;> omega))⟩
  have hz4_0 : w1.heap.size < w4.heap.size := by have := hb4.size; (try simp at this); omega
  have hz4_1 : w2.heap.size < w4.heap.size := by have := hb4.size; (try simp at this); omega
  obtain ⟨hc, hf⟩ := bcell hb4
  have c4_0_0 : w4.cell? ⟨w1.heap.size, 0, none⟩ = some (.int .i64 s) := (hc _ _ (by (try simp) <;> omega)).trans (by go_simp)
  have c4_0_1 : w4.cell? ⟨w1.heap.size, 1, none⟩ = some ((.slice gh N ch)) := (hc _ _ (by (try simp) <;> omega)).trans (by go_simp)
  have z4_0 : ∀ j, w4.frozen? ⟨w1.heap.size, j, none⟩ = false := fun j => (hf _ _ (by (try simp) <;> omega)).trans (by go_simp)
  have c4_1_0 : w4.cell? ⟨w2.heap.size, 0, none⟩ = some (.int .i64 s) := (hc _ _ (by (try simp) <;> omega)).trans (by go_simp)
  have c4_1_1 : w4.cell? ⟨w2.heap.size, 1, none⟩ = some ((.slice gf N cf)) := (hc _ _ (by (try simp) <;> omega)).trans (by go_simp)
  have z4_1 : ∀ j, w4.frozen? ⟨w2.heap.size, j, none⟩ = false := fun j => (hf _ _ (by (try simp) <;> omega)).trans (by go_simp)
  clear hc hf hb4
  go_wp2_with fail
  refine (HG.out _ _ _ _ (HL3.out.below ((Below.refl _ _).alloc (Nat.le_refl _) _)) (len_places.trans hN)).mono ?_
  rintro en w5 ⟨gr, cr, rfl, hr, hb5⟩
  have HGR := Kp.mk hr
  clear hr
  have HL1 := Kp.mk ((HL1.out.below ((Below.refl _ _).alloc (Nat.le_refl _) _)).below hb5)
  have HL2 := Kp.mk ((HL2.out.below ((Below.refl _ _).alloc (Nat.le_refl _) _)).below hb5)
  have HGI := Kp.mk ((HGI.out.below ((Below.refl _ _).alloc (Nat.le_refl _) _)).below hb5)
  have HL3 := Kp.mk ((HL3.out.below ((Below.refl _ _).alloc (Nat.le_refl _) _)).below hb5)
  have HB5 : Kp (Below w.heap.size w w5) := ⟨Below.trans (by repeat (first | refine Below.alloc ?_ (by have := HB4.out.size; (try simp) <;> omega) _ | refine bDrewN ?_ _ | refine Below.drew ?_ | exact HB4.out)) (hb5.mono (by have := HB4.out.size; (try simp) <;> omega))⟩
  have hz5_0 : w1.heap.size < w5.heap.size := by have := hb5.size; (try simp at this); omega
  have hz5_1 : w2.heap.size < w5.heap.size := by have := hb5.size; (try simp at this); omega
  obtain ⟨hc, hf⟩ := bcell hb5
  have c5_0_0 : w5.cell? ⟨w1.heap.size, 0, none⟩ = some (.int .i64 s) := (hc _ _ (by (try simp) <;> omega)).trans (by go_simp)
  have c5_0_1 : w5.cell? ⟨w1.heap.size, 1, none⟩ = some ((.slice gh N ch)) := (hc _ _ (by (try simp) <;> omega)).trans (by go_simp)
  have z5_0 : ∀ j, w5.frozen? ⟨w1.heap.size, j, none⟩ = false := fun j => (hf _ _ (by (try simp) <;> omega)).trans (by go_simp)
  have c5_1_0 : w5.cell? ⟨w2.heap.size, 0, none⟩ = some (.int .i64 s) := (hc _ _ (by (try simp) <;> omega)).trans (by go_simp)
  have c5_1_1 : w5.cell? ⟨w2.heap.size, 1, none⟩ = some ((.slice gf N cf)) := (hc _ _ (by (try simp) <;> omega)).trans (by go_simp)
  have z5_1 : ∀ j, w5.frozen? ⟨w2.heap.size, j, none⟩ = false := fun j => (hf _ _ (by (try simp) <;> omega)).trans (by go_simp)
  clear hc hf hb5
  go_wp2_with fail
  refine (HC.out _ _ _ _ _ _ HL2.out (len_places.trans hN) HGR.out (hlen _) grains_ins).mono ?_
  rintro en w6 ⟨gb, cb, rfl, hbd, hb6⟩
  have HL4 := Kp.mk hbd
  rw [carve_back] at HL4
  clear hbd
  have HL1 := Kp.mk (HL1.out.below hb6)
  have HGI := Kp.mk (HGI.out.below hb6)
  have HB6 : Kp (Below w.heap.size w w6) := ⟨Below.trans (by repeat (first | refine Below.alloc ?_ (by have := HB5.out.size; (try simp) <;> omega) _ | refine bDrewN ?_ _ | refine Below.drew ?_ | exact HB5.out)) (hb6.mono (by have := HB5.out.size; (try simp) <;> omega))⟩
  have hz6_0 : w1.heap.size < w6.heap.size := by have := hb6.size; (try simp at this); omega
  obtain ⟨hc, hf⟩ := bcell hb6
  have c6_0_0 : w6.cell? ⟨w1.heap.size, 0, none⟩ = some (.int .i64 s) := (hc _ _ (by (try simp) <;> omega)).trans (by go_simp)
  have c6_0_1 : w6.cell? ⟨w1.heap.size, 1, none⟩ = some ((.slice gh N ch)) := (hc _ _ (by (try simp) <;> omega)).trans (by go_simp)
  have z6_0 : ∀ j, w6.frozen? ⟨w1.heap.size, j, none⟩ = false := fun j => (hf _ _ (by (try simp) <;> omega)).trans (by go_simp)
  clear hc hf hb6
  go_wp2_with fail
  refine (HS.out _ _ _ (HL4.out.below ((Below.refl _ _).alloc (Nat.le_refl _) _)) (HL1.out.below ((Below.refl _ _).alloc (Nat.le_refl _) _))).mono ?_
  rintro en w7 ⟨rfl, hb7⟩
  have HL1 := Kp.mk ((HL1.out.below ((Below.refl _ _).alloc (Nat.le_refl _) _)).below hb7)
  have HGI := Kp.mk ((HGI.out.below ((Below.refl _ _).alloc (Nat.le_refl _) _)).below hb7)
  have HB7 : Kp (Below w.heap.size w w7) := ⟨Below.trans (by repeat (first | refine Below.alloc ?_ (by have := HB6.out.size; (try simp) <;> omega) _ | refine bDrewN ?_ _ | refine Below.drew ?_ | exact HB6.out)) (hb7.mono (by have := HB6.out.size; (try simp) <;> omega))⟩
  have hz7_0 : w1.heap.size < w7.heap.size := by have := hb7.size; (try simp at this); omega
  obtain ⟨hc, hf⟩ := bcell hb7
  have c7_0_0 : w7.cell? ⟨w1.heap.size, 0, none⟩ = some (.int .i64 s) := (hc _ _ (by (try simp) <;> omega)).trans (by go_simp)
  have c7_0_1 : w7.cell? ⟨w1.heap.size, 1, none⟩ = some ((.slice gh N ch)) := (hc _ _ (by (try simp) <;> omega)).trans (by go_simp)
  have z7_0 : ∀ j, w7.frozen? ⟨w1.heap.size, j, none⟩ = false := fun j => (hf _ _ (by (try simp) <;> omega)).trans (by go_simp)
  clear hc hf hb7
  obtain ⟨L, hL⟩ : ∃ L, (grainsL s ((placesL s).map q)).length = L := ⟨_, rfl⟩
  rw [hL] at hat
  rcases hat with hat | hat
  · go_wp2_with fail
    refine (awake5_any _ (HT.out.below HB7.out)).mono ?_
    rintro en w8 ⟨rfl, hb8⟩
    have HB8 : Kp (Below w.heap.size w w8) := ⟨HB7.out.trans (hb8.mono HB7.out.size)⟩
    clear hb8
    go_wp2
    go_ret
    exact ⟨rfl, HB8.out⟩
  · by_cases hneg : at_ < 0
    · go_wp2_with fail
      refine (awake5_any _ (HT.out.below HB7.out)).mono ?_
      rintro en w8 ⟨rfl, hb8⟩
      have HB8 : Kp (Below w.heap.size w w8) := ⟨HB7.out.trans (hb8.mono HB7.out.size)⟩
      clear hb8
      go_wp2
      go_ret
      exact ⟨rfl, HB8.out⟩
    · go_wp2_with fail
      refine (awake5_any _ (HT.out.below HB7.out)).mono ?_
      rintro en w8 ⟨rfl, hb8⟩
      have HB8 : Kp (Below w.heap.size w w8) := ⟨HB7.out.trans (hb8.mono HB7.out.size)⟩
      clear hb8
      go_wp2
      go_ret
      exact ⟨rfl, HB8.out⟩
theorem sum3 {n1 n2 n3 : Nat} (h : n1 + n2 + n3 ≤ 1000) : IntKind.i64.wrap ((n1 : Int) + n2) = (n1 : Int) + n2 ∧ IntKind.i64.wrap ((n1 : Int) + n2 + n3) = (n1 : Int) + n2 + n3 :=
  ⟨IntWalk.i64_in _ (by omega), IntWalk.i64_in _ (by omega)⟩
theorem lawForms_any (sx sy sz at_ : Int) (u v t : Value) (a b c : List Bool) (w : World) (ht : Mk.Tab w) (hu : LB w u a) (hv : LB w v b) (hc : LB w t c) :
    Calls Tryd.prog 5 #[.agg #[.int .i64 sx, u, .int .i64 sy, v, .int .i64 sz, t], .int .i64 at_] w (EndsT w) := by
  obtain ⟨g1, c1, rfl⟩ := hu.shape
  obtain ⟨g2, c2, rfl⟩ := hv.shape
  obtain ⟨g3, c3, rfl⟩ := hc.shape
  by_cases hS : (300 : Int) < IntKind.i64.wrap (IntKind.i64.wrap ((a.length : Int) + b.length) + c.length)
  · exact forms_long sx sy sz at_ g1 g2 g3 _ c1 _ c2 _ c3 w ht _ _ rfl rfl hS
  · cases hok : hullOk sx sy sz a b c with
    | false =>
      have e1 : hullE sx sy sz a b c = 1 := by unfold hullE; rw [hok]; rfl
      refine forms_no sx sy sz at_ 1 g1 g2 g3 _ c1 _ c2 _ c3 w ht _ _ rfl rfl hS rfl ⟨fun W hW => ?_⟩
      refine (Hull_any sx sy sz _ _ _ a b c W (hu.below hW) (hv.below hW) (hc.below hW)).mono ?_
      rintro e w' ⟨r, rfl, ⟨x, rfl, hx⟩, hb⟩
      obtain ⟨g, c', rfl⟩ := hx.shape
      exact ⟨⟨_, g, _, c', by rw [e1]⟩, hb⟩
    | true =>
      unfold hullOk viewB at hok
      simp only [Bool.and_eq_true, decide_eq_true_eq] at hok
      obtain ⟨⟨h1, l1⟩, ⟨-, l2⟩, ⟨-, l3⟩, rfl, rfl⟩ := hok
      have hs := side_iff.1 h1
      obtain ⟨n, rfl⟩ : ∃ n : Nat, sx = n := ⟨sx.toNat, by omega⟩
      rw [← Int.natCast_mul] at l1 l2 l3
      have l1 := Int.ofNat.inj l1
      have l2 := Int.ofNat.inj l2
      have l3 := Int.ofNat.inj l3
      have hn1 : 1 ≤ n := by omega
      have hn2 : n ≤ 10 := by omega
      have hsq : n * n ≤ 100 := Nat.mul_le_mul hn2 hn2
      have hsum := sum3 (n1 := a.length) (n2 := b.length) (n3 := c.length) (by omega)
      have hT : ¬ (300 : Int) < (a.length : Int) + b.length + c.length := by omega
      have HH : Kp (∀ W, Below w.heap.size w W → Calls Tryd.prog 14 #[.agg #[.int .i64 n, .slice g1 a.length c1], .agg #[.int .i64 n, .slice g2 b.length c2], .agg #[.int .i64 n, .slice g3 c.length c3]] W fun e w' => ∃ g' c', e = .returned (.tuple #[.agg #[.int .i64 n, .slice g' (n * n * n) c'], .int .i64 0]) ∧ LB w' (.slice g' (n * n * n) c') ((placesL n).map (onB n fun k i => (hs3 a b c k).getD i false)) ∧ Below W.heap.size W w') := ⟨fun W hW => by
        refine (Hull_in n _ _ _ a b c W hn1 hn2 (hu.below hW) (hv.below hW) (hc.below hW) l1 l2 l3).mono ?_
        rintro e w' ⟨r, rfl, ⟨x, rfl, hx⟩, hb⟩
        obtain ⟨g, c', rfl⟩ := hx.shape
        have hl : (hullB n a b c).length = n * n * n := len_places
        rw [hl] at hx ⊢
        exact ⟨g, c', rfl, hx, hb⟩⟩
      by_cases hat : at_ < 0 ∨ ((grainsL n ((placesL n).map (onB n fun k i => (hs3 a b c k).getD i false))).length : Int) ≤ at_
      · exact forms_out n _ at_ g1 g2 g3 _ c1 _ c2 _ c3 _ w ht hn1 hn2 rfl hsum.1 hsum.2 hT hat HH
      · obtain ⟨k, rfl⟩ : ∃ k : Nat, at_ = k := ⟨at_.toNat, by omega⟩
        have hk : k < (grainsL n ((placesL n).map (onB n fun k i => (hs3 a b c k).getD i false))).length := by omega
        exact forms_core n _ k _ g1 g2 g3 _ c1 _ c2 _ c3 _ w ht hn1 hn2 rfl hsum.1 hsum.2 hT (List.getElem?_eq_getElem hk) HH
end Go.Proofs.YtdghgilnhganmabDoor.Tp
