/-
  WALKS (layer 7, scene): the program's mount of one cell.
-/
import Derived.Test.YtjnggchljilooaaScRaisI
import Derived.StillTailTactics
namespace Go.Proofs.Ytjnggchljilooaa.Sc
open Go Go.RowKit Go.Sort

theorem region_tail {P : Program} {id : Nat} {Q : Exit → Act → World → Prop} {a : Act} {w : World} {l : List Oper} (n : Nat) (hm : P.follows .mixedOrders = true) (hB : Region.lexTailB .any l.toArray n = true)
    (h : ∀ w1, w1 = w.drew → wpStill P l.toArray w1 (fun a' => wpList P l.toArray Q (l.drop n) a' w1) (l.take n) a) : (Code.region id l.toArray true).wp P Q a w :=
  wp_region_still_tail n hm hB (h _ rfl)
theorem RS.on {w wr W : World} {B G cap M : Nat} {wd dp : Int} {X : List Int} (h : RS w B G cap M wd dp X wr) (h0 : 0 < X.length) (hb : Below wr.heap.size wr W) : RS w B G cap M wd dp X W := by
  obtain ⟨hw, ⟨q0, q1, q2, r0, r1, r2⟩, hz, hf, hc⟩ := h
  have hB := World.block_lt_of_cell? _ _ q0
  have hB1 := World.block_lt_of_cell? _ _ r0
  have hG := World.block_lt_of_cell? _ _ (hc 0 _ (List.getElem?_eq_getElem h0))
  exact ⟨hw.trans (hb.mono hw.size), ⟨(hb.cell (p := ⟨B, 0, none⟩) hB).trans q0, (hb.cell (p := ⟨B, 1, none⟩) hB).trans q1, (hb.cell (p := ⟨B, 2, none⟩) hB).trans q2, (hb.cell (p := ⟨B + 1, 0, none⟩) hB1).trans r0, (hb.cell (p := ⟨B + 1, 1, none⟩) hB1).trans r1, (hb.cell (p := ⟨B + 1, 2, none⟩) hB1).trans r2⟩, fun j => (World.frozen?_of_block (a := ⟨B + 1, j, none⟩) (hb.block _ hB1)).trans (hz j), fun j => (World.frozen?_of_block (a := ⟨G, j, none⟩) (hb.block _ hG)).trans (hf j), fun i x hx => (hb.cell (p := ⟨G, i, none⟩) hG).trans (hc i x hx)⟩
set_option maxRecDepth 100000 in
set_option maxHeartbeats 4000000 in
theorem mount_in (wd dp n T y : Int) (k b1 b2 : Nat) (L : List Int) (g : Option Addr) (M c : Nat) (w : World)
    (HLM : Kp (L.length = M ∧ M ≤ 1000 ∧ k < M ∧ L[k]? = some y ∧ IntKind.i64.wrap (y + n) = T)) (HT : T ≤ 1000)
    (HCL : Kp (∀ W, Below w.heap.size w W → Calls Try.prog 58 #[.slice g M c] W fun e w' => ∃ u, e = .returned u ∧ (∃ G, W.heap.size ≤ G ∧ G < w'.heap.size ∧ RI w' G u L) ∧ Below W.heap.size W w'))
    (HWI : Kp (∀ W u, IS W u [(k : Int)] → Calls Try.prog 51 #[.int .i64 0, .int .i64 ((M : Int) - 1), u] W fun e w' => e = .returned (.bool true) ∧ W = w'))
    (HCO : Kp (∀ W a d, Calls Try.prog 75 #[.slice a 0 d, .int .i64 (k : Int)] W fun e w' => e = .returned (.bool false) ∧ W = w'))
    (HC : Kp (w.cell? ⟨b1, 0, none⟩ = some (.int .i64 n) ∧ w.cell? ⟨b2, 0, none⟩ = some (.int .i64 (k : Int)))) :
    Calls Try.prog 52 #[.agg #[.int .i64 wd, .int .i64 dp, .slice g M c], .slice (some ⟨b1, 0, none⟩) 1 1, .slice (some ⟨b2, 0, none⟩) 1 1] w fun e w' => (∃ u G, e = .returned (.tuple #[.agg #[.int .i64 wd, .int .i64 dp, u], .bool true]) ∧ w.heap.size ≤ G ∧ RI w' G u (L.set k T)) ∧ Below w.heap.size w w' := by
  have HCC : Kp (∀ W, Below w.heap.size w W → W.cell? ⟨b1, 0, none⟩ = some (.int .i64 n) ∧ W.cell? ⟨b2, 0, none⟩ = some (.int .i64 (k : Int))) := ⟨fun W hW => ⟨(hW.cell (p := ⟨b1, 0, none⟩) (World.block_lt_of_cell? _ _ HC.out.1)).trans HC.out.1, (hW.cell (p := ⟨b2, 0, none⟩) (World.block_lt_of_cell? _ _ HC.out.2)).trans HC.out.2⟩⟩
  clear HC
  go_enter Try.func52, Try.ntmps52
  go_wp2_with fail
  try simp only [Nat.add_assoc, Nat.reduceAdd]
  obtain ⟨W1, hW1⟩ : ∃ W, (w.alloc (.cells #[.int .i64 wd, .int .i64 dp, .slice g M c] 24)).alloc (.cells #[.int .i64 0, .int .i64 0, .slice none 0 0] 24) = W := ⟨_, rfl⟩
  obtain ⟨hb1, hall⟩ := boxesG_start hW1
  have HSZ : Kp (w.heap.size + 2 ≤ W1.heap.size) := ⟨by rw [← hW1]; simp⟩
  rw [hW1]
  obtain ⟨B, hB⟩ : ∃ B, w.heap.size = B := ⟨_, rfl⟩
  have HBB := Kp.mk hB
  have HCX := Kp.mk (HCL.out W1 hb1)
  rw [hB] at hall HSZ
  have HB1 := Kp.mk hb1
  have HALL := Kp.mk hall
  try simp only [hB]
  clear hW1 hb1 hall hB HCL
  refine (HCX.out).mono ?_
  rintro en w5 ⟨u, rfl, ⟨G, hG1, hG2, hR⟩, hb5⟩
  obtain ⟨q0, q1, q2, r0, r1, r2, qz, rz⟩ := HALL.out w5 hb5
  have HB5 := Kp.mk (HB1.out.trans (hb5.mono HB1.out.size))
  have y2 := qz 2
  obtain ⟨cap, rfl, hcap, hfz, hcells⟩ := hR
  obtain ⟨hLM, hM, hkM, hy, hT⟩ := HLM.out
  rw [hLM] at hcap
  rw [hLM]
  have HC5 := Kp.mk (And.intro hcells hfz)
  have HRZ := Kp.mk (And.intro qz rz)
  have hne : B + 1 < G := by have := HSZ.out; omega
  clear hcells hfz qz rz hb5 hT hy HCX
  go_wp2_with fail
  have HNE := Kp.mk (And.intro hne hcap)
  clear hne hcap
  obtain ⟨w6, hw6⟩ : ∃ w6, w5.setCell ⟨B, 2, none⟩ (.slice (some ⟨G, 0, none⟩) M cap) = w6 := ⟨_, rfl⟩
  have H6 : Kp (RS w B G cap M wd dp L w6) := by
    have h1 := HNE.out.1
    have h2 := HBB.out
    subst hw6
    refine ⟨HB5.out.setCell (by simp only; omega) _, ⟨?_, ?_, ?_, ?_, ?_, ?_⟩, fun j => ?_, fun j => ?_, fun i y hy => ?_⟩
    · exact (World.cell?_setCell_other _ _ _ _ (by simp)).trans q0
    · exact (World.cell?_setCell_other _ _ _ _ (by simp)).trans q1
    · simp [go_sem, q2]
    · exact (World.cell?_setCell_other _ _ _ _ (by simp)).trans r0
    · exact (World.cell?_setCell_other _ _ _ _ (by simp)).trans r1
    · exact (World.cell?_setCell_other _ _ _ _ (by simp)).trans r2
    · simp [go_sem, HRZ.out.2 j]
    · simp [go_sem, HC5.out.2 j]
    · exact (World.cell?_setCell_other _ _ _ _ (by simp only [ne_eq, Addr.mk.injEq, not_and]; intros; omega)).trans (HC5.out.1 i y hy)
  rw [hw6]
  clear hw6 q0 q1 q2 r0 r1 r2 y2 HC5 HRZ HB5 HALL HB1 HSZ
  obtain ⟨-, ⟨q0, q1, q2, r0, r1, r2⟩, -⟩ := H6.out
  obtain ⟨p1, p2⟩ := HCC.out w6 H6.out.1
  have o1 : IntKind.i64.wrap ((M : Int) - 1) = (M : Int) - 1 := IntWalk.i64_in _ (by omega)
  refine wp_loop_rounds 2 ?_
  rw [rounds_succ]
  go_wp2_with fail
  refine (HWI.out _ _ (is_new1 _ _ _)).mono ?_
  rintro en w7 ⟨rfl, hw7⟩
  have H7 : Kp (RS w B G cap M wd dp L w7) := ⟨RS.on H6.out (by omega) (by rw [← hw7]; exact (Below.refl _ _).alloc (Nat.le_refl _) _)⟩
  clear hw7 H6 q0 q1 q2 r0 r1 r2 p1 p2 o1
  obtain ⟨-, ⟨q0, q1, q2, r0, r1, r2⟩, -⟩ := H7.out
  obtain ⟨p1, p2⟩ := HCC.out w7 H7.out.1
  go_wp2_with fail
  refine (HCO.out _ _ _).mono ?_
  rintro en w8 ⟨rfl, rfl⟩
  have k1 : (k : Int) < (M : Int) := by omega
  go_wp2_with fail
  refine region_tail 11 (by kernel_rfl) (by kernel_rfl) ?_
  intro wd2 hwd2
  have H8 : Kp (RS w B G cap M wd dp L wd2) := ⟨RS.on H7.out (by omega) (by rw [hwd2]; exact Below.drew (Below.refl _ _))⟩
  clear hwd2 H7 q0 q1 q2 r0 r1 r2 p1 p2
  obtain ⟨hbl, ⟨q0, q1, q2, r0, r1, r2⟩, hz, hf, hcells⟩ := H8.out
  obtain ⟨p1, p2⟩ := HCC.out wd2 H8.out.1
  have hT := HLM.out.2.2.2.2
  have hc := hcells k y HLM.out.2.2.2.1
  have hfk := hf k
  have t0 := hz 0
  have t1 := hz 1
  have t2 := hz 2
  have HU : Kp (RI (wd2.setCell ⟨G, k, none⟩ (.int .i64 T)) G (.slice (some ⟨G, 0, none⟩) M cap) (L.set k T)) := ⟨RI.put ⟨cap, by rw [HLM.out.1], by rw [HLM.out.1]; exact HNE.out.2, hf, hcells⟩ (by rw [HLM.out.1]; exact hkM)⟩
  have HBL := Kp.mk hbl
  have h1 := HNE.out.1
  have n1 : ¬ B = G := by omega
  have n2 : ¬ B + 1 = G := by omega
  have n3 : ¬ G = B := by omega
  have n4 : ¬ G = B + 1 := by omega
  clear hcells hz hf hbl
  simp only [List.take_succ_cons, List.take_zero, List.drop_succ_cons, List.drop_zero]
  repeat still_step
  refine wpStill_nil ?_
  change wpList _ _ _ _ _ _
  clear h1
  have o4 : IntKind.i64.wrap ((0 : Int) + 1) = 1 := by decide
  have o5 : ¬ 1000 < T := by omega
  go_wp2_with fail
  rw [rounds_succ]
  go_wp2_with fail
  have h1 := HNE.out.1
  have h2 := HBB.out
  have hbl := HBL.out
  rw [h2] at hbl
  exact bodyPost_ret (v := .tuple #[.agg #[.int .i64 wd, .int .i64 dp, .slice (some ⟨G, 0, none⟩) M cap], .bool true]) (by simp [results, Try.results52, go_sem, r0, r1, r2]) rfl (by
    rw [h2]
    refine ⟨⟨_, G, rfl, by omega, ?_⟩, ?_⟩
    · repeat (first | exact HU.out | refine RI.away ?_ (by omega) _ _)
    · repeat (first | exact hbl | refine Below.setCell ?_ (by simp only; omega) _))
set_option maxRecDepth 100000 in
set_option maxHeartbeats 4000000 in
theorem mount_lim (wd dp n T y : Int) (k b1 b2 : Nat) (L : List Int) (g : Option Addr) (M c : Nat) (w : World)
    (HLM : Kp (L.length = M ∧ M ≤ 1000 ∧ k < M ∧ L[k]? = some y ∧ IntKind.i64.wrap (y + n) = T)) (HT : 1000 < T)
    (HCL : Kp (∀ W, Below w.heap.size w W → Calls Try.prog 58 #[.slice g M c] W fun e w' => ∃ u, e = .returned u ∧ (∃ G, W.heap.size ≤ G ∧ G < w'.heap.size ∧ RI w' G u L) ∧ Below W.heap.size W w'))
    (HWI : Kp (∀ W u, IS W u [(k : Int)] → Calls Try.prog 51 #[.int .i64 0, .int .i64 ((M : Int) - 1), u] W fun e w' => e = .returned (.bool true) ∧ W = w'))
    (HCO : Kp (∀ W a d, Calls Try.prog 75 #[.slice a 0 d, .int .i64 (k : Int)] W fun e w' => e = .returned (.bool false) ∧ W = w'))
    (HC : Kp (w.cell? ⟨b1, 0, none⟩ = some (.int .i64 n) ∧ w.cell? ⟨b2, 0, none⟩ = some (.int .i64 (k : Int)))) :
    Calls Try.prog 52 #[.agg #[.int .i64 wd, .int .i64 dp, .slice g M c], .slice (some ⟨b1, 0, none⟩) 1 1, .slice (some ⟨b2, 0, none⟩) 1 1] w fun e w' => (e = .returned (.tuple #[.agg #[.int .i64 0, .int .i64 0, .slice none 0 0], .bool false])) ∧ Below w.heap.size w w' := by
  have HCC : Kp (∀ W, Below w.heap.size w W → W.cell? ⟨b1, 0, none⟩ = some (.int .i64 n) ∧ W.cell? ⟨b2, 0, none⟩ = some (.int .i64 (k : Int))) := ⟨fun W hW => ⟨(hW.cell (p := ⟨b1, 0, none⟩) (World.block_lt_of_cell? _ _ HC.out.1)).trans HC.out.1, (hW.cell (p := ⟨b2, 0, none⟩) (World.block_lt_of_cell? _ _ HC.out.2)).trans HC.out.2⟩⟩
  clear HC
  go_enter Try.func52, Try.ntmps52
  go_wp2_with fail
  try simp only [Nat.add_assoc, Nat.reduceAdd]
  obtain ⟨W1, hW1⟩ : ∃ W, (w.alloc (.cells #[.int .i64 wd, .int .i64 dp, .slice g M c] 24)).alloc (.cells #[.int .i64 0, .int .i64 0, .slice none 0 0] 24) = W := ⟨_, rfl⟩
  obtain ⟨hb1, hall⟩ := boxesG_start hW1
  have HSZ : Kp (w.heap.size + 2 ≤ W1.heap.size) := ⟨by rw [← hW1]; simp⟩
  rw [hW1]
  obtain ⟨B, hB⟩ : ∃ B, w.heap.size = B := ⟨_, rfl⟩
  have HBB := Kp.mk hB
  have HCX := Kp.mk (HCL.out W1 hb1)
  rw [hB] at hall HSZ
  have HB1 := Kp.mk hb1
  have HALL := Kp.mk hall
  try simp only [hB]
  clear hW1 hb1 hall hB HCL
  refine (HCX.out).mono ?_
  rintro en w5 ⟨u, rfl, ⟨G, hG1, hG2, hR⟩, hb5⟩
  obtain ⟨q0, q1, q2, r0, r1, r2, qz, rz⟩ := HALL.out w5 hb5
  have HB5 := Kp.mk (HB1.out.trans (hb5.mono HB1.out.size))
  have y2 := qz 2
  obtain ⟨cap, rfl, hcap, hfz, hcells⟩ := hR
  obtain ⟨hLM, hM, hkM, hy, hT⟩ := HLM.out
  rw [hLM] at hcap
  rw [hLM]
  have HC5 := Kp.mk (And.intro hcells hfz)
  have HRZ := Kp.mk (And.intro qz rz)
  have hne : B + 1 < G := by have := HSZ.out; omega
  clear hcells hfz qz rz hb5 hT hy HCX
  go_wp2_with fail
  have HNE := Kp.mk (And.intro hne hcap)
  clear hne hcap
  obtain ⟨w6, hw6⟩ : ∃ w6, w5.setCell ⟨B, 2, none⟩ (.slice (some ⟨G, 0, none⟩) M cap) = w6 := ⟨_, rfl⟩
  have H6 : Kp (RS w B G cap M wd dp L w6) := by
    have h1 := HNE.out.1
    have h2 := HBB.out
    subst hw6
    refine ⟨HB5.out.setCell (by simp only; omega) _, ⟨?_, ?_, ?_, ?_, ?_, ?_⟩, fun j => ?_, fun j => ?_, fun i y hy => ?_⟩
    · exact (World.cell?_setCell_other _ _ _ _ (by simp)).trans q0
    · exact (World.cell?_setCell_other _ _ _ _ (by simp)).trans q1
    · simp [go_sem, q2]
    · exact (World.cell?_setCell_other _ _ _ _ (by simp)).trans r0
    · exact (World.cell?_setCell_other _ _ _ _ (by simp)).trans r1
    · exact (World.cell?_setCell_other _ _ _ _ (by simp)).trans r2
    · simp [go_sem, HRZ.out.2 j]
    · simp [go_sem, HC5.out.2 j]
    · exact (World.cell?_setCell_other _ _ _ _ (by simp only [ne_eq, Addr.mk.injEq, not_and]; intros; omega)).trans (HC5.out.1 i y hy)
  rw [hw6]
  clear hw6 q0 q1 q2 r0 r1 r2 y2 HC5 HRZ HB5 HALL HB1 HSZ
  obtain ⟨-, ⟨q0, q1, q2, r0, r1, r2⟩, -⟩ := H6.out
  obtain ⟨p1, p2⟩ := HCC.out w6 H6.out.1
  have o1 : IntKind.i64.wrap ((M : Int) - 1) = (M : Int) - 1 := IntWalk.i64_in _ (by omega)
  refine wp_loop_rounds 2 ?_
  rw [rounds_succ]
  go_wp2_with fail
  refine (HWI.out _ _ (is_new1 _ _ _)).mono ?_
  rintro en w7 ⟨rfl, hw7⟩
  have H7 : Kp (RS w B G cap M wd dp L w7) := ⟨RS.on H6.out (by omega) (by rw [← hw7]; exact (Below.refl _ _).alloc (Nat.le_refl _) _)⟩
  clear hw7 H6 q0 q1 q2 r0 r1 r2 p1 p2 o1
  obtain ⟨-, ⟨q0, q1, q2, r0, r1, r2⟩, -⟩ := H7.out
  obtain ⟨p1, p2⟩ := HCC.out w7 H7.out.1
  go_wp2_with fail
  refine (HCO.out _ _ _).mono ?_
  rintro en w8 ⟨rfl, rfl⟩
  have k1 : (k : Int) < (M : Int) := by omega
  go_wp2_with fail
  refine region_tail 11 (by kernel_rfl) (by kernel_rfl) ?_
  intro wd2 hwd2
  have H8 : Kp (RS w B G cap M wd dp L wd2) := ⟨RS.on H7.out (by omega) (by rw [hwd2]; exact Below.drew (Below.refl _ _))⟩
  clear hwd2 H7 q0 q1 q2 r0 r1 r2 p1 p2
  obtain ⟨hbl, ⟨q0, q1, q2, r0, r1, r2⟩, hz, hf, hcells⟩ := H8.out
  obtain ⟨p1, p2⟩ := HCC.out wd2 H8.out.1
  have hT := HLM.out.2.2.2.2
  have hc := hcells k y HLM.out.2.2.2.1
  have hfk := hf k
  have t0 := hz 0
  have t1 := hz 1
  have t2 := hz 2
  have HU : Kp (RI (wd2.setCell ⟨G, k, none⟩ (.int .i64 T)) G (.slice (some ⟨G, 0, none⟩) M cap) (L.set k T)) := ⟨RI.put ⟨cap, by rw [HLM.out.1], by rw [HLM.out.1]; exact HNE.out.2, hf, hcells⟩ (by rw [HLM.out.1]; exact hkM)⟩
  have HBL := Kp.mk hbl
  have h1 := HNE.out.1
  have n1 : ¬ B = G := by omega
  have n2 : ¬ B + 1 = G := by omega
  have n3 : ¬ G = B := by omega
  have n4 : ¬ G = B + 1 := by omega
  clear hcells hz hf hbl
  simp only [List.take_succ_cons, List.take_zero, List.drop_succ_cons, List.drop_zero]
  repeat still_step
  refine wpStill_nil ?_
  change wpList _ _ _ _ _ _
  clear h1
  go_wp2_with fail
  have h1 := HNE.out.1
  have h2 := HBB.out
  have hbl := HBL.out
  rw [h2] at hbl
  exact bodyPost_ret (v := .tuple #[.agg #[.int .i64 0, .int .i64 0, .slice none 0 0], .bool false]) (by simp [results, Try.results52, go_sem, r0, r1, r2]) rfl (by
    rw [h2]
    refine ⟨rfl, ?_⟩
    repeat (first | exact hbl | refine Below.setCell ?_ (by simp only; omega) _))
theorem mount_one (wd dp n y : Int) (k b1 b2 : Nat) (v : Value) (L : List Int) (w : World) (hv : IS w v L) (hk : L[k]? = some y) (hL : L.length ≤ 1000) (hy : 0 ≤ y ∧ y ≤ 1000) (hn : 0 ≤ n ∧ n ≤ 1000)
    (h1 : w.cell? ⟨b1, 0, none⟩ = some (.int .i64 n)) (h2 : w.cell? ⟨b2, 0, none⟩ = some (.int .i64 (k : Int))) :
    Calls Try.prog 52 #[.agg #[.int .i64 wd, .int .i64 dp, v], .slice (some ⟨b1, 0, none⟩) 1 1, .slice (some ⟨b2, 0, none⟩) 1 1] w fun e w' => (∃ a b g2 M2 c2 G, e = .returned (.tuple #[.agg #[.int .i64 a, .int .i64 b, .slice g2 M2 c2], .bool (decide (y + n ≤ 1000))]) ∧ (decide (y + n ≤ 1000) = true → a = wd ∧ b = dp ∧ w.heap.size ≤ G ∧ RI w' G (.slice g2 M2 c2) (L.set k (y + n)))) ∧ Below w.heap.size w w' := by
  have hkl := (List.getElem?_eq_some_iff.1 hk).1
  have HLM : Kp (L.length = L.length ∧ L.length ≤ 1000 ∧ k < L.length ∧ L[k]? = some y ∧ IntKind.i64.wrap (y + n) = y + n) := ⟨rfl, hL, hkl, hk, IntWalk.i64_in _ (by omega)⟩
  have HCL : Kp (∀ W, Below w.heap.size w W → Calls Try.prog 58 #[v] W fun e w' => ∃ u, e = .returned u ∧ (∃ G, W.heap.size ≤ G ∧ G < w'.heap.size ∧ RI w' G u L) ∧ Below W.heap.size W w') := ⟨fun W hW => clone_any v L W (hv.below hW) (by omega) (by omega)⟩
  have HWI : Kp (∀ W u, IS W u [(k : Int)] → Calls Try.prog 51 #[.int .i64 0, .int .i64 ((L.length : Int) - 1), u] W fun e w' => e = .returned (.bool true) ∧ W = w') := ⟨fun W u hu => by
    have := within_any 0 ((L.length : Int) - 1) u _ W hu (by simp)
    rwa [allIn_one, inB_iff.2 ⟨by omega, by omega⟩] at this⟩
  have HCO : Kp (∀ W a d, Calls Try.prog 75 #[.slice a 0 d, .int .i64 (k : Int)] W fun e w' => e = .returned (.bool false) ∧ W = w') := ⟨fun W a d => (Try.slices_Contains_int_empty a d (k : Int) W).mono fun e w' h => ⟨h.1, h.2.symm⟩⟩
  obtain ⟨g, c, rfl⟩ := hv.shape
  by_cases hT : y + n ≤ 1000
  · refine (mount_in wd dp n (y + n) y k b1 b2 L g L.length c w HLM hT HCL HWI HCO ⟨h1, h2⟩).mono ?_
    rintro e w' ⟨⟨u, G, rfl, hG, hr⟩, hb⟩
    obtain ⟨g2, c2, rfl⟩ := hr.is.shape
    exact ⟨⟨wd, dp, g2, _, c2, G, by rw [decide_eq_true hT], fun _ => ⟨rfl, rfl, hG, hr⟩⟩, hb⟩
  · refine (mount_lim wd dp n (y + n) y k b1 b2 L g L.length c w HLM (by omega) HCL HWI HCO ⟨h1, h2⟩).mono ?_
    rintro e w' ⟨rfl, hb⟩
    exact ⟨⟨0, 0, none, 0, 0, 0, by rw [decide_eq_false hT], fun k => by rw [decide_eq_false hT] at k; cases k⟩, hb⟩
end Go.Proofs.Ytjnggchljilooaa.Sc
