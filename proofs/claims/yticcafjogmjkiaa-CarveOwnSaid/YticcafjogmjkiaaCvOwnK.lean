/-
  WALKS (layer 5, carve): a block's own views; what they say of its hull.
-/
import Derived.Test.YticcafjogmjkiaaCvWrong
import Derived.Test.YticcafjogmjkiaaCvLessC
namespace Go.Proofs.Yticcafjogmjkiaa.Cv
open Go Go.RowKit Go.Sort

theorem six_start {w3 V : World} {Z : Nat} {x0 x1 x2 x3 x4 x5 y0 y1 y2 y3 y4 y5 : Value} {o : Obj} (h : (((((((w3.setCell ⟨Z, 0, none⟩ y0).setCell ⟨Z, 1, none⟩ y1).setCell ⟨Z, 2, none⟩ y2).setCell ⟨Z, 3, none⟩ y3).setCell ⟨Z, 4, none⟩ y4).setCell ⟨Z, 5, none⟩ y5).alloc o) = V)
    (c0 : w3.cell? ⟨Z, 0, none⟩ = some x0) (c1 : w3.cell? ⟨Z, 1, none⟩ = some x1) (c2 : w3.cell? ⟨Z, 2, none⟩ = some x2) (c3 : w3.cell? ⟨Z, 3, none⟩ = some x3) (c4 : w3.cell? ⟨Z, 4, none⟩ = some x4) (c5 : w3.cell? ⟨Z, 5, none⟩ = some x5) :
    V.cell? ⟨Z, 0, none⟩ = some y0 ∧ V.cell? ⟨Z, 1, none⟩ = some y1 ∧ V.cell? ⟨Z, 2, none⟩ = some y2 ∧ V.cell? ⟨Z, 3, none⟩ = some y3 ∧ V.cell? ⟨Z, 4, none⟩ = some y4 ∧ V.cell? ⟨Z, 5, none⟩ = some y5 := by
  subst h
  refine ⟨?_, ?_, ?_, ?_, ?_, ?_⟩
  all_goals
    refine Lib.cell?_alloc_some _ ?_
    simp (maxDischargeDepth := 9) [go_sem, c0, c1, c2, c3, c4, c5]
set_option maxRecDepth 100000 in
set_option maxHeartbeats 2000000 in
theorem views_any (s N3 N : Nat) (g : Option Addr) (c : Nat) (h : List Bool) (w : World) (hs : 1 ≤ s) (hs2 : s ≤ 10) (hl : h.length = s * s * s) (hN : s * s = N) (hv : LB w (.slice g N3 c) h) :
    Calls Try.prog 65 #[.agg #[.int .i64 s, .slice g N3 c]] w fun e w' => ∃ ga ca gb cb gc cc, e = .returned (.tuple #[.agg #[.int .i64 s, .slice ga N ca, .int .i64 s, .slice gb N cb, .int .i64 s, .slice gc N cc], .bool true]) ∧ (LB w' (.slice ga N ca) (viewL s 0 h) ∧ LB w' (.slice gb N cb) (viewL s 1 h) ∧ LB w' (.slice gc N cc) (viewL s 2 h)) ∧ Below w.heap.size w w' := by
  have HV : ∀ k : Nat, k < 3 → Kp (∀ W, Below w.heap.size w W → Calls Try.prog 28 #[.agg #[.int .i64 s, .slice g N3 c], .int .i64 (k : Int)] W fun en w' => ∃ g c, en = .returned (.tuple #[.agg #[.int .i64 s, .slice g N c], .int .i64 0]) ∧ FB W.heap.size w' (.slice g N c) (viewL s k h) ∧ Below W.heap.size W w') := fun k hk => ⟨fun W hW => hN ▸ View_fresh s k _ h W hk hs hs2 hl (hv.below hW)⟩
  have HV0 := HV 0 (by omega)
  have HV1 := HV 1 (by omega)
  have HV2 := HV 2 (by omega)
  obtain ⟨A, hA⟩ : ∃ A, viewL s 0 h = A := ⟨_, rfl⟩
  obtain ⟨B, hB⟩ : ∃ B, viewL s 1 h = B := ⟨_, rfl⟩
  obtain ⟨D, hD⟩ : ∃ D, viewL s 2 h = D := ⟨_, rfl⟩
  rw [hA] at HV0
  rw [hB] at HV1
  rw [hD] at HV2
  rw [hA, hB, hD]
  clear HV hv hl hs hs2 hN hA hB hD
  go_enter Try.func65, Try.ntmps65
  go_wp2_with fail
  refine (HV0.out _ (by repeat (first | exact Below.refl _ _ | refine Below.alloc ?_ (by simp <;> omega) _ | refine bDrewN ?_ _ | refine Below.drew ?_))).mono ?_
  rintro en w1 ⟨ga, ca, rfl, ha, hb1⟩
  have HA : Kp (FB (w.heap.size + 1 + 1) w1 (.slice ga N ca) A) := ⟨ha.more (by simp)⟩
  clear ha
  have HB1 : Kp (Below w.heap.size w w1) := ⟨Below.trans (by repeat (first | refine Below.alloc ?_ (by (try simp) <;> omega) _ | refine bDrewN ?_ _ | refine Below.drew ?_ | refine Below.setCell ?_ (by (try simp) <;> omega) _ | exact Below.refl _ _)) (hb1.mono (by (try simp) <;> omega))⟩
  have hz1_0 : w.heap.size < w1.heap.size := by have := hb1.size; (try simp at this); omega
  have hz1_1 : w.heap.size + 1 < w1.heap.size := by have := hb1.size; (try simp at this); omega
  obtain ⟨hc, hf⟩ := bcell hb1
  have c1_0_0 : w1.cell? ⟨w.heap.size, 0, none⟩ = some (.int .i64 s) := (hc _ _ (by (try simp) <;> omega)).trans (by go_simp)
  have c1_0_1 : w1.cell? ⟨w.heap.size, 1, none⟩ = some ((.slice g N3 c)) := (hc _ _ (by (try simp) <;> omega)).trans (by go_simp)
  have z1_0 : ∀ j, w1.frozen? ⟨w.heap.size, j, none⟩ = false := fun j => (hf _ _ (by (try simp) <;> omega)).trans (by go_simp)
  have c1_1_0 : w1.cell? ⟨w.heap.size + 1, 0, none⟩ = some (.int .i64 0) := (hc _ _ (by (try simp) <;> omega)).trans (by go_simp)
  have c1_1_1 : w1.cell? ⟨w.heap.size + 1, 1, none⟩ = some ((.slice none 0 0)) := (hc _ _ (by (try simp) <;> omega)).trans (by go_simp)
  have c1_1_2 : w1.cell? ⟨w.heap.size + 1, 2, none⟩ = some (.int .i64 0) := (hc _ _ (by (try simp) <;> omega)).trans (by go_simp)
  have c1_1_3 : w1.cell? ⟨w.heap.size + 1, 3, none⟩ = some ((.slice none 0 0)) := (hc _ _ (by (try simp) <;> omega)).trans (by go_simp)
  have c1_1_4 : w1.cell? ⟨w.heap.size + 1, 4, none⟩ = some (.int .i64 0) := (hc _ _ (by (try simp) <;> omega)).trans (by go_simp)
  have c1_1_5 : w1.cell? ⟨w.heap.size + 1, 5, none⟩ = some ((.slice none 0 0)) := (hc _ _ (by (try simp) <;> omega)).trans (by go_simp)
  have z1_1 : ∀ j, w1.frozen? ⟨w.heap.size + 1, j, none⟩ = false := fun j => (hf _ _ (by (try simp) <;> omega)).trans (by go_simp)
  clear hc hf hb1
  go_wp2_with fail
  refine (HV1.out _ (HB1.out.alloc HB1.out.size _)).mono ?_
  rintro en w2 ⟨gb, cb, rfl, hb, hb2⟩
  have HA := Kp.mk ((HA.out.below ((Below.refl _ _).alloc (Nat.le_refl _) _)).below hb2)
  have HBB : Kp (FB (w.heap.size + 1 + 1) w2 (.slice gb N cb) B) := ⟨hb.more (by rw [World.size_alloc]; omega)⟩
  clear hb
  have HB2 : Kp (Below w.heap.size w w2) := ⟨Below.trans (by repeat (first | refine Below.alloc ?_ (by have := HB1.out.size; (try simp) <;> omega) _ | refine bDrewN ?_ _ | refine Below.drew ?_ | refine Below.setCell ?_ (by have := HB1.out.size; (try simp) <;> omega) _ | exact HB1.out)) (hb2.mono (by have := HB1.out.size; (try simp) <;> omega))⟩
  have hz2_0 : w.heap.size < w2.heap.size := by have := hb2.size; (try simp at this); omega
  have hz2_1 : w.heap.size + 1 < w2.heap.size := by have := hb2.size; (try simp at this); omega
  have hz2_2 : w1.heap.size < w2.heap.size := by have := hb2.size; (try simp at this); omega
  obtain ⟨hc, hf⟩ := bcell hb2
  have c2_0_0 : w2.cell? ⟨w.heap.size, 0, none⟩ = some (.int .i64 s) := (hc _ _ (by (try simp) <;> omega)).trans (by go_simp)
  have c2_0_1 : w2.cell? ⟨w.heap.size, 1, none⟩ = some ((.slice g N3 c)) := (hc _ _ (by (try simp) <;> omega)).trans (by go_simp)
  have z2_0 : ∀ j, w2.frozen? ⟨w.heap.size, j, none⟩ = false := fun j => (hf _ _ (by (try simp) <;> omega)).trans (by go_simp)
  have c2_1_0 : w2.cell? ⟨w.heap.size + 1, 0, none⟩ = some (.int .i64 0) := (hc _ _ (by (try simp) <;> omega)).trans (by go_simp)
  have c2_1_1 : w2.cell? ⟨w.heap.size + 1, 1, none⟩ = some ((.slice none 0 0)) := (hc _ _ (by (try simp) <;> omega)).trans (by go_simp)
  have c2_1_2 : w2.cell? ⟨w.heap.size + 1, 2, none⟩ = some (.int .i64 0) := (hc _ _ (by (try simp) <;> omega)).trans (by go_simp)
  have c2_1_3 : w2.cell? ⟨w.heap.size + 1, 3, none⟩ = some ((.slice none 0 0)) := (hc _ _ (by (try simp) <;> omega)).trans (by go_simp)
  have c2_1_4 : w2.cell? ⟨w.heap.size + 1, 4, none⟩ = some (.int .i64 0) := (hc _ _ (by (try simp) <;> omega)).trans (by go_simp)
  have c2_1_5 : w2.cell? ⟨w.heap.size + 1, 5, none⟩ = some ((.slice none 0 0)) := (hc _ _ (by (try simp) <;> omega)).trans (by go_simp)
  have z2_1 : ∀ j, w2.frozen? ⟨w.heap.size + 1, j, none⟩ = false := fun j => (hf _ _ (by (try simp) <;> omega)).trans (by go_simp)
  have c2_2_0 : w2.cell? ⟨w1.heap.size, 0, none⟩ = some (.int .i64 s) := (hc _ _ (by (try simp) <;> omega)).trans (by go_simp)
  have c2_2_1 : w2.cell? ⟨w1.heap.size, 1, none⟩ = some ((.slice ga N ca)) := (hc _ _ (by (try simp) <;> omega)).trans (by go_simp)
  have z2_2 : ∀ j, w2.frozen? ⟨w1.heap.size, j, none⟩ = false := fun j => (hf _ _ (by (try simp) <;> omega)).trans (by go_simp)
  clear hc hf hb2
  go_wp2_with fail
  refine (HV2.out _ (HB2.out.alloc HB2.out.size _)).mono ?_
  rintro en w3 ⟨gc, cc, rfl, hc', hb3⟩
  have HA := Kp.mk ((HA.out.below ((Below.refl _ _).alloc (Nat.le_refl _) _)).below hb3)
  have HBB := Kp.mk ((HBB.out.below ((Below.refl _ _).alloc (Nat.le_refl _) _)).below hb3)
  have HC : Kp (FB (w.heap.size + 1 + 1) w3 (.slice gc N cc) D) := ⟨hc'.more (by rw [World.size_alloc]; omega)⟩
  clear hc'
  have HB3 : Kp (Below w.heap.size w w3) := ⟨Below.trans (by repeat (first | refine Below.alloc ?_ (by have := HB2.out.size; (try simp) <;> omega) _ | refine bDrewN ?_ _ | refine Below.drew ?_ | refine Below.setCell ?_ (by have := HB2.out.size; (try simp) <;> omega) _ | exact HB2.out)) (hb3.mono (by have := HB2.out.size; (try simp) <;> omega))⟩
  have hz3_0 : w.heap.size + 1 < w3.heap.size := by have := hb3.size; (try simp at this); omega
  have hz3_1 : w1.heap.size < w3.heap.size := by have := hb3.size; (try simp at this); omega
  have hz3_2 : w2.heap.size < w3.heap.size := by have := hb3.size; (try simp at this); omega
  obtain ⟨hc, hf⟩ := bcell hb3
  have c3_0_0 : w3.cell? ⟨w.heap.size + 1, 0, none⟩ = some (.int .i64 0) := (hc _ _ (by (try simp) <;> omega)).trans (by go_simp)
  have c3_0_1 : w3.cell? ⟨w.heap.size + 1, 1, none⟩ = some ((.slice none 0 0)) := (hc _ _ (by (try simp) <;> omega)).trans (by go_simp)
  have c3_0_2 : w3.cell? ⟨w.heap.size + 1, 2, none⟩ = some (.int .i64 0) := (hc _ _ (by (try simp) <;> omega)).trans (by go_simp)
  have c3_0_3 : w3.cell? ⟨w.heap.size + 1, 3, none⟩ = some ((.slice none 0 0)) := (hc _ _ (by (try simp) <;> omega)).trans (by go_simp)
  have c3_0_4 : w3.cell? ⟨w.heap.size + 1, 4, none⟩ = some (.int .i64 0) := (hc _ _ (by (try simp) <;> omega)).trans (by go_simp)
  have c3_0_5 : w3.cell? ⟨w.heap.size + 1, 5, none⟩ = some ((.slice none 0 0)) := (hc _ _ (by (try simp) <;> omega)).trans (by go_simp)
  have z3_0 : ∀ j, w3.frozen? ⟨w.heap.size + 1, j, none⟩ = false := fun j => (hf _ _ (by (try simp) <;> omega)).trans (by go_simp)
  have c3_1_0 : w3.cell? ⟨w1.heap.size, 0, none⟩ = some (.int .i64 s) := (hc _ _ (by (try simp) <;> omega)).trans (by go_simp)
  have c3_1_1 : w3.cell? ⟨w1.heap.size, 1, none⟩ = some ((.slice ga N ca)) := (hc _ _ (by (try simp) <;> omega)).trans (by go_simp)
  have z3_1 : ∀ j, w3.frozen? ⟨w1.heap.size, j, none⟩ = false := fun j => (hf _ _ (by (try simp) <;> omega)).trans (by go_simp)
  have c3_2_0 : w3.cell? ⟨w2.heap.size, 0, none⟩ = some (.int .i64 s) := (hc _ _ (by (try simp) <;> omega)).trans (by go_simp)
  have c3_2_1 : w3.cell? ⟨w2.heap.size, 1, none⟩ = some ((.slice gb N cb)) := (hc _ _ (by (try simp) <;> omega)).trans (by go_simp)
  have z3_2 : ∀ j, w3.frozen? ⟨w2.heap.size, j, none⟩ = false := fun j => (hf _ _ (by (try simp) <;> omega)).trans (by go_simp)
  clear hc hf hb3
  go_wp2
  have HB4 : Below w.heap.size w (((((((w3.setCell ⟨w.heap.size + 1, 0, none⟩ (.int .i64 s)).setCell ⟨w.heap.size + 1, 1, none⟩ (.slice ga N ca)).setCell ⟨w.heap.size + 1, 2, none⟩ (.int .i64 s)).setCell ⟨w.heap.size + 1, 3, none⟩ (.slice gb N cb)).setCell ⟨w.heap.size + 1, 4, none⟩ (.int .i64 s)).setCell ⟨w.heap.size + 1, 5, none⟩ (.slice gc N cc)).alloc (.cells #[.int .i64 s, .slice gc N cc] 25)) := by (have hzS := HB3.out.size; (repeat (with_reducible first | exact HB3.out | refine Below.setCell ?_ ?_ _ | refine Below.alloc ?_ ?_ _ | refine Below.drew ?_ | refine bDrewN ?_ _)); all_goals ((try simp) <;> omega))
  have key : ∀ {u : Value} {L : List Bool}, FB (w.heap.size + 1 + 1) w3 u L → LB (((((((w3.setCell ⟨w.heap.size + 1, 0, none⟩ (.int .i64 s)).setCell ⟨w.heap.size + 1, 1, none⟩ (.slice ga N ca)).setCell ⟨w.heap.size + 1, 2, none⟩ (.int .i64 s)).setCell ⟨w.heap.size + 1, 3, none⟩ (.slice gb N cb)).setCell ⟨w.heap.size + 1, 4, none⟩ (.int .i64 s)).setCell ⟨w.heap.size + 1, 5, none⟩ (.slice gc N cc)).alloc (.cells #[.int .i64 s, .slice gc N cc] 25)) u L := fun h =>
    (((((((h.set _ 0 (.int .i64 s) (by omega)).set _ 1 (.slice ga N ca) (by omega)).set _ 2 (.int .i64 s) (by omega)).set _ 3 (.slice gb N cb) (by omega)).set _ 4 (.int .i64 s) (by omega)).set _ 5 (.slice gc N cc) (by omega)).below ((Below.refl _ _).alloc (Nat.le_refl _) _)).1
  have kA := key HA.out
  have kB := key HBB.out
  have kC := key HC.out
  clear key
  obtain ⟨V, hV⟩ : ∃ V, (((((((w3.setCell ⟨w.heap.size + 1, 0, none⟩ (.int .i64 s)).setCell ⟨w.heap.size + 1, 1, none⟩ (.slice ga N ca)).setCell ⟨w.heap.size + 1, 2, none⟩ (.int .i64 s)).setCell ⟨w.heap.size + 1, 3, none⟩ (.slice gb N cb)).setCell ⟨w.heap.size + 1, 4, none⟩ (.int .i64 s)).setCell ⟨w.heap.size + 1, 5, none⟩ (.slice gc N cc)).alloc (.cells #[.int .i64 s, .slice gc N cc] 25)) = V := ⟨_, rfl⟩
  obtain ⟨d0, d1, d2, d3, d4, d5⟩ := six_start hV c3_0_0 c3_0_1 c3_0_2 c3_0_3 c3_0_4 c3_0_5
  rw [hV] at HB4 kA kB kC ⊢
  exact bodyPost_ret (v := .tuple #[.agg #[.int .i64 s, .slice ga N ca, .int .i64 s, .slice gb N cb, .int .i64 s, .slice gc N cc], .bool true]) (by simp [results, Try.results65, go_sem, d0, d1, d2, d3, d4, d5]) rfl ⟨_, _, _, _, _, _, rfl, ⟨kA, kB, kC⟩, HB4⟩
theorem dark_refl (A : List Bool) : darkB A A = true := by
  unfold darkB
  rw [decide_eq_true_eq]
  exact fun i _ h => h
theorem dark_mono {s k : Nat} {X Y : List Bool} (h : ∀ g ∈ grainsL s X, g ∈ grainsL s Y) : darkB (viewL s k X) (viewL s k Y) = true := by
  unfold darkB
  rw [decide_eq_true_eq]
  intro i hi hd
  rw [viewL_len] at hi
  rw [List.getD_eq_getElem?_getD, viewL_at hi, Option.getD_some, decide_eq_true_eq] at hd ⊢
  obtain ⟨g, hg, e⟩ := hd
  exact ⟨g, h g hg, e⟩
theorem own_within (s : Nat) (h : List Bool) : (grainsL s h).all (hasB s (hullB s (viewL s 0 h) (viewL s 1 h) (viewL s 2 h))) = true := by
  rw [within_dark, dark_refl, dark_refl, dark_refl]
  rfl
theorem within_mem {s : Nat} {X Y : List Bool} (h : (grainsL s X).all (hasB s Y) = true) : ∀ g ∈ grainsL s X, g ∈ grainsL s Y := by
  rw [List.all_eq_true] at h
  intro g hg
  exact List.mem_filter.2 ⟨(List.mem_filter.1 hg).1, h g hg⟩
theorem own_right (s : Nat) (h : List Bool) : wrO s (viewL s 0 h) (viewL s 1 h) (viewL s 2 h) = none := by
  refine wrO_none fun j hj => ?_
  rw [firstBad_dark]
  match j, hj with
  | 0, _ => exact dark_mono (within_mem (own_within s h))
  | 1, _ => exact dark_mono (within_mem (own_within s h))
  | 2, _ => exact dark_mono (within_mem (own_within s h))
theorem less_mem {s : Nat} {h : List Bool} {l : List Gr} : ∀ g ∈ grainsL s (lessL s h l), g ∈ grainsL s h := by
  intro g hg
  have hm : g ∈ placesL s := (List.mem_filter.1 hg).1
  have := (mem_grains hm).1 hg
  unfold lessB at this
  rw [Bool.and_eq_true] at this
  exact List.mem_filter.2 ⟨hm, this.1⟩
theorem less_within (s : Nat) (h : List Bool) (l : List Gr) : (grainsL s (lessL s h l)).all (hasB s h) = true := by
  rw [List.all_eq_true]
  exact fun g hg => (List.mem_filter.1 (less_mem g hg)).2
end Go.Proofs.Yticcafjogmjkiaa.Cv
