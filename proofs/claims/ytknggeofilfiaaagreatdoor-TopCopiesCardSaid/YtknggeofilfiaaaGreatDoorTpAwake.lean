/-
  WALKS (through the layers): View of a valid block, Same of the reference, the check that fails for an empty program.
-/
import Derived.Test.YtknggeofilfiaaaGreatDoorCvHull
import Derived.Test.YtknggeofilfiaaaGreatDoorMkRow
namespace Go.Proofs.YtknggeofilfiaaaGreatDoor.Tp
open Go Go.RowKit Go.Sort Go.Proofs.YtknggeofilfiaaaGreatDoor.Cv

theorem View_in (s : Nat) (v : Value) (h : List Bool) (ax : Int) (f : Nat) (sq : Gr → Int × Int) (hax : AxF ax f sq) (hx : ixB ax 3 = true) (w : World) (hs : 1 ≤ s) (hs2 : s ≤ 10) (hl : h.length = s * s * s) (hv : LB w v h) :
    Calls Tryz.prog 14 #[.agg #[.int .i64 s, v], .int .i64 ax] w fun en w' => ∃ v, en = .returned (.tuple #[v, .int .i64 0]) ∧ VB w' v s ((cnts s (s * s) sq (grainsL s h)).map fun n => decide (0 < n)) ∧ Below w.heap.size w w' := by
  have hb : blockB s h.length = true := by
    unfold blockB
    rw [side_iff.2 (by omega), decide_eq_true (by rw [hl, Int.natCast_mul, Int.natCast_mul])]; rfl
  have HX : Kp (∀ W, Below w.heap.size w W → Calls Tryz.prog 32 #[.agg #[.int .i64 s, v], .int .i64 ax] W fun en w' => ∃ u, en = .returned (.agg #[.int .i64 s, u]) ∧ OB W.heap.size w' u ((cnts s (s * s) sq (grainsL s h)).map fun n => decide (0 < n)) ∧ Below W.heap.size W w') := ⟨fun W hW => view_any s v h ax f sq hax W hs hs2 hl (hv.below hW)⟩
  obtain ⟨g, c, rfl⟩ := hv.shape
  have HB : Kp (∀ W, Calls Tryz.prog 30 #[.agg #[.int .i64 s, .slice g h.length c]] W fun e w' => e = .returned (.bool true) ∧ Below W.heap.size W w') := ⟨fun W => hb ▸ ValidBlock_any s g h.length c W⟩
  have HA : Kp (∀ W, Calls Tryz.prog 31 #[.int .i64 ax] W fun e w' => e = .returned (.bool true) ∧ W = w') := ⟨fun W => hx ▸ isAxis_any ax W⟩
  obtain ⟨L, hL⟩ : ∃ L, (cnts s (s * s) sq (grainsL s h)).map (fun n => decide (0 < n)) = L := ⟨_, rfl⟩
  rw [hL] at HX ⊢
  clear hl hv hb hL hax hx
  go_enter Tryz.func14, Tryz.ntmps14
  go_wp2_with fail
  refine (HB.out _).mono ?_
  rintro en w1 ⟨rfl, hb1⟩
  have HB1 : Kp (Below w.heap.size w w1) := ⟨Below.trans (by repeat (first | refine Below.alloc ?_ (by (try simp) <;> omega) _ | refine bDrewN ?_ _ | refine Below.drew ?_ | refine Below.setCell ?_ (by (try simp) <;> omega) _ | exact Below.refl _ _)) (hb1.mono (by (try simp) <;> omega))⟩
  have hz1_0 : w.heap.size < w1.heap.size := by have := hb1.size; (try simp at this); omega
  have hz1_1 : w.heap.size + 1 < w1.heap.size := by have := hb1.size; (try simp at this); omega
  obtain ⟨hc, hf⟩ := bcell hb1
  have c1_0_0 : w1.cell? ⟨w.heap.size, 0, none⟩ = some (.int .i64 s) := (hc _ _ (by (try simp) <;> omega)).trans (by go_simp)
  have c1_0_1 : w1.cell? ⟨w.heap.size, 1, none⟩ = some ((.slice g h.length c)) := (hc _ _ (by (try simp) <;> omega)).trans (by go_simp)
  have z1_0 : ∀ j, w1.frozen? ⟨w.heap.size, j, none⟩ = false := fun j => (hf _ _ (by (try simp) <;> omega)).trans (by go_simp)
  have c1_1_0 : w1.cell? ⟨w.heap.size + 1, 0, none⟩ = some (.int .i64 0) := (hc _ _ (by (try simp) <;> omega)).trans (by go_simp)
  have c1_1_1 : w1.cell? ⟨w.heap.size + 1, 1, none⟩ = some ((.slice none 0 0)) := (hc _ _ (by (try simp) <;> omega)).trans (by go_simp)
  have z1_1 : ∀ j, w1.frozen? ⟨w.heap.size + 1, j, none⟩ = false := fun j => (hf _ _ (by (try simp) <;> omega)).trans (by go_simp)
  clear hc hf hb1
  go_wp2_with fail
  refine (HA.out _).mono ?_
  rintro en w2 ⟨rfl, rfl⟩
  go_wp2_with fail
  refine (HX.out _ HB1.out).mono ?_
  rintro en w2 ⟨u, rfl, hu, hb2⟩
  obtain ⟨gu, cu, rfl⟩ := hu.lb.shape
  have HR : Kp (OB (w.heap.size + 1 + 1) w2 _ L) := ⟨hu.more (by omega)⟩
  clear hu
  have HB2 : Kp (Below w.heap.size w w2) := ⟨Below.trans (by repeat (first | refine Below.alloc ?_ (by have := HB1.out.size; (try simp) <;> omega) _ | refine bDrewN ?_ _ | refine Below.drew ?_ | refine Below.setCell ?_ (by have := HB1.out.size; (try simp) <;> omega) _ | exact HB1.out)) (hb2.mono (by have := HB1.out.size; (try simp) <;> omega))⟩
  have hz2_0 : w.heap.size + 1 < w2.heap.size := by have := hb2.size; (try simp at this); omega
  obtain ⟨hc, hf⟩ := bcell hb2
  have c2_0_0 : w2.cell? ⟨w.heap.size + 1, 0, none⟩ = some (.int .i64 0) := (hc _ _ (by (try simp) <;> omega)).trans (by go_simp)
  have c2_0_1 : w2.cell? ⟨w.heap.size + 1, 1, none⟩ = some ((.slice none 0 0)) := (hc _ _ (by (try simp) <;> omega)).trans (by go_simp)
  have z2_0 : ∀ j, w2.frozen? ⟨w.heap.size + 1, j, none⟩ = false := fun j => (hf _ _ (by (try simp) <;> omega)).trans (by go_simp)
  clear hc hf hb2
  go_wp2
  have HB3 : Below w.heap.size w ((w2.setCell ⟨w.heap.size + 1, 0, none⟩ (.int .i64 s)).setCell ⟨w.heap.size + 1, 1, none⟩ (.slice gu L.length cu)) := by (have hzS := HB2.out.size; (repeat (with_reducible first | exact HB2.out | refine Below.setCell ?_ ?_ _ | refine Below.alloc ?_ ?_ _ | refine Below.drew ?_ | refine bDrewN ?_ _)); all_goals ((try simp) <;> omega))
  have hV2 := (HR.out.set (w.heap.size + 1) 0 (.int .i64 s) (by omega)).set (w.heap.size + 1) 1 (.slice gu L.length cu) (by omega)
  exact bodyPost_ret (v := .tuple #[.agg #[.int .i64 s, .slice gu L.length cu], .int .i64 0]) (by simp [results, Tryz.results14, go_sem, c2_0_0, c2_0_1]) rfl ⟨_, rfl, ⟨_, rfl, hV2.lb⟩, HB3⟩
theorem Same_yes (s : Int) (u v : Value) (h : List Bool) (w : World) (hu : LB w u h) (hv : LB w v h) (hl : h.length ≤ 100000) :
    Calls Tryz.prog 16 #[.agg #[.int .i64 s, u], .agg #[.int .i64 s, v]] w fun e w' => e = .returned (.bool true) ∧ Below w.heap.size w w' := by
  obtain ⟨g, e1, rfl, -, hi⟩ := hu
  obtain ⟨g2, e2, rfl, -, hi2⟩ := hv
  have HI := Lib.hid hi
  have HI2 := Lib.hid hi2
  obtain ⟨n, hn⟩ : ∃ n, h.length = n := ⟨_, rfl⟩
  have HN := Kp.mk hn
  rw [hn]
  clear hi hi2 hn
  go_enter Tryz.func16, Tryz.ntmps16
  go_wp2_with fail
  go_loopw [23] (fun i wr => ∃ k : Nat, k ≤ n ∧ i = .int .i64 k ∧ Kp (Below w.heap.size w wr ∧ wr.cell? ⟨w.heap.size, 0, none⟩ = some (.int .i64 s) ∧ wr.cell? ⟨w.heap.size, 1, none⟩ = some (.slice g n e1) ∧ wr.cell? ⟨w.heap.size + 1, 1, none⟩ = some (.slice g2 n e2))) (fun i _ => n - (intOf i).toNat)
  case atStart => exact ⟨0, Nat.zero_le _, rfl, ⟨by repeat (first | exact Below.refl _ _ | refine Below.alloc ?_ (by simp <;> omega) _ | refine bDrewN ?_ _ | refine Below.drew ?_), by go_simp, by go_simp, by go_simp⟩⟩
  case round =>
    obtain ⟨k, hk, rfl, HB⟩ := hrel
    by_cases hlt : k < n
    · obtain ⟨x, hx⟩ : ∃ x, h[k]? = some x := ⟨_, List.getElem?_eq_getElem (by rw [HN.out]; exact hlt)⟩
      obtain ⟨b, o, hg, hbl, hc1⟩ := HI.out k x hx
      obtain ⟨b2, o2, hg2, hbl2, hc2⟩ := HI2.out k x hx
      subst hg
      subst hg2
      obtain ⟨hb, d0, d1, d2⟩ := HB.out
      have c1 : wr.cell? ⟨b, o + k, none⟩ = some (.bool x) := (hb.cell (p := ⟨b, _, none⟩) hbl).trans hc1
      have c2 : wr.cell? ⟨b2, o2 + k, none⟩ = some (.bool x) := (hb.cell (p := ⟨b2, _, none⟩) hbl2).trans hc2
      have o1 : (k : Int) < (n : Int) := by omega
      have o4 : k ≤ 100000 := by have := HN.out; omega
      have r1 := fun d os => cell_regrown c1 d os
      have r2 := fun d os => cell_regrown c2 d os
      have r3 := fun d os => cell_regrown d1 d os
      have r4 := fun d os => cell_regrown d2 d os
      have r5 := fun d os => cell_regrown d0 d os
      have HBR : Kp (∀ dq osq, Below w.heap.size w (grow (redrawn wr dq) osq) ∧ (grow (redrawn wr dq) osq).cell? ⟨w.heap.size, 0, none⟩ = some (.int .i64 s) ∧ (grow (redrawn wr dq) osq).cell? ⟨w.heap.size, 1, none⟩ = some (.slice (some ⟨b, o, none⟩) n e1) ∧ (grow (redrawn wr dq) osq).cell? ⟨w.heap.size + 1, 1, none⟩ = some (.slice (some ⟨b2, o2, none⟩) n e2)) := ⟨fun d os => ⟨hb.trans ((below_regrown wr d os).mono hb.size), r5 d os, r3 d os, r4 d os⟩⟩
      clear hx hc1 hc2 hbl hbl2 hb d0 d1 d2 c1 c2 r5
      go_wp2
      refine wp_region_quiet_below (by kernel_rfl) (by kernel_rfl) ?_
      repeat (any_goals (first | go_big_quiet_step (fail) | quiet_step (fail)))
      refine wpQuiet_nil ?_
      intro _ hqw
      obtain ⟨⟨dq, osq⟩, hqv⟩ := hqw
      subst hqv
      have HBW := Kp.mk (HBR.out dq osq)
      clear r1 r2 r3 r4 HBR
      go_wp2
      go_roundw
      case rel => exact ⟨k + 1, by omega, by go_num, HBW⟩
      case measure => simp [intOf]; omega
    · go_wp2
      go_ret
      exact ⟨rfl, HB.out.1⟩
theorem mark_7 : Mk.markL 7 = [48, 48, 48, 48, 48, 55, 45, 54] := by decide +kernel
theorem number_7 : Mk.number [48, 48, 48, 48, 48, 55, 45, 54] = (7, 0) := by decide +kernel
theorem full2_len : (fullL 2).length = 2 * 2 * 2 := by decide +kernel
theorem hull2 : hullB 2 ((cnts 2 (2 * 2) (fun g => (g.y, g.z)) (grainsL 2 (fullL 2))).map fun n => decide (0 < n)) ((cnts 2 (2 * 2) (fun g => (g.y, g.z)) (grainsL 2 (fullL 2))).map fun n => decide (0 < n)) ((cnts 2 (2 * 2) (fun g => (g.y, g.z)) (grainsL 2 (fullL 2))).map fun n => decide (0 < n)) = fullL 2 := by decide +kernel
theorem awake5_any (w : World) (ht : Mk.Tab w) : Calls Tryz.prog 5 #[] w fun e w' => e = .returned (.bool true) ∧ Below w.heap.size w w' := by
  have h1 := Mk.Mark_yes 7 w (by omega) ht
  have h2 : ∀ W, Below w.heap.size w W → Calls Tryz.prog 12 #[.string ⟨#[48, 48, 48, 48, 48, 55, 45, 54]⟩] W fun e w' => e = .returned (.tuple #[.int .i64 7, .int .i64 0]) ∧ Below W.heap.size W w' := fun W hb => (Mk.Number_any ⟨#[48, 48, 48, 48, 48, 55, 45, 54]⟩ W (by decide) (ht.below hb)).mono fun e w' ⟨he, hb'⟩ => ⟨by
    rw [he]
    show Ending.returned (.tuple #[.int .i64 ((Mk.number [48, 48, 48, 48, 48, 55, 45, 54]).1 : Nat), .int .i64 ((Mk.number [48, 48, 48, 48, 48, 55, 45, 54]).2 : Nat)]) = _
    rw [number_7]
    rfl, hb'⟩
  rw [mark_7] at h1
  have H1 := Lib.hid h1
  have H2 := Lib.hid h2
  clear h1 h2 ht
  have H3 : Kp (∀ W, Calls Tryz.prog 13 #[.int .i64 2] W fun e w' => ∃ u, e = .returned (.tuple #[.agg #[.int .i64 2, u], .int .i64 0]) ∧ LB w' u (fullL 2) ∧ Below W.heap.size W w') := ⟨fun W => (Full_any 2 W).mono fun e w' ⟨v, he, ⟨u, hv, hu⟩, hb⟩ => ⟨u, by rw [he, hv]; rfl, hu, hb⟩⟩
  obtain ⟨V, hV⟩ : ∃ V, (cnts 2 (2 * 2) (fun g => (g.y, g.z)) (grainsL 2 (fullL 2))).map (fun n => decide (0 < n)) = V := ⟨_, rfl⟩
  have H4 : Kp (∀ W u, LB W u (fullL 2) → Calls Tryz.prog 14 #[.agg #[.int .i64 2, u], .int .i64 0] W fun e w' => ∃ u, e = .returned (.tuple #[.agg #[.int .i64 2, u], .int .i64 0]) ∧ LB w' u V ∧ Below W.heap.size W w') := ⟨fun W u hu => (View_in 2 u (fullL 2) 0 _ _ axF0 rfl W (by omega) (by omega) full2_len hu).mono fun e w' ⟨v, he, ⟨u, hv, hu⟩, hb⟩ => ⟨u, by rw [he, hv]; rfl, hV ▸ hu, hb⟩⟩
  have hVl : V.length = 2 * 2 := by rw [← hV, List.length_map, cnts_len]
  have hH := hull2
  rw [hV] at hH
  have H5 : Kp (∀ W u, LB W u V → Calls Tryz.prog 15 #[.agg #[.int .i64 2, u], .agg #[.int .i64 2, u], .agg #[.int .i64 2, u]] W fun e w' => ∃ u, e = .returned (.tuple #[.agg #[.int .i64 2, u], .int .i64 0]) ∧ LB w' u (fullL 2) ∧ Below W.heap.size W w') := ⟨fun W u hu => (Hull_in 2 u u u V V V W (by omega) (by omega) hu hu hu hVl hVl hVl).mono fun e w' ⟨v, he, ⟨u, hv, hu⟩, hb⟩ => ⟨u, by rw [he, hv]; rfl, hH ▸ hu, hb⟩⟩
  have H6 : Kp (∀ W u v, LB W u (fullL 2) → LB W v (fullL 2) → Calls Tryz.prog 16 #[.agg #[.int .i64 2, u], .agg #[.int .i64 2, v]] W fun e w' => e = .returned (.bool true) ∧ Below W.heap.size W w') := ⟨fun W u v hu hv => Same_yes 2 u v (fullL 2) W hu hv (by rw [full2_len]; decide)⟩
  clear hV hVl hH
  go_enter Tryz.func5, Tryz.ntmps5
  go_wp2_with fail
  refine H1.out.mono ?_
  rintro e w1 ⟨rfl, hb1⟩
  have HB1 := Kp.mk hb1
  clear hb1
  go_wp2_with fail
  refine (H2.out _ HB1.out).mono ?_
  rintro e w2 ⟨rfl, hb2⟩
  have HB2 := Kp.mk (HB1.out.trans (hb2.mono HB1.out.size))
  clear hb2
  go_wp2_with fail
  refine (H3.out _).mono ?_
  rintro e w3 ⟨u3, rfl, hu3, hb3⟩
  obtain ⟨g3, c3, rfl⟩ := hu3.shape
  have HU3 := Kp.mk hu3
  have HB3 := Kp.mk (HB2.out.trans (hb3.mono HB2.out.size))
  clear hb3 hu3
  go_wp2_with fail
  refine (H4.out _ _ (HU3.out.below (by repeat (first | exact Below.refl _ _ | refine Below.alloc ?_ (by simp <;> omega) _ | refine bDrewN ?_ _ | refine Below.drew ?_)))).mono ?_
  rintro e w4 ⟨u4, rfl, hu4, hb4⟩
  obtain ⟨g4, c4, rfl⟩ := hu4.shape
  have HU3' := Kp.mk ((HU3.out.below (by repeat (first | exact Below.refl _ _ | refine Below.alloc ?_ (by simp <;> omega) _ | refine bDrewN ?_ _ | refine Below.drew ?_) : Below w3.heap.size w3 (w3.alloc (.cells #[.int .i64 2, .slice g3 (fullL 2).length c3] 40)))).below hb4)
  have HU4 := Kp.mk hu4
  clear hu4 HU3
  have HB4 : Kp (Below w.heap.size w w4) := ⟨Below.trans (by repeat (first | refine Below.alloc ?_ (by have := HB3.out.size; (try simp) <;> omega) _ | refine bDrewN ?_ _ | refine Below.drew ?_ | refine Below.setCell ?_ (by have := HB3.out.size; (try simp) <;> omega) _ | exact HB3.out)) (hb4.mono (by have := HB3.out.size; (try simp) <;> omega))⟩
  have hz4_0 : w3.heap.size < w4.heap.size := by have := hb4.size; (try simp at this); omega
  obtain ⟨hc, hf⟩ := bcell hb4
  have c4_0_0 : w4.cell? ⟨w3.heap.size, 0, none⟩ = some (.int .i64 2) := (hc _ _ (by (try simp) <;> omega)).trans (by go_simp)
  have c4_0_1 : w4.cell? ⟨w3.heap.size, 1, none⟩ = some ((.slice g3 (fullL 2).length c3)) := (hc _ _ (by (try simp) <;> omega)).trans (by go_simp)
  have z4_0 : ∀ j, w4.frozen? ⟨w3.heap.size, j, none⟩ = false := fun j => (hf _ _ (by (try simp) <;> omega)).trans (by go_simp)
  clear hc hf hb4
  go_wp2_with fail
  refine (H5.out _ _ (HU4.out.below (by repeat (first | exact Below.refl _ _ | refine Below.alloc ?_ (by simp <;> omega) _ | refine bDrewN ?_ _ | refine Below.drew ?_)))).mono ?_
  rintro e w5 ⟨u5, rfl, hu5, hb5⟩
  obtain ⟨g5, c5, rfl⟩ := hu5.shape
  have HU5 := Kp.mk hu5
  have HU6 := Kp.mk ((HU3'.out.below (by repeat (first | exact Below.refl _ _ | refine Below.alloc ?_ (by simp <;> omega) _ | refine bDrewN ?_ _ | refine Below.drew ?_) : Below w4.heap.size w4 (w4.alloc (.cells #[.int .i64 2, .slice g4 V.length c4] 43)))).below hb5)
  clear hu5 HU3' HU4
  have HB5 : Kp (Below w.heap.size w w5) := ⟨Below.trans (by repeat (first | refine Below.alloc ?_ (by have := HB4.out.size; (try simp) <;> omega) _ | refine bDrewN ?_ _ | refine Below.drew ?_ | refine Below.setCell ?_ (by have := HB4.out.size; (try simp) <;> omega) _ | exact HB4.out)) (hb5.mono (by have := HB4.out.size; (try simp) <;> omega))⟩
  have hz5_0 : w3.heap.size < w5.heap.size := by have := hb5.size; (try simp at this); omega
  obtain ⟨hc, hf⟩ := bcell hb5
  have c5_0_0 : w5.cell? ⟨w3.heap.size, 0, none⟩ = some (.int .i64 2) := (hc _ _ (by (try simp) <;> omega)).trans (by go_simp)
  have c5_0_1 : w5.cell? ⟨w3.heap.size, 1, none⟩ = some ((.slice g3 (fullL 2).length c3)) := (hc _ _ (by (try simp) <;> omega)).trans (by go_simp)
  have z5_0 : ∀ j, w5.frozen? ⟨w3.heap.size, j, none⟩ = false := fun j => (hf _ _ (by (try simp) <;> omega)).trans (by go_simp)
  clear hc hf hb5
  go_wp2_with fail
  refine (H6.out _ _ _ (HU6.out.below (by repeat (first | exact Below.refl _ _ | refine Below.alloc ?_ (by simp <;> omega) _ | refine bDrewN ?_ _ | refine Below.drew ?_))) (HU5.out.below (by repeat (first | exact Below.refl _ _ | refine Below.alloc ?_ (by simp <;> omega) _ | refine bDrewN ?_ _ | refine Below.drew ?_)))).mono ?_
  rintro e w6 ⟨rfl, hb6⟩
  have HB6 : Kp (Below w.heap.size w w6) := ⟨(HB5.out.alloc HB5.out.size _).trans (hb6.mono (by have := HB5.out.size; simp; omega))⟩
  clear hb6
  go_wp2
  go_ret
  exact ⟨rfl, HB6.out⟩
end Go.Proofs.YtknggeofilfiaaaGreatDoor.Tp
