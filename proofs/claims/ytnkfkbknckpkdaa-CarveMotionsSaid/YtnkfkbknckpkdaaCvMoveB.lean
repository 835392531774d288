/-
  WALKS (layer 5, carve): Mirrored and Turned, by the program.
-/
import Derived.Test.YtnkfkbknckpkdaaCvMove
import Derived.Deep.RegionWith
namespace Go.Proofs.Ytnkfkbknckpkdaa.Cv
open Go Go.RowKit Go.Sort

theorem mirrors_any (s : Nat) (hs : s ≤ 10) (w : World) : Calls Try.prog 38 #[.int .i64 s] w fun e w' => ∃ L, e = .returned (.agg #[.func (.func 69) #[] #[.pointer (some ⟨L, 0, none⟩)], .func (.func 70) #[] #[.pointer (some ⟨L, 0, none⟩)], .func (.func 71) #[] #[.pointer (some ⟨L, 0, none⟩)]]) ∧ w'.cell? ⟨L, 0, none⟩ = some (.int .i64 ((s : Int) - 1)) ∧ w.heap.size ≤ L ∧ Below w.heap.size w w' := by
  have e1 : IntKind.i64.wrap ((s : Int) - 1) = (s : Int) - 1 := IntWalk.i64_in _ (by omega)
  clear hs
  go_enter Try.func38, Try.ntmps38
  go_wp2
  exact bodyPost_ret (v := .agg #[.func (.func 69) #[] #[.pointer (some ⟨w.heap.size + 1, 0, none⟩)], .func (.func 70) #[] #[.pointer (some ⟨w.heap.size + 1, 0, none⟩)], .func (.func 71) #[] #[.pointer (some ⟨w.heap.size + 1, 0, none⟩)]]) (by simp [results, Try.results38, go_sem]) rfl ⟨w.heap.size + 1, rfl, by go_simp, by omega, by repeat (first | exact Below.refl _ _ | refine Below.alloc ?_ (by simp <;> omega) _ | refine bDrewN ?_ _ | refine Below.drew ?_)⟩
theorem mir1_any (s L : Nat) (g : Gr) (w : World) (hs : s ≤ 10) (hg : insB s g = true) (hL : w.cell? ⟨L, 0, none⟩ = some (.int .i64 ((s : Int) - 1))) : Calls Try.prog 69 (#[.agg #[.int .i64 g.x, .int .i64 g.y, .int .i64 g.z]] ++ #[.pointer (some ⟨L, 0, none⟩)]) w fun e w' => e = .returned (.agg #[.int .i64 (mirG s 0 g).x, .int .i64 (mirG s 0 g).y, .int .i64 (mirG s 0 g).z]) ∧ Below w.heap.size w w' := by
  obtain ⟨⟨a, b⟩, ⟨c, d⟩, e, f⟩ := ins_iff.1 hg
  obtain ⟨x, y, z⟩ := g
  simp only at a b c d e f
  have e1 : IntKind.i64.wrap ((s : Int) - 1 - x) = (s : Int) - 1 - x := IntWalk.i64_in _ (by omega)
  have hl := World.block_lt_of_cell? _ _ hL
  show Calls _ _ _ _ fun e w' => e = .returned (.agg #[.int .i64 ((s : Int) - 1 - x), .int .i64 y, .int .i64 z]) ∧ Below w.heap.size w w'
  clear a b c d e f hg hs
  go_enter Try.func69, Try.ntmps69
  go_wp2
  exact bodyPost_ret (v := .agg #[.int .i64 ((s : Int) - 1 - x), .int .i64 y, .int .i64 z]) (by simp [results, Try.results69, go_sem]) rfl ⟨rfl, by repeat (first | exact Below.refl _ _ | refine Below.alloc ?_ (by simp <;> omega) _ | refine bDrewN ?_ _ | refine Below.drew ?_)⟩
theorem mir2_any (s L : Nat) (g : Gr) (w : World) (hs : s ≤ 10) (hg : insB s g = true) (hL : w.cell? ⟨L, 0, none⟩ = some (.int .i64 ((s : Int) - 1))) : Calls Try.prog 70 (#[.agg #[.int .i64 g.x, .int .i64 g.y, .int .i64 g.z]] ++ #[.pointer (some ⟨L, 0, none⟩)]) w fun e w' => e = .returned (.agg #[.int .i64 (mirG s 1 g).x, .int .i64 (mirG s 1 g).y, .int .i64 (mirG s 1 g).z]) ∧ Below w.heap.size w w' := by
  obtain ⟨⟨a, b⟩, ⟨c, d⟩, e, f⟩ := ins_iff.1 hg
  obtain ⟨x, y, z⟩ := g
  simp only at a b c d e f
  have e1 : IntKind.i64.wrap ((s : Int) - 1 - y) = (s : Int) - 1 - y := IntWalk.i64_in _ (by omega)
  have hl := World.block_lt_of_cell? _ _ hL
  show Calls _ _ _ _ fun e w' => e = .returned (.agg #[.int .i64 x, .int .i64 ((s : Int) - 1 - y), .int .i64 z]) ∧ Below w.heap.size w w'
  clear a b c d e f hg hs
  go_enter Try.func70, Try.ntmps70
  go_wp2
  exact bodyPost_ret (v := .agg #[.int .i64 x, .int .i64 ((s : Int) - 1 - y), .int .i64 z]) (by simp [results, Try.results70, go_sem]) rfl ⟨rfl, by repeat (first | exact Below.refl _ _ | refine Below.alloc ?_ (by simp <;> omega) _ | refine bDrewN ?_ _ | refine Below.drew ?_)⟩
theorem mir3_any (s L : Nat) (g : Gr) (w : World) (hs : s ≤ 10) (hg : insB s g = true) (hL : w.cell? ⟨L, 0, none⟩ = some (.int .i64 ((s : Int) - 1))) : Calls Try.prog 71 (#[.agg #[.int .i64 g.x, .int .i64 g.y, .int .i64 g.z]] ++ #[.pointer (some ⟨L, 0, none⟩)]) w fun e w' => e = .returned (.agg #[.int .i64 (mirG s 2 g).x, .int .i64 (mirG s 2 g).y, .int .i64 (mirG s 2 g).z]) ∧ Below w.heap.size w w' := by
  obtain ⟨⟨a, b⟩, ⟨c, d⟩, e, f⟩ := ins_iff.1 hg
  obtain ⟨x, y, z⟩ := g
  simp only at a b c d e f
  have e1 : IntKind.i64.wrap ((s : Int) - 1 - z) = (s : Int) - 1 - z := IntWalk.i64_in _ (by omega)
  have hl := World.block_lt_of_cell? _ _ hL
  show Calls _ _ _ _ fun e w' => e = .returned (.agg #[.int .i64 x, .int .i64 y, .int .i64 ((s : Int) - 1 - z)]) ∧ Below w.heap.size w w'
  clear a b c d e f hg hs
  go_enter Try.func71, Try.ntmps71
  go_wp2
  exact bodyPost_ret (v := .agg #[.int .i64 x, .int .i64 y, .int .i64 ((s : Int) - 1 - z)]) (by simp [results, Try.results71, go_sem]) rfl ⟨rfl, by repeat (first | exact Below.refl _ _ | refine Below.alloc ?_ (by simp <;> omega) _ | refine bDrewN ?_ _ | refine Below.drew ?_)⟩
/-- An axis, with the function that mirrors along it. -/
structure MirF (k f : Nat) : Prop where
  index : ∀ p W, (Instr.index 60 (.agg #[.func (.func 69) #[] #[p], .func (.func 70) #[] #[p], .func (.func 71) #[] #[p]]) (.int .i64 k)).run Try.prog W = .ok (.func (.func f) #[] #[p]) W
  enter : ∀ args W, (callFunc f args).run Try.prog W = .ok (.enter f args) W
  call : ∀ (s L : Nat) (g : Gr) (w : World), s ≤ 10 → insB s g = true → w.cell? ⟨L, 0, none⟩ = some (.int .i64 ((s : Int) - 1)) → Calls Try.prog f (#[.agg #[.int .i64 g.x, .int .i64 g.y, .int .i64 g.z]] ++ #[.pointer (some ⟨L, 0, none⟩)]) w fun e w' => e = .returned (.agg #[.int .i64 (mirG s k g).x, .int .i64 (mirG s k g).y, .int .i64 (mirG s k g).z]) ∧ Below w.heap.size w w'
theorem mirFs (k : Nat) (hk : k < 3) : ∃ f, MirF k f := by
  obtain rfl | rfl | rfl : k = 0 ∨ k = 1 ∨ k = 2 := by omega
  · exact ⟨69, fun _ _ => by kernel_rfl, enters_of Try.func69 (by kernel_rfl) rfl, mir1_any⟩
  · exact ⟨70, fun _ _ => by kernel_rfl, enters_of Try.func70 (by kernel_rfl) rfl, mir2_any⟩
  · exact ⟨71, fun _ _ => by kernel_rfl, enters_of Try.func71 (by kernel_rfl) rfl, mir3_any⟩
theorem Mirrored_inv (n ax : Int) (g : Option Addr) (m c : Nat) (w : World) (hb : blockB n m = false) : Calls Try.prog 10 #[.agg #[.int .i64 n, .slice g m c], .int .i64 ax] w (OfNo w 1) := by
  have HB : Kp (∀ W, Calls Try.prog 35 #[.agg #[.int .i64 n, .slice g m c]] W fun e w' => e = .returned (.bool false) ∧ Below W.heap.size W w') := ⟨fun W => hb ▸ ValidBlock_any n g m c W⟩
  clear hb
  go_enter Try.func10, Try.ntmps10
  go_wp2_with fail
  refine (HB.out _).mono ?_
  rintro en w1 ⟨rfl, hb1⟩
  have HB1 : Kp (Below w.heap.size w w1) := ⟨Below.trans (by repeat (first | refine Below.alloc ?_ (by (try simp) <;> omega) _ | refine bDrewN ?_ _ | refine Below.drew ?_ | refine Below.setCell ?_ (by (try simp) <;> omega) _ | exact Below.refl _ _)) (hb1.mono (by (try simp) <;> omega))⟩
  have hz1_0 : w.heap.size < w1.heap.size := by have := hb1.size; (try simp at this); omega
  have hz1_1 : w.heap.size + 1 < w1.heap.size := by have := hb1.size; (try simp at this); omega
  obtain ⟨hc, hf⟩ := bcell hb1
  have c1_0_0 : w1.cell? ⟨w.heap.size, 0, none⟩ = some (.int .i64 n) := (hc _ _ (by (try simp) <;> omega)).trans (by go_simp)
  have c1_0_1 : w1.cell? ⟨w.heap.size, 1, none⟩ = some ((.slice g m c)) := (hc _ _ (by (try simp) <;> omega)).trans (by go_simp)
  have z1_0 : ∀ j, w1.frozen? ⟨w.heap.size, j, none⟩ = false := fun j => (hf _ _ (by (try simp) <;> omega)).trans (by go_simp)
  have c1_1_0 : w1.cell? ⟨w.heap.size + 1, 0, none⟩ = some (.int .i64 0) := (hc _ _ (by (try simp) <;> omega)).trans (by go_simp)
  have c1_1_1 : w1.cell? ⟨w.heap.size + 1, 1, none⟩ = some ((.slice none 0 0)) := (hc _ _ (by (try simp) <;> omega)).trans (by go_simp)
  have z1_1 : ∀ j, w1.frozen? ⟨w.heap.size + 1, j, none⟩ = false := fun j => (hf _ _ (by (try simp) <;> omega)).trans (by go_simp)
  clear hc hf hb1
  go_wp2
  exact bodyPost_ret (v := .tuple #[.agg #[.int .i64 0, .slice none 0 0], .int .i64 1]) (by simp [results, Try.results10, go_sem, c1_1_0, c1_1_1]) rfl ⟨rfl, by (have hzS := HB1.out.size; (repeat (with_reducible first | exact HB1.out | refine Below.setCell ?_ ?_ _ | refine Below.alloc ?_ ?_ _ | refine Below.drew ?_ | refine bDrewN ?_ _)); all_goals ((try simp) <;> omega))⟩
theorem Mirrored_axis (n ax : Int) (g : Option Addr) (m c : Nat) (w : World) (hb : blockB n m = true) (hx : ixB ax 3 = false) : Calls Try.prog 10 #[.agg #[.int .i64 n, .slice g m c], .int .i64 ax] w (OfNo w 7) := by
  have HB : Kp (∀ W, Calls Try.prog 35 #[.agg #[.int .i64 n, .slice g m c]] W fun e w' => e = .returned (.bool true) ∧ Below W.heap.size W w') := ⟨fun W => hb ▸ ValidBlock_any n g m c W⟩
  have HA : Kp (∀ W, Calls Try.prog 36 #[.int .i64 ax] W fun e w' => e = .returned (.bool false) ∧ W = w') := ⟨fun W => hx ▸ isAxis_any ax W⟩
  clear hb hx
  go_enter Try.func10, Try.ntmps10
  go_wp2_with fail
  refine (HB.out _).mono ?_
  rintro en w1 ⟨rfl, hb1⟩
  have HB1 : Kp (Below w.heap.size w w1) := ⟨Below.trans (by repeat (first | refine Below.alloc ?_ (by (try simp) <;> omega) _ | refine bDrewN ?_ _ | refine Below.drew ?_ | refine Below.setCell ?_ (by (try simp) <;> omega) _ | exact Below.refl _ _)) (hb1.mono (by (try simp) <;> omega))⟩
  have hz1_0 : w.heap.size < w1.heap.size := by have := hb1.size; (try simp at this); omega
  have hz1_1 : w.heap.size + 1 < w1.heap.size := by have := hb1.size; (try simp at this); omega
  obtain ⟨hc, hf⟩ := bcell hb1
  have c1_0_0 : w1.cell? ⟨w.heap.size, 0, none⟩ = some (.int .i64 n) := (hc _ _ (by (try simp) <;> omega)).trans (by go_simp)
  have c1_0_1 : w1.cell? ⟨w.heap.size, 1, none⟩ = some ((.slice g m c)) := (hc _ _ (by (try simp) <;> omega)).trans (by go_simp)
  have z1_0 : ∀ j, w1.frozen? ⟨w.heap.size, j, none⟩ = false := fun j => (hf _ _ (by (try simp) <;> omega)).trans (by go_simp)
  have c1_1_0 : w1.cell? ⟨w.heap.size + 1, 0, none⟩ = some (.int .i64 0) := (hc _ _ (by (try simp) <;> omega)).trans (by go_simp)
  have c1_1_1 : w1.cell? ⟨w.heap.size + 1, 1, none⟩ = some ((.slice none 0 0)) := (hc _ _ (by (try simp) <;> omega)).trans (by go_simp)
  have z1_1 : ∀ j, w1.frozen? ⟨w.heap.size + 1, j, none⟩ = false := fun j => (hf _ _ (by (try simp) <;> omega)).trans (by go_simp)
  clear hc hf hb1
  go_wp2_with fail
  refine (HA.out _).mono ?_
  rintro en w2 ⟨rfl, rfl⟩
  go_wp2
  exact bodyPost_ret (v := .tuple #[.agg #[.int .i64 0, .slice none 0 0], .int .i64 7]) (by simp [results, Try.results10, go_sem, c1_1_0, c1_1_1]) rfl ⟨rfl, by (have hzS := HB1.out.size; (repeat (with_reducible first | exact HB1.out | refine Below.setCell ?_ ?_ _ | refine Below.alloc ?_ ?_ _ | refine Below.drew ?_ | refine bDrewN ?_ _)); all_goals ((try simp) <;> omega))⟩
set_option maxRecDepth 100000 in
set_option maxHeartbeats 2000000 in
theorem Mirrored_in (s k : Nat) (hk : k < 3) (u : Value) (h : List Bool) (w : World) (hs : 1 ≤ s) (hs2 : s ≤ 10) (hl : h.length = s * s * s) (hu : LB w u h) :
    Calls Try.prog 10 #[.agg #[.int .i64 s, u], .int .i64 (k : Int)] w fun e w' => ∃ r, e = .returned (.tuple #[r, .int .i64 0]) ∧ VF w.heap.size w' r s (setB s ((grainsL s h).map (mirG s k))) ∧ Below w.heap.size w w' := by
  obtain ⟨f, hf⟩ := mirFs k hk
  have hb : blockB s h.length = true := by
    unfold blockB
    rw [side_iff.2 (by omega), decide_eq_true (by rw [hl, Int.natCast_mul, Int.natCast_mul])]; rfl
  have hx : ixB (k : Int) 3 = true := by unfold ixB; simp; omega
  have HMV : Kp (∀ W (L : Nat), Below w.heap.size w W → W.cell? ⟨L, 0, none⟩ = some (.int .i64 ((s : Int) - 1)) → Calls Try.prog 37 #[.agg #[.int .i64 s, u], .func (.func f) #[] #[.pointer (some ⟨L, 0, none⟩)]] W fun en w' => ∃ u, en = .returned (.agg #[.int .i64 s, u]) ∧ NB W.heap.size w' u (setB s ((grainsL s h).map (mirG s k))) ∧ Below W.heap.size W w') := ⟨fun W L hW hL => moved_any f _ (mirG s k) s u h W hs hs2 hl (hu.below hW) hf.enter ⟨fun X g hX hg => hf.call s L g X hs2 hg ((hX.cell (p := ⟨L, 0, none⟩) (World.block_lt_of_cell? _ _ hL)).trans hL)⟩ (fun g hg => mir_ins hg)⟩
  obtain ⟨g, c, rfl⟩ := hu.shape
  have HB : Kp (∀ W, Calls Try.prog 35 #[.agg #[.int .i64 s, .slice g h.length c]] W fun e w' => e = .returned (.bool true) ∧ Below W.heap.size W w') := ⟨fun W => hb ▸ ValidBlock_any s g h.length c W⟩
  have HA : Kp (∀ W, Calls Try.prog 36 #[.int .i64 (k : Int)] W fun e w' => e = .returned (.bool true) ∧ W = w') := ⟨fun W => hx ▸ isAxis_any k W⟩
  have HMI : Kp (∀ W, _) := ⟨fun W => mirrors_any s hs2 W⟩
  have HIX := Kp.mk hf.index
  obtain ⟨L, hL⟩ : ∃ L, setB s ((grainsL s h).map (mirG s k)) = L := ⟨_, rfl⟩
  obtain ⟨N, hN⟩ : ∃ N, h.length = N := ⟨_, rfl⟩
  rw [hL] at HMV ⊢
  rw [hN] at HMV HB
  rw [hN]
  clear hf hb hx hu hl hL hN hs hs2 hk
  go_enter Try.func10, Try.ntmps10
  go_wp2_with fail
  refine (HB.out _).mono ?_
  rintro en w1 ⟨rfl, hb1⟩
  have HB1 : Kp (Below w.heap.size w w1) := ⟨Below.trans (by repeat (first | refine Below.alloc ?_ (by (try simp) <;> omega) _ | refine bDrewN ?_ _ | refine Below.drew ?_ | refine Below.setCell ?_ (by (try simp) <;> omega) _ | exact Below.refl _ _)) (hb1.mono (by (try simp) <;> omega))⟩
  have hz1_0 : w.heap.size < w1.heap.size := by have := hb1.size; (try simp at this); omega
  have hz1_1 : w.heap.size + 1 < w1.heap.size := by have := hb1.size; (try simp at this); omega
  obtain ⟨hc, hf⟩ := bcell hb1
  have c1_0_0 : w1.cell? ⟨w.heap.size, 0, none⟩ = some (.int .i64 s) := (hc _ _ (by (try simp) <;> omega)).trans (by go_simp)
  have c1_0_1 : w1.cell? ⟨w.heap.size, 1, none⟩ = some ((.slice g N c)) := (hc _ _ (by (try simp) <;> omega)).trans (by go_simp)
  have z1_0 : ∀ j, w1.frozen? ⟨w.heap.size, j, none⟩ = false := fun j => (hf _ _ (by (try simp) <;> omega)).trans (by go_simp)
  have c1_1_0 : w1.cell? ⟨w.heap.size + 1, 0, none⟩ = some (.int .i64 0) := (hc _ _ (by (try simp) <;> omega)).trans (by go_simp)
  have c1_1_1 : w1.cell? ⟨w.heap.size + 1, 1, none⟩ = some ((.slice none 0 0)) := (hc _ _ (by (try simp) <;> omega)).trans (by go_simp)
  have z1_1 : ∀ j, w1.frozen? ⟨w.heap.size + 1, j, none⟩ = false := fun j => (hf _ _ (by (try simp) <;> omega)).trans (by go_simp)
  clear hc hf hb1
  go_wp2_with fail
  refine (HA.out _).mono ?_
  rintro en w2 ⟨rfl, rfl⟩
  go_wp2
  go_region_with (first | (go_at_call 38; refine (HMI.out _).mono ?_; rintro en w6 ⟨Lq, rfl, hLc, hLl, hb6⟩; have hbw : Below w1.heap.size w1 w6 := (by (repeat (with_reducible first | exact Below.refl _ _ | refine Below.drew ?_ | refine bDrewN ?_ _)) : Below w1.heap.size w1 _).trans hb6; have n0 := (hbw.cell (p := ⟨w.heap.size, 0, none⟩) hz1_0).trans c1_0_0; have n1 := (hbw.cell (p := ⟨w.heap.size, 1, none⟩) hz1_0).trans c1_0_1; have HBW := Kp.mk hbw; have hix := HIX.out (.pointer (some ⟨Lq, 0, none⟩)) w6; clear hb6 hbw hLl) | (go_at_call 37; refine (HMV.out _ Lq (HB1.out.trans (HBW.out.mono HB1.out.size)) hLc).mono ?_; rintro en w7 ⟨u, rfl, hu, hb7⟩; obtain ⟨gu, cu, rfl⟩ := hu.lb.shape; have HU := Kp.mk hu; have hbz := HBW.out.trans (hb7.mono HBW.out.size); have m0 := (hbz.cell (p := ⟨w.heap.size + 1, 0, none⟩) hz1_1).trans c1_1_0; have m1 := (hbz.cell (p := ⟨w.heap.size + 1, 1, none⟩) hz1_1).trans c1_1_1; have mz := fun j => (hbz.frozen (p := ⟨w.heap.size + 1, j, none⟩) hz1_1).trans (z1_1 j); have HBZ := Kp.mk hbz; clear hu hb7 hbz))
  all_goals
    go_wp2
    have hU2 : NB (w.heap.size + 2) w7 (.slice gu L.length cu) L := HU.out.more (by have := HBW.out.size; omega)
    refine bodyPost_ret (v := .tuple #[.agg #[.int .i64 s, .slice gu L.length cu], .int .i64 0]) (by simp [results, Try.results10, go_sem, m0, m1]) rfl ⟨_, rfl, ⟨_, rfl, ?_⟩, ?_⟩
    · exact (((hU2.set (w.heap.size + 1) 0 _ (by omega)).set (w.heap.size + 1) 1 _ (by omega)).more (by omega)).fb
    · exact ((HB1.out.trans (HBZ.out.mono HB1.out.size)).setCell (by simp only; omega) _).setCell (by simp only; omega) _
def trP (Y : Nat) (g : Gr) : List (Nat × Nat × Value) := [(Y, 0, .int .i64 g.x), (Y, 1, .int .i64 g.y), (Y, 2, .int .i64 g.z), (Y + 1, 0, .int .i64 0), (Y + 1, 1, .int .i64 0), (Y + 1, 2, .int .i64 0)]
theorem tr_cells {w W : World} {Y : Nat} {g : Gr} (h : Hd w (trP Y g) W) : (W.cell? ⟨Y, 0, none⟩ = some (.int .i64 g.x) ∧ W.cell? ⟨Y, 1, none⟩ = some (.int .i64 g.y) ∧ W.cell? ⟨Y, 2, none⟩ = some (.int .i64 g.z)) ∧ (W.cell? ⟨Y + 1, 0, none⟩ = some (.int .i64 0) ∧ W.cell? ⟨Y + 1, 1, none⟩ = some (.int .i64 0) ∧ W.cell? ⟨Y + 1, 2, none⟩ = some (.int .i64 0)) ∧ (W.frozen? ⟨Y, 0, none⟩ = false ∧ W.frozen? ⟨Y, 1, none⟩ = false) ∧ W.frozen? ⟨Y + 1, 0, none⟩ = false ∧ W.frozen? ⟨Y + 1, 1, none⟩ = false ∧ W.frozen? ⟨Y + 1, 2, none⟩ = false := by
  have k := h.cells
  exact ⟨⟨(k (Y, 0, .int .i64 g.x) (by simp [trP])).1, (k (Y, 1, .int .i64 g.y) (by simp [trP])).1, (k (Y, 2, .int .i64 g.z) (by simp [trP])).1⟩, ⟨(k (Y + 1, 0, .int .i64 0) (by simp [trP])).1, (k (Y + 1, 1, .int .i64 0) (by simp [trP])).1, (k (Y + 1, 2, .int .i64 0) (by simp [trP])).1⟩, ⟨(k (Y, 0, .int .i64 g.x) (by simp [trP])).2, (k (Y, 1, .int .i64 g.y) (by simp [trP])).2⟩, (k (Y + 1, 0, .int .i64 0) (by simp [trP])).2, (k (Y + 1, 1, .int .i64 0) (by simp [trP])).2, (k (Y + 1, 2, .int .i64 0) (by simp [trP])).2⟩
theorem tr_turn {w W : World} {Y s : Nat} {g : Gr} (h : Hd w (trP Y g) W) (hY : w.heap.size = Y) : Hd w (trP Y (rotG s g)) ((W.setCell ⟨Y, 0, none⟩ (.int .i64 ((s : Int) - 1 - g.y))).setCell ⟨Y, 1, none⟩ (.int .i64 g.x)) := by
  obtain ⟨⟨a0, a1, a2⟩, ⟨b0, b1, b2⟩, -⟩ := tr_cells h
  have hz : ∀ p ∈ trP Y g, W.frozen? ⟨p.1, p.2.1, none⟩ = false := fun p hp => (h.cells p hp).2
  have z0 : W.frozen? ⟨Y, 0, none⟩ = false := hz (Y, 0, .int .i64 g.x) (by simp [trP])
  have z1 : W.frozen? ⟨Y, 1, none⟩ = false := hz (Y, 1, .int .i64 g.y) (by simp [trP])
  have z2 : W.frozen? ⟨Y, 2, none⟩ = false := hz (Y, 2, .int .i64 g.z) (by simp [trP])
  have z3 : W.frozen? ⟨Y + 1, 0, none⟩ = false := hz (Y + 1, 0, .int .i64 0) (by simp [trP])
  have z4 : W.frozen? ⟨Y + 1, 1, none⟩ = false := hz (Y + 1, 1, .int .i64 0) (by simp [trP])
  have z5 : W.frozen? ⟨Y + 1, 2, none⟩ = false := hz (Y + 1, 2, .int .i64 0) (by simp [trP])
  refine ⟨(h.below.setCell (by simp only; omega) _).setCell (by simp only; omega) _, fun p hp => ?_⟩
  simp only [trP, rotG, List.mem_cons, List.not_mem_nil, or_false] at hp
  rcases hp with rfl | rfl | rfl | rfl | rfl | rfl <;> simp [go_sem, a0, a1, a2, b0, b1, b2, z0, z1, z2, z3, z4, z5]
theorem tr_start {w W1 : World} {g : Gr} {t t' : TypeId} (h : (w.alloc (.cells #[.int .i64 g.x, .int .i64 g.y, .int .i64 g.z] t)).alloc (.cells #[.int .i64 0, .int .i64 0, .int .i64 0] t') = W1) : Hd w (trP w.heap.size g) W1 := by
  subst h
  refine ⟨by repeat (first | exact Below.refl _ _ | refine Below.alloc ?_ (by simp <;> omega) _ | refine bDrewN ?_ _ | refine Below.drew ?_), fun p hp => ?_⟩
  simp only [trP, List.mem_cons, List.not_mem_nil, or_false] at hp
  rcases hp with rfl | rfl | rfl | rfl | rfl | rfl <;> exact ⟨by go_simp, by go_simp⟩
set_option maxRecDepth 100000 in
set_option maxHeartbeats 1000000 in
theorem turned1_any (s B Q : Nat) (q : Int) (g : Gr) (w : World) (hs2 : s ≤ 10) (hg : insB s g = true) (hB : w.cell? ⟨B, 0, none⟩ = some (.int .i64 s)) (hQ : w.cell? ⟨Q, 0, none⟩ = some (.int .i64 q)) :
    Calls Try.prog 43 (#[.agg #[.int .i64 g.x, .int .i64 g.y, .int .i64 g.z]] ++ #[.pointer (some ⟨Q, 0, none⟩), .pointer (some ⟨B, 0, none⟩)]) w fun e w' => e = .returned (.agg #[.int .i64 (rotN s (quart q) g).x, .int .i64 (rotN s (quart q) g).y, .int .i64 (rotN s (quart q) g).z]) ∧ Below w.heap.size w w' := by
  obtain ⟨t3, hn3, hr1, hr2⟩ := quart_int q
  obtain ⟨n, hn⟩ : ∃ n, quart q = n := ⟨_, rfl⟩
  rw [hn] at t3 hn3
  rw [hn]
  obtain ⟨r, hr⟩ : ∃ r, q.tmod 4 = r := ⟨_, rfl⟩
  rw [hr] at t3 hr1 hr2
  have t2 : IntKind.i64.wrap (r + 4) = r + 4 := IntWalk.i64_in _ (by omega)
  have hBl := World.block_lt_of_cell? _ _ hB
  have hQl := World.block_lt_of_cell? _ _ hQ
  have HG := Kp.mk (fun j => rotN_ins (s := s) j hg)
  have HB := Kp.mk (And.intro hBl hB)
  have e2 : IntKind.i64.wrap ((s : Int) - 1) = (s : Int) - 1 := IntWalk.i64_in _ (by omega)
  obtain ⟨Y, hY⟩ : ∃ Y, w.heap.size = Y := ⟨_, rfl⟩
  have HY := Kp.mk hY
  obtain ⟨x, y, z⟩ := g
  obtain ⟨W1, hW1⟩ : ∃ W1, (w.alloc (.cells #[.int .i64 x, .int .i64 y, .int .i64 z] 48)).alloc (.cells #[.int .i64 0, .int .i64 0, .int .i64 0] 48) = W1 := ⟨_, rfl⟩
  have hd1 := tr_start (g := ⟨x, y, z⟩) hW1
  have hq1 := (hd1.below.cell (p := ⟨Q, 0, none⟩) hQl).trans hQ
  rw [hY] at hd1
  have HD1 : Kp (Hd w (trP Y (rotN s 0 ⟨x, y, z⟩)) W1) := ⟨hd1⟩
  have HS := Kp.mk hs2
  clear hn hr1 hr2 hs2 hg hB hQ hBl hQl hd1
  go_enter Try.func43, Try.ntmps43
  go_wp2
  try rw [hW1]
  clear hW1
  try simp only [hY]
  clear hY
  go_loopw [9] (fun i wr => ∃ j : Nat, j ≤ n ∧ i = .int .i64 j ∧ Kp (Hd w (trP Y (rotN s j ⟨x, y, z⟩)) wr)) (fun i _ => n - (intOf i).toNat)
  case atStart => exact ⟨0, Nat.zero_le _, rfl, HD1⟩
  case round =>
    clear HD1
    obtain ⟨j, hj, rfl, HD⟩ := hrel
    have hin := HG.out j
    have HN : Kp (rotN s (j + 1) ⟨x, y, z⟩ = rotG s (rotN s j ⟨x, y, z⟩)) := ⟨rfl⟩
    by_cases hlt : j < n
    · obtain ⟨⟨gx, gy, gz⟩, hgg⟩ : ∃ g, rotN s j ⟨x, y, z⟩ = g := ⟨_, rfl⟩
      rw [hgg] at HD hin HN
      obtain ⟨⟨a0, a1, a2⟩, -, ⟨z0, z1⟩, -⟩ := tr_cells HD.out
      obtain ⟨⟨i0, i1⟩, ⟨i2, i3⟩, -⟩ := ins_iff.1 hin
      simp only at i0 i1 i2 i3 a0 a1 a2
      have b0 : wr.cell? ⟨B, 0, none⟩ = some (.int .i64 s) := (HD.out.below.cell (p := ⟨B, 0, none⟩) HB.out.1).trans HB.out.2
      have e3 : IntKind.i64.wrap ((s : Int) - 1 - gy) = (s : Int) - 1 - gy := IntWalk.i64_in _ (by have := HS.out; omega)
      have o1 : (j : Int) < (n : Int) := by omega
      have HD2 : Kp (Hd w (trP Y (rotN s (j + 1) ⟨x, y, z⟩)) ((wr.setCell ⟨Y, 0, none⟩ (.int .i64 ((s : Int) - 1 - gy))).setCell ⟨Y, 1, none⟩ (.int .i64 gx))) := ⟨by rw [HN.out]; exact tr_turn HD.out HY.out⟩
      have hBY : B ≠ Y := by have := HB.out.1; have := HY.out; omega
      clear hgg hin i0 i1 i2 i3
      go_wp2
      go_roundw
      case rel => exact ⟨j + 1, by omega, by go_num, HD2⟩
      case measure => simp [intOf]; omega
    · have hjn : j = n := by omega
      subst hjn
      obtain ⟨⟨gx, gy, gz⟩, hgg⟩ : ∃ g, rotN s j ⟨x, y, z⟩ = g := ⟨_, rfl⟩
      have HGG := Kp.mk hgg
      rw [hgg] at HD
      obtain ⟨⟨a0, a1, a2⟩, ⟨b0, b1, b2⟩, -, z0, z1, z2⟩ := tr_cells HD.out
      simp only at a0 a1 a2
      have o1 : ¬ (j : Int) < (j : Int) := by omega
      clear hgg hin HN
      go_wp2
      refine bodyPost_ret (v := .agg #[.int .i64 gx, .int .i64 gy, .int .i64 gz]) (by simp [results, Try.results43, go_sem, b0, b1, b2]) rfl ⟨by rw [HGG.out], ?_⟩
      exact ((HD.out.below.setCell (by have := HY.out; simp only; omega) _).setCell (by have := HY.out; simp only; omega) _).setCell (by have := HY.out; simp only; omega) _
theorem Turned_inv (n q : Int) (g : Option Addr) (m c : Nat) (w : World) (hb : blockB n m = false) : Calls Try.prog 12 #[.agg #[.int .i64 n, .slice g m c], .int .i64 q] w (OfNo w 1) := by
  have HB : Kp (∀ W, Calls Try.prog 35 #[.agg #[.int .i64 n, .slice g m c]] W fun e w' => e = .returned (.bool false) ∧ Below W.heap.size W w') := ⟨fun W => hb ▸ ValidBlock_any n g m c W⟩
  clear hb
  go_enter Try.func12, Try.ntmps12
  go_wp2_with fail
  refine (HB.out _).mono ?_
  rintro en w1 ⟨rfl, hb1⟩
  have HB1 : Kp (Below w.heap.size w w1) := ⟨Below.trans (by repeat (first | refine Below.alloc ?_ (by (try simp) <;> omega) _ | refine bDrewN ?_ _ | refine Below.drew ?_ | refine Below.setCell ?_ (by (try simp) <;> omega) _ | exact Below.refl _ _)) (hb1.mono (by (try simp) <;> omega))⟩
  have hz1_0 : w.heap.size < w1.heap.size := by have := hb1.size; (try simp at this); omega
  have hz1_1 : w.heap.size + 1 + 1 < w1.heap.size := by have := hb1.size; (try simp at this); omega
  obtain ⟨hc, hf⟩ := bcell hb1
  have c1_0_0 : w1.cell? ⟨w.heap.size, 0, none⟩ = some (.int .i64 n) := (hc _ _ (by (try simp) <;> omega)).trans (by go_simp)
  have c1_0_1 : w1.cell? ⟨w.heap.size, 1, none⟩ = some ((.slice g m c)) := (hc _ _ (by (try simp) <;> omega)).trans (by go_simp)
  have z1_0 : ∀ j, w1.frozen? ⟨w.heap.size, j, none⟩ = false := fun j => (hf _ _ (by (try simp) <;> omega)).trans (by go_simp)
  have c1_1_0 : w1.cell? ⟨w.heap.size + 1 + 1, 0, none⟩ = some (.int .i64 0) := (hc _ _ (by (try simp) <;> omega)).trans (by go_simp)
  have c1_1_1 : w1.cell? ⟨w.heap.size + 1 + 1, 1, none⟩ = some ((.slice none 0 0)) := (hc _ _ (by (try simp) <;> omega)).trans (by go_simp)
  have z1_1 : ∀ j, w1.frozen? ⟨w.heap.size + 1 + 1, j, none⟩ = false := fun j => (hf _ _ (by (try simp) <;> omega)).trans (by go_simp)
  clear hc hf hb1
  go_wp2
  exact bodyPost_ret (v := .tuple #[.agg #[.int .i64 0, .slice none 0 0], .int .i64 1]) (by simp [results, Try.results12, go_sem, c1_1_0, c1_1_1]) rfl ⟨rfl, by (have hzS := HB1.out.size; (repeat (with_reducible first | exact HB1.out | refine Below.setCell ?_ ?_ _ | refine Below.alloc ?_ ?_ _ | refine Below.drew ?_ | refine bDrewN ?_ _)); all_goals ((try simp) <;> omega))⟩
set_option maxRecDepth 100000 in
set_option maxHeartbeats 1000000 in
theorem Turned_in (s : Nat) (q : Int) (u : Value) (h : List Bool) (w : World) (hs : 1 ≤ s) (hs2 : s ≤ 10) (hl : h.length = s * s * s) (hu : LB w u h) :
    Calls Try.prog 12 #[.agg #[.int .i64 s, u], .int .i64 q] w fun e w' => ∃ r, e = .returned (.tuple #[r, .int .i64 0]) ∧ VF w.heap.size w' r s (setB s ((grainsL s h).map (rotN s (quart q)))) ∧ Below w.heap.size w w' := by
  have hb : blockB s h.length = true := by
    unfold blockB
    rw [side_iff.2 (by omega), decide_eq_true (by rw [hl, Int.natCast_mul, Int.natCast_mul])]; rfl
  have HMV : Kp (∀ W (B Q : Nat), Below w.heap.size w W → W.cell? ⟨B, 0, none⟩ = some (.int .i64 s) → W.cell? ⟨Q, 0, none⟩ = some (.int .i64 q) → Calls Try.prog 37 #[.agg #[.int .i64 s, u], .func (.func 43) #[] #[.pointer (some ⟨Q, 0, none⟩), .pointer (some ⟨B, 0, none⟩)]] W fun en w' => ∃ u, en = .returned (.agg #[.int .i64 s, u]) ∧ NB W.heap.size w' u (setB s ((grainsL s h).map (rotN s (quart q)))) ∧ Below W.heap.size W w') := ⟨fun W B Q hW hB hQ => moved_any 43 _ (rotN s (quart q)) s u h W hs hs2 hl (hu.below hW) (enters_of Try.func43 (by kernel_rfl) rfl) ⟨fun X g hX hg => turned1_any s B Q q g X hs2 hg ((hX.cell (p := ⟨B, 0, none⟩) (World.block_lt_of_cell? _ _ hB)).trans hB) ((hX.cell (p := ⟨Q, 0, none⟩) (World.block_lt_of_cell? _ _ hQ)).trans hQ)⟩ (fun g hg => rotN_ins _ hg)⟩
  obtain ⟨g, c, rfl⟩ := hu.shape
  have HB : Kp (∀ W, Calls Try.prog 35 #[.agg #[.int .i64 s, .slice g h.length c]] W fun e w' => e = .returned (.bool true) ∧ Below W.heap.size W w') := ⟨fun W => hb ▸ ValidBlock_any s g h.length c W⟩
  obtain ⟨L, hL⟩ : ∃ L, setB s ((grainsL s h).map (rotN s (quart q))) = L := ⟨_, rfl⟩
  obtain ⟨N, hN⟩ : ∃ N, h.length = N := ⟨_, rfl⟩
  rw [hL] at HMV ⊢
  rw [hN] at HMV HB
  rw [hN]
  clear hb hu hl hL hN hs hs2
  go_enter Try.func12, Try.ntmps12
  go_wp2_with fail
  refine (HB.out _).mono ?_
  rintro en w1 ⟨rfl, hb1⟩
  have HB1 : Kp (Below w.heap.size w w1) := ⟨Below.trans (by repeat (first | refine Below.alloc ?_ (by (try simp) <;> omega) _ | refine bDrewN ?_ _ | refine Below.drew ?_ | refine Below.setCell ?_ (by (try simp) <;> omega) _ | exact Below.refl _ _)) (hb1.mono (by (try simp) <;> omega))⟩
  have hz1_0 : w.heap.size < w1.heap.size := by have := hb1.size; (try simp at this); omega
  have hz1_1 : w.heap.size + 1 < w1.heap.size := by have := hb1.size; (try simp at this); omega
  have hz1_2 : w.heap.size + 1 + 1 < w1.heap.size := by have := hb1.size; (try simp at this); omega
  obtain ⟨hc, hf⟩ := bcell hb1
  have c1_0_0 : w1.cell? ⟨w.heap.size, 0, none⟩ = some (.int .i64 s) := (hc _ _ (by (try simp) <;> omega)).trans (by go_simp)
  have c1_0_1 : w1.cell? ⟨w.heap.size, 1, none⟩ = some ((.slice g N c)) := (hc _ _ (by (try simp) <;> omega)).trans (by go_simp)
  have z1_0 : ∀ j, w1.frozen? ⟨w.heap.size, j, none⟩ = false := fun j => (hf _ _ (by (try simp) <;> omega)).trans (by go_simp)
  have c1_1_0 : w1.cell? ⟨w.heap.size + 1, 0, none⟩ = some (.int .i64 q) := (hc _ _ (by (try simp) <;> omega)).trans (by go_simp)
  have z1_1 : ∀ j, w1.frozen? ⟨w.heap.size + 1, j, none⟩ = false := fun j => (hf _ _ (by (try simp) <;> omega)).trans (by go_simp)
  have c1_2_0 : w1.cell? ⟨w.heap.size + 1 + 1, 0, none⟩ = some (.int .i64 0) := (hc _ _ (by (try simp) <;> omega)).trans (by go_simp)
  have c1_2_1 : w1.cell? ⟨w.heap.size + 1 + 1, 1, none⟩ = some ((.slice none 0 0)) := (hc _ _ (by (try simp) <;> omega)).trans (by go_simp)
  have z1_2 : ∀ j, w1.frozen? ⟨w.heap.size + 1 + 1, j, none⟩ = false := fun j => (hf _ _ (by (try simp) <;> omega)).trans (by go_simp)
  clear hc hf hb1
  go_wp2_with fail
  refine (HMV.out _ _ _ HB1.out c1_0_0 c1_1_0).mono ?_
  rintro en w2 ⟨u, rfl, hu, hb2⟩
  obtain ⟨gu, cu, rfl⟩ := hu.lb.shape
  have HU : Kp (NB (w.heap.size + 1 + 1 + 1) w2 _ L) := ⟨hu.more (by omega)⟩
  clear hu
  have HB2 : Kp (Below w.heap.size w w2) := ⟨Below.trans (by repeat (first | refine Below.alloc ?_ (by have := HB1.out.size; (try simp) <;> omega) _ | refine bDrewN ?_ _ | refine Below.drew ?_ | refine Below.setCell ?_ (by have := HB1.out.size; (try simp) <;> omega) _ | exact HB1.out)) (hb2.mono (by have := HB1.out.size; (try simp) <;> omega))⟩
  have hz2_0 : w.heap.size + 1 + 1 < w2.heap.size := by have := hb2.size; (try simp at this); omega
  obtain ⟨hc, hf⟩ := bcell hb2
  have c2_0_0 : w2.cell? ⟨w.heap.size + 1 + 1, 0, none⟩ = some (.int .i64 0) := (hc _ _ (by (try simp) <;> omega)).trans (by go_simp)
  have c2_0_1 : w2.cell? ⟨w.heap.size + 1 + 1, 1, none⟩ = some ((.slice none 0 0)) := (hc _ _ (by (try simp) <;> omega)).trans (by go_simp)
  have z2_0 : ∀ j, w2.frozen? ⟨w.heap.size + 1 + 1, j, none⟩ = false := fun j => (hf _ _ (by (try simp) <;> omega)).trans (by go_simp)
  clear hc hf hb2
  go_wp2
  refine bodyPost_ret (v := .tuple #[.agg #[.int .i64 s, .slice gu L.length cu], .int .i64 0]) (by simp [results, Try.results12, go_sem, c2_0_0, c2_0_1]) rfl ⟨_, rfl, ⟨_, rfl, ?_⟩, by (have hzS := HB2.out.size; (repeat (with_reducible first | exact HB2.out | refine Below.setCell ?_ ?_ _ | refine Below.alloc ?_ ?_ _ | refine Below.drew ?_ | refine bDrewN ?_ _)); all_goals ((try simp) <;> omega))⟩
  exact (((HU.out.set (w.heap.size + 1 + 1) 0 _ (by omega)).set (w.heap.size + 1 + 1) 1 _ (by omega)).more (by omega)).fb
end Go.Proofs.Ytnkfkbknckpkdaa.Cv
