/-
  WALKS (layer 5, carve): a grain that is met: it is not there; it is the first of its piece.
-/
import Derived.Test.YtcjlijiifhggfaaCvAround
import Derived.Test.YtcjlijiifhggfaaCvColl
import Derived.Deep.RegionWith
import Derived.Deep.CutRange
import Derived.Deep.DeepCutAuto
namespace Go.Proofs.Ytcjlijiifhggfaa.Cv
open Go Go.RowKit Go.Sort

/-- Which grains were met: a row of truth values in a block of its own. -/
structure MR (M N c : Nat) (ms : List Bool) (W : World) : Prop where
  row : LB W (.slice (some ⟨M, 0, none⟩) N c) ms
  len : ms.length = N
  z : ∀ j, W.frozen? ⟨M, j, none⟩ = false
theorem MR.cell {M N c k : Nat} {ms : List Bool} {W : World} {x : Bool} (h : MR M N c ms W) (hx : ms[k]? = some x) : W.cell? ⟨M, k, none⟩ = some (.bool x) := by
  obtain ⟨g, c', e, -, hi⟩ := h.row
  obtain ⟨b, o, hg, -, hc⟩ := hi k x hx
  simp only [Value.slice.injEq] at e
  obtain ⟨e1, -, -⟩ := e
  rw [hg] at e1
  simp only [Option.some.injEq, Addr.mk.injEq, and_true] at e1
  obtain ⟨rfl, rfl⟩ := e1
  rwa [Nat.zero_add] at hc
theorem MR.same {M N c : Nat} {ms : List Bool} {W V : World} (h : MR M N c ms W) (hz : W.heap.size ≤ V.heap.size) (hb : V.heap[M]? = W.heap[M]?) : MR M N c ms V := by
  have hr := h.row
  rw [← h.len] at hr
  have h2 := hr.same hz hb
  rw [h.len] at h2
  exact ⟨h2, h.len, fun j => (World.frozen?_of_block (a := ⟨M, j, none⟩) hb).trans (h.z j)⟩
theorem MR.lt {M N c : Nat} {ms : List Bool} {W : World} (h : MR M N c ms W) (hN : 0 < N) : M < W.heap.size := by
  have := h.cell (k := 0) (List.getElem?_eq_getElem (by rw [h.len]; exact hN))
  exact World.block_lt_of_cell? _ _ this
theorem MR.on {M N c : Nat} {ms : List Bool} {W V : World} (h : MR M N c ms W) (hN : 0 < N) (hb : Below W.heap.size W V) : MR M N c ms V := h.same hb.size (hb.block _ (h.lt hN))
theorem MR.set_ {M N c k : Nat} {ms : List Bool} {W : World} (h : MR M N c ms W) (hk : k < N) (x : Bool) : MR M N c (ms.set k x) (W.setCell ⟨M, k, none⟩ (.bool x)) := by
  have hkl : k < ms.length := by rw [h.len]; exact hk
  have hck := h.cell (List.getElem?_eq_getElem hkl)
  have hMl := World.block_lt_of_cell? _ _ hck
  refine ⟨?_, by rw [List.length_set]; exact h.len, fun j => by simp [go_sem, h.z]⟩
  obtain ⟨g, c', e, hc, hi⟩ := h.row
  simp only [Value.slice.injEq] at e
  obtain ⟨rfl, hN, rfl⟩ := e
  refine ⟨some ⟨M, 0, none⟩, c, by rw [List.length_set, ← hN], by rw [List.length_set]; exact hc, fun i y hy => ?_⟩
  refine ⟨M, 0, rfl, by simpa [World.setCell] using hMl, ?_⟩
  rw [Nat.zero_add]
  by_cases hik : i = k
  · subst hik
    rw [List.getElem?_set_self hkl] at hy
    rw [← Option.some.inj hy]
    exact World.cell?_setCell_same _ _ _ hck
  · rw [List.getElem?_set_ne (fun e => hik e.symm)] at hy
    rw [World.cell?_setCell_other _ _ _ _ (by intro he; simp only [Addr.mk.injEq, and_true, true_and] at he; exact hik he.symm)]
    exact h.cell hy
theorem box_start {w W1 : World} {x y z : Value} (h : w.alloc (.cells #[x, y, z] 48) = W1) :
    Below w.heap.size w W1 ∧ W1.cell? ⟨w.heap.size, 0, none⟩ = some x ∧ W1.cell? ⟨w.heap.size, 1, none⟩ = some y ∧ W1.cell? ⟨w.heap.size, 2, none⟩ = some z := by
  subst h
  exact ⟨by repeat (first | exact Below.refl _ _ | refine Below.alloc ?_ (by simp <;> omega) _ | refine bDrewN ?_ _ | refine Below.drew ?_), by go_simp, by go_simp, by go_simp⟩
set_option maxHeartbeats 1000000 in
theorem meet_no (B H o c s Mt Q : Nat) (h : List Bool) (x : Gr) (w : World) (hs2 : s ≤ 10) (hl : h.length = s * s * s) (hk : BK B H o c s h w) (hn : hasB s h x = false) :
    Calls Try.prog 88 #[.agg #[.int .i64 x.x, .int .i64 x.y, .int .i64 x.z], .pointer (some ⟨B, 0, none⟩), .pointer (some ⟨Mt, 0, none⟩), .pointer (some ⟨Q, 0, none⟩)] w fun e w' => e = .returned (.tuple #[]) ∧ Below w.heap.size w w' := by
  have HH : Kp (∀ W, Below w.heap.size w W → Calls Try.prog 62 #[.agg #[.int .i64 s, .slice (some ⟨H, o, none⟩) h.length c], .agg #[.int .i64 x.x, .int .i64 x.y, .int .i64 x.z]] W fun e w' => e = .returned (.bool false) ∧ Below W.heap.size W w') := ⟨fun W hW => hn ▸ has_any s _ h x W hs2 hl (hk.row.below hW)⟩
  have b0 := hk.side
  have b1 := hk.has
  have hBl := hk.ltB
  obtain ⟨gx, gy, gz⟩ := x
  obtain ⟨N, hN⟩ : ∃ N, h.length = N := ⟨_, rfl⟩
  rw [hN] at HH b1
  clear hn hk hl hs2 hN
  go_enter Try.func88, Try.ntmps88
  go_wp2
  obtain ⟨W1, hW1⟩ : ∃ W1, w.alloc (.cells #[.int .i64 gx, .int .i64 gy, .int .i64 gz] 48) = W1 := ⟨_, rfl⟩
  rw [hW1]
  obtain ⟨hb1, e0, e1, e2⟩ := box_start hW1
  have p0 : W1.cell? ⟨B, 0, none⟩ = some (.int .i64 s) := (hb1.cell (p := ⟨B, 0, none⟩) hBl).trans b0
  have p1 : W1.cell? ⟨B, 1, none⟩ = some (.slice (some ⟨H, o, none⟩) N c) := (hb1.cell (p := ⟨B, 1, none⟩) hBl).trans b1
  have HB1 := Kp.mk hb1
  have r0 := fun d os => cell_regrown p0 d os
  have r1 := fun d os => cell_regrown p1 d os
  have r2 := fun d os => cell_regrown e0 d os
  have r3 := fun d os => cell_regrown e1 d os
  have r4 := fun d os => cell_regrown e2 d os
  have K1 : Kp (∀ d os, _) := ⟨fun d os => HH.out (grow (redrawn W1 d) os) (HB1.out.trans ((below_regrown W1 d os).mono HB1.out.size))⟩
  clear hW1 hb1 b0 b1 p0 p1 e0 e1 e2
  refine wp_region_quiet_below (by kernel_rfl) (by kernel_rfl) ?_
  repeat (any_goals (first | go_big_quiet_step (first | (with_reducible exact Calls.regrown_of (K1.out _ _))) | quiet_step (first | (with_reducible exact Calls.regrown_of (K1.out _ _)))))
  refine wpQuiet_nil ?_
  intro _ hqw
  obtain ⟨⟨dq, osq⟩, hqv⟩ := hqw
  subst hqv
  go_wp2
  go_end0
  exact ⟨rfl, HB1.out.trans ((below_regrown W1 dq osq).mono HB1.out.size)⟩
/-- What a first meeting leaves: a mark in the row, the queue with one grain. -/
structure Met (w : World) (M N c Q k : Nat) (ms : List Bool) (x : Gr) (W : World) : Prop where
  size : w.heap.size ≤ W.heap.size
  os : W.os = w.os
  tape : W.tape = w.tape
  output : W.output = w.output
  rest : ∀ j, j < w.heap.size → j ≠ M → j ≠ Q → W.heap[j]? = w.heap[j]?
  met : MR M N c (ms.set k true) W
  queue : ∃ g cap, W.cell? ⟨Q, 0, none⟩ = some (.slice g 1 cap) ∧ OwnG W w.heap.size (.slice g 1 cap) [x]
  z : ∀ j, W.frozen? ⟨Q, j, none⟩ = false
theorem met_last {w V2 w5 : World} {M N c Q k cp : Nat} {g : Option Addr} {ms : List Bool} {x : Gr} {t : TypeId} (hb : Below w.heap.size w V2) (hM : MR M N c ms w) (hk : k < N) (hQl : Q < w.heap.size) (hqz : ∀ j, w.frozen? ⟨Q, j, none⟩ = false) (hMQ : M ≠ Q)
    (hgr : ((V2.setCell ⟨M, k, none⟩ (.bool true)).alloc (.cells #[.int .i64 x.x, .int .i64 x.y, .int .i64 x.z] t)).grownBy w5 none) (hown : OwnG w5 w.heap.size (.slice g 1 cp) [x]) (hcq : w5.cell? ⟨Q, 0, none⟩ = some (.slice none 0 0)) :
    Met w M N c Q k ms x (w5.setCell ⟨Q, 0, none⟩ (.slice g 1 cp)) := by
  have hMl : M < w.heap.size := hM.lt (by omega)
  have g1 := setCell_grown V2 M k (.bool true)
  have g2 := World.grownBy_alloc (V2.setCell ⟨M, k, none⟩ (.bool true)) (.cells #[.int .i64 x.x, .int .i64 x.y, .int .i64 x.z] t) none
  have g4 := setCell_grown w5 Q 0 (.slice g 1 cp)
  have s1 := hb.size
  have s2 := g1.size
  have s3 := g2.size
  have s4 := hgr.size
  have s5 := g4.size
  have e5 : ∀ j, j < w.heap.size → j ≠ Q → (w5.setCell ⟨Q, 0, none⟩ (.slice g 1 cp)).heap[j]? = (V2.setCell ⟨M, k, none⟩ (.bool true)).heap[j]? := fun j hj hq => (g4.block j (by omega) (fun e => hq (Option.some.inj e))).trans ((hgr.block j (by omega) (fun e => by cases e)).trans (g2.block j (by omega) (fun e => by cases e)))
  have hM2 : MR M N c (ms.set k true) (V2.setCell ⟨M, k, none⟩ (.bool true)) := (hM.on (by omega) hb).set_ hk true
  have hQ5 : w5.heap[Q]? = w.heap[Q]? := (hgr.block Q (by omega) (fun e => by cases e)).trans ((g2.block Q (by omega) (fun e => by cases e)).trans ((g1.block Q (by omega) (fun e => hMQ (Option.some.inj e).symm)).trans (hb.block Q hQl)))
  refine ⟨by omega, (g4.os.trans hgr.os).trans ((g2.os.trans g1.os).trans hb.os), (g4.tape.trans hgr.tape).trans ((g2.tape.trans g1.tape).trans hb.tape), (g4.output.trans hgr.output).trans ((g2.output.trans g1.output).trans hb.output), fun j hj h1 h2 => ?_, hM2.same (by omega) (e5 M hMl hMQ), ⟨g, cp, ?_, ?_⟩, fun j => ?_⟩
  · exact (e5 j hj h2).trans ((g1.block j (by omega) (fun e => h1 (Option.some.inj e))).trans (hb.block j hj))
  · exact World.cell?_setCell_same _ _ _ hcq
  · refine World.ownsRow.kept (row := some Q) hown g4 ?_
    cases e : (Value.slice g 1 cp).ownBlock with
    | none => exact .inl rfl
    | some j => exact .inr (fun e2 => by have := (OwnG.block hown e).1; simp only [Option.some.injEq] at e2; omega)
  · have hz : w5.frozen? ⟨Q, j, none⟩ = false := (World.frozen?_of_block (a := ⟨Q, j, none⟩) hQ5).trans (hqz j)
    simp [go_sem, hz]
attribute [-go_sem] Builtin.append_
set_option maxRecDepth 100000 in
set_option maxHeartbeats 2000000 in
theorem meet_yes (B H o c s M N cM Mt Q k : Nat) (h ms : List Bool) (x : Gr) (w : World) (hs2 : s ≤ 10) (hl : h.length = s * s * s) (hk : BK B H o c s h w) (hM : MR M N cM ms w) (hmt : w.cell? ⟨Mt, 0, none⟩ = some (.slice (some ⟨M, 0, none⟩) N cM)) (hq : w.cell? ⟨Q, 0, none⟩ = some (.slice none 0 0)) (hqz : ∀ j, w.frozen? ⟨Q, j, none⟩ = false)
    (hh : hasB s h x = true) (hi : idx s x = k) (hkN : k < N) (hmk : ms[k]? = some false) (hMQ : M ≠ Q) (hQB : Q ≠ B) (hMB : M ≠ B) (hMt : Mt ≠ M) :
    Calls Try.prog 88 #[.agg #[.int .i64 x.x, .int .i64 x.y, .int .i64 x.z], .pointer (some ⟨B, 0, none⟩), .pointer (some ⟨Mt, 0, none⟩), .pointer (some ⟨Q, 0, none⟩)] w fun e w' => e = .returned (.tuple #[]) ∧ Met w M N cM Q k ms x w' := by
  have hin : insB s x = true := by unfold hasB at hh; rw [Bool.and_eq_true] at hh; exact hh.1
  have HH : Kp (∀ W, Below w.heap.size w W → Calls Try.prog 62 #[.agg #[.int .i64 s, .slice (some ⟨H, o, none⟩) h.length c], .agg #[.int .i64 x.x, .int .i64 x.y, .int .i64 x.z]] W fun e w' => e = .returned (.bool true) ∧ Below W.heap.size W w') := ⟨fun W hW => hh ▸ has_any s _ h x W hs2 hl (hk.row.below hW)⟩
  have HX : Kp (∀ W, Calls Try.prog 66 #[.agg #[.int .i64 x.x, .int .i64 x.y, .int .i64 x.z], .int .i64 s] W fun e w' => e = .returned (.int .i64 k) ∧ Below W.heap.size W w') := ⟨fun W => hi ▸ index_any hs2 x hin W⟩
  have b0 := hk.side
  have b1 := hk.has
  have hBl := hk.ltB
  have cm := hM.cell hmk
  have hMl := World.block_lt_of_cell? _ _ cm
  have hQl := World.block_lt_of_cell? _ _ hq
  have hMtl := World.block_lt_of_cell? _ _ hmt
  have HMR := Kp.mk hM
  have HNE : Kp (M ≠ Q ∧ Q ≠ B ∧ M ≠ B ∧ Mt ≠ M ∧ k < N) := ⟨hMQ, hQB, hMB, hMt, hkN⟩
  obtain ⟨gx, gy, gz⟩ := x
  obtain ⟨L, hL⟩ : ∃ L, h.length = L := ⟨_, rfl⟩
  rw [hL] at HH b1
  have o1 : (k : Int) < (N : Int) := by omega
  clear hh hk hl hs2 hL hin hi hM hmk hkN
  go_enter Try.func88, Try.ntmps88
  go_wp2
  obtain ⟨W1, hW1⟩ : ∃ W1, w.alloc (.cells #[.int .i64 gx, .int .i64 gy, .int .i64 gz] 48) = W1 := ⟨_, rfl⟩
  rw [hW1]
  obtain ⟨hb1, e0, e1, e2⟩ := box_start hW1
  have p0 : W1.cell? ⟨B, 0, none⟩ = some (.int .i64 s) := (hb1.cell (p := ⟨B, 0, none⟩) hBl).trans b0
  have p1 : W1.cell? ⟨B, 1, none⟩ = some (.slice (some ⟨H, o, none⟩) L c) := (hb1.cell (p := ⟨B, 1, none⟩) hBl).trans b1
  have p2 : W1.cell? ⟨Mt, 0, none⟩ = some (.slice (some ⟨M, 0, none⟩) N cM) := (hb1.cell (p := ⟨Mt, 0, none⟩) hMtl).trans hmt
  have p3 : W1.cell? ⟨M, k, none⟩ = some (.bool false) := (hb1.cell (p := ⟨M, k, none⟩) hMl).trans cm
  have HB1 := Kp.mk hb1
  have HE1 := Lib.hid (And.intro e0 (And.intro e1 e2))
  have r0 := fun d os => cell_regrown p0 d os
  have r1 := fun d os => cell_regrown p1 d os
  have r2 := fun d os => cell_regrown p2 d os
  have r3 := fun d os => cell_regrown p3 d os
  have r4 := fun d os => cell_regrown e0 d os
  have r5 := fun d os => cell_regrown e1 d os
  have r6 := fun d os => cell_regrown e2 d os
  have K1 : Kp (∀ d os, _) := ⟨fun d os => HH.out (grow (redrawn W1 d) os) (HB1.out.trans ((below_regrown W1 d os).mono HB1.out.size))⟩
  have K2 : Kp (∀ d os, _) := ⟨fun d os => HX.out (grow (redrawn W1 d) os)⟩
  have hGl : w.heap.size < W1.heap.size := World.block_lt_of_cell? _ _ e0
  have HP := Lib.hid (And.intro b0 (And.intro hBl (And.intro hmt (And.intro hMtl (And.intro cm (And.intro hMl (And.intro hq hQl)))))))
  clear hW1 hb1 b0 b1 p0 p1 p2 p3 e0 e1 e2 hmt cm hq
  refine wp_region_quiet_below (by kernel_rfl) (by kernel_rfl) ?_
  repeat (any_goals (first | go_big_quiet_step (first | (with_reducible exact Calls.regrown_of (K1.out _ _)) | (with_reducible exact Calls.regrown_of (K2.out _ _))) | quiet_step (first | (with_reducible exact Calls.regrown_of (K1.out _ _)) | (with_reducible exact Calls.regrown_of (K2.out _ _)))))
  refine wpQuiet_nil ?_
  intro _ hqw
  obtain ⟨⟨dq, osq⟩, hqv⟩ := hqw
  subst hqv
  obtain ⟨V, hV⟩ : ∃ V, grow (redrawn W1 dq) osq = V := ⟨_, rfl⟩
  rw [hV]
  have hbv : Below W1.heap.size W1 V := by rw [← hV]; exact below_regrown W1 dq osq
  clear hV r0 r1 r2 r3 r4 r5 r6 K1 K2
  have HBV := Kp.mk (HB1.out.trans (hbv.mono HB1.out.size))
  have g0 := (hbv.cell (p := ⟨w.heap.size, 0, none⟩) hGl).trans HE1.out.1
  have g1 := (hbv.cell (p := ⟨w.heap.size, 1, none⟩) hGl).trans HE1.out.2.1
  have g2 := (hbv.cell (p := ⟨w.heap.size, 2, none⟩) hGl).trans HE1.out.2.2
  have p0 : V.cell? ⟨B, 0, none⟩ = some (.int .i64 s) := (HBV.out.cell (p := ⟨B, 0, none⟩) hBl).trans HP.out.1
  have p2 : V.cell? ⟨Mt, 0, none⟩ = some (.slice (some ⟨M, 0, none⟩) N cM) := (HBV.out.cell (p := ⟨Mt, 0, none⟩) hMtl).trans HP.out.2.2.1
  have p3 : V.cell? ⟨M, k, none⟩ = some (.bool false) := (HBV.out.cell (p := ⟨M, k, none⟩) hMl).trans HP.out.2.2.2.2.1
  have z3 : V.frozen? ⟨M, k, none⟩ = false := (HBV.out.frozen (p := ⟨M, k, none⟩) hMl).trans (HMR.out.z k)
  have HGZ : Kp (w.heap.size < V.heap.size) := ⟨Nat.lt_of_lt_of_le hGl hbv.size⟩
  clear hbv
  have lM : M < V.heap.size := Nat.lt_of_lt_of_le hMl HBV.out.size
  have lT : Mt < V.heap.size := Nat.lt_of_lt_of_le hMtl HBV.out.size
  go_upto_region 2 with fail
  go_cut [] (fun wx => ∃ V2, wx = V2.setCell ⟨M, k, none⟩ (.bool true) ∧ Kp (Below V.heap.size V V2))
  case first =>
    go_region_with (go_at_call 66; refine (HX.out _).mono ?_; rintro en w5 ⟨rfl, hb5⟩; have hbw : Below V.heap.size V w5 := (by (repeat (with_reducible first | exact Below.refl _ _ | refine Below.drew ?_ | refine bDrewN ?_ _)) : Below V.heap.size V _).trans hb5; have q2 := (hbw.cell (p := ⟨Mt, 0, none⟩) lT).trans p2; have q3 := (hbw.cell (p := ⟨M, k, none⟩) lM).trans p3; have y3 := (hbw.frozen (p := ⟨M, k, none⟩) lM).trans z3; clear hb5)
    all_goals
      go_wp2_with fail
      go_meet
      exact ⟨_, rfl, ⟨hbw⟩⟩
  case rest =>
    obtain ⟨V2, rfl, HB2⟩ := hcut
    have hbw := HBV.out.trans (HB2.out.mono HBV.out.size)
    have hGV := HGZ.out
    have y0 : V2.cell? ⟨w.heap.size, 0, none⟩ = some (.int .i64 gx) := (HB2.out.cell (p := ⟨w.heap.size, 0, none⟩) hGV).trans g0
    have y1 : V2.cell? ⟨w.heap.size, 1, none⟩ = some (.int .i64 gy) := (HB2.out.cell (p := ⟨w.heap.size, 1, none⟩) hGV).trans g1
    have y2 : V2.cell? ⟨w.heap.size, 2, none⟩ = some (.int .i64 gz) := (HB2.out.cell (p := ⟨w.heap.size, 2, none⟩) hGV).trans g2
    have yq : V2.cell? ⟨Q, 0, none⟩ = some (.slice none 0 0) := (hbw.cell (p := ⟨Q, 0, none⟩) hQl).trans HP.out.2.2.2.2.2.2.1
    obtain ⟨V3, hV3⟩ : ∃ V3, V2.setCell ⟨M, k, none⟩ (.bool true) = V3 := ⟨_, rfl⟩
    have k0 : V3.cell? ⟨w.heap.size, 0, none⟩ = some (.int .i64 gx) := by rw [← hV3, World.cell?_setCell_other _ _ _ _ (by intro e; simp only [Addr.mk.injEq] at e; omega), y0]
    have k1 : V3.cell? ⟨w.heap.size, 1, none⟩ = some (.int .i64 gy) := by rw [← hV3, World.cell?_setCell_other _ _ _ _ (by intro e; simp only [Addr.mk.injEq] at e; omega), y1]
    have k2 : V3.cell? ⟨w.heap.size, 2, none⟩ = some (.int .i64 gz) := by rw [← hV3, World.cell?_setCell_other _ _ _ _ (by intro e; simp only [Addr.mk.injEq] at e; omega), y2]
    have kq : V3.cell? ⟨Q, 0, none⟩ = some (.slice none 0 0) := by rw [← hV3, World.cell?_setCell_other _ _ _ _ (by intro e; simp only [Addr.mk.injEq] at e; omega), yq]
    have hx : GrAt (V3.alloc (.cells #[.int .i64 gx, .int .i64 gy, .int .i64 gz] 48)) V3.heap.size ⟨gx, gy, gz⟩ := ⟨by go_simp, by go_simp, by go_simp⟩
    have hz3 : w.heap.size ≤ V3.heap.size := by rw [← hV3]; simp [World.setCell]; exact hbw.size
    have hQ3 : Q < V3.heap.size := by omega
    obtain ⟨g, cp, w5, hrun, hown, hgr, -⟩ := (OwnG.nil (V3.alloc (.cells #[.int .i64 gx, .int .i64 gy, .int .i64 gz] 48)) w.heap.size).next hx (by simp) (by rw [World.size_alloc]; omega)
    have cq5 : w5.cell? ⟨Q, 0, none⟩ = some (.slice none 0 0) := (World.cell?_of_block (a := ⟨Q, 0, none⟩) (hgr.block Q (by rw [World.size_alloc]; omega) (fun e => by cases e))).trans (by go_simp)
    have z3q : V3.frozen? ⟨Q, 0, none⟩ = false := by
      have : V2.frozen? ⟨Q, 0, none⟩ = false := (hbw.frozen (p := ⟨Q, 0, none⟩) hQl).trans (hqz 0)
      rw [← hV3]
      simp [go_sem, this]
    have zq5 : w5.frozen? ⟨Q, 0, none⟩ = false := (World.frozen?_of_block (a := ⟨Q, 0, none⟩) (hgr.block Q (by rw [World.size_alloc]; omega) (fun e => by cases e))).trans (by go_simp)
    have HMET : Kp (Met w M N cM Q k ms ⟨gx, gy, gz⟩ (w5.setCell ⟨Q, 0, none⟩ (.slice g 1 cp))) := ⟨met_last hbw HMR.out HNE.out.2.2.2.2 hQl hqz HNE.out.1 (hV3 ▸ hgr) hown cq5⟩
    rw [hV3]
    clear hbw y0 y1 y2 yq hV3 hx hown hgr hz3 g0 g1 g2 p0 p2 p3 z3
    simp only [List.length_nil, Nat.zero_add] at hrun
    go_wp2
    go_end0
    exact ⟨rfl, HMET.out⟩
end Go.Proofs.Ytcjlijiifhggfaa.Cv
