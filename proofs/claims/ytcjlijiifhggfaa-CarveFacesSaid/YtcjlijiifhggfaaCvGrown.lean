/-
  WALKS (layer 5, carve): the piece of a grain that has no neighbour.
-/
import Derived.Test.YtcjlijiifhggfaaCvMeet
import Derived.Test.YtcjlijiifhggfaaCvFaces
namespace Go.Proofs.Ytcjlijiifhggfaa.Cv
open Go Go.RowKit Go.Sort

theorem grown_start {H o c s : Nat} {h : List Bool} {w W1 : World} {M N cM : Nat} {x y z : Value} (hk : LB w (.slice (some ⟨H, o, none⟩) h.length c) h) (hq : ∃ q, w.cell? ⟨H, o, none⟩ = some (.bool q))
    (h1 : (((w.alloc (.cells #[.int .i64 s, .slice (some ⟨H, o, none⟩) h.length c] 24)).alloc (.cells #[.slice (some ⟨M, 0, none⟩) N cM] 22)).alloc (.cells #[x, y, z] 48)).alloc (.cells #[.slice none 0 0] 39) = W1) :
    W1.heap.size = w.heap.size + 4 ∧ Below w.heap.size w W1 ∧ BK w.heap.size H o c s h W1 ∧ W1.cell? ⟨w.heap.size + 1, 0, none⟩ = some (.slice (some ⟨M, 0, none⟩) N cM) ∧ W1.cell? ⟨w.heap.size + 1 + 1, 0, none⟩ = some x ∧ W1.cell? ⟨w.heap.size + 1 + 1, 1, none⟩ = some y ∧ W1.cell? ⟨w.heap.size + 1 + 1, 2, none⟩ = some z ∧ W1.cell? ⟨w.heap.size + 1 + 1 + 1, 0, none⟩ = some (.slice none 0 0) ∧ ∀ j, W1.frozen? ⟨w.heap.size + 1 + 1 + 1, j, none⟩ = false := by
  subst h1
  have hb : Below w.heap.size w ((((w.alloc (.cells #[.int .i64 s, .slice (some ⟨H, o, none⟩) h.length c] 24)).alloc (.cells #[.slice (some ⟨M, 0, none⟩) N cM] 22)).alloc (.cells #[x, y, z] 48)).alloc (.cells #[.slice none 0 0] 39)) := by repeat (first | exact Below.refl _ _ | refine Below.alloc ?_ (by simp <;> omega) _ | refine bDrewN ?_ _ | refine Below.drew ?_)
  obtain ⟨q, hq⟩ := hq
  exact ⟨by simp, hb, ⟨by go_simp, by go_simp, hk.below hb, q, (hb.cell (p := ⟨H, o, none⟩) (World.block_lt_of_cell? _ _ hq)).trans hq⟩, by go_simp, by go_simp, by go_simp, by go_simp, by go_simp, fun j => by go_simp⟩
theorem OwnG.first {W : World} {B0 cp : Nat} {g : Option Addr} {x : Gr} (h : OwnG W B0 (.slice g 1 cp) [x]) : ∃ q, g = some ⟨q, 0, none⟩ ∧ W.cell? ⟨q, 0, none⟩ = some (.int .i64 x.x) ∧ W.cell? ⟨q, 1, none⟩ = some (.int .i64 x.y) ∧ W.cell? ⟨q, 2, none⟩ = some (.int .i64 x.z) := by
  rcases h.2 with ⟨hv, h0⟩ | ⟨q, cap, cur, hv, hgB, hh, hnc, hcm, hcs, htake⟩
  · simp at h0
  · simp only [Value.slice.injEq] at hv
    obtain ⟨rfl, -, -⟩ := hv
    have hf : ∀ i v, (flatG [x])[i]? = some v → i < 3 → W.cell? ⟨q, i, none⟩ = some v := fun i v hv hi => by
      rw [← htake, List.getElem?_take, if_pos (by simpa using hi), Array.getElem?_toList] at hv
      simp only [World.cell?, hh]
      exact hv
    exact ⟨q, rfl, hf 0 _ rfl (by omega), hf 1 _ rfl (by omega), hf 2 _ rfl (by omega)⟩
theorem OwnG.less {W : World} {B0 B1 : Nat} {v : Value} {l : List Gr} (h : OwnG W B0 v l) (hB : B1 ≤ B0) : OwnG W B1 v l := by
  obtain ⟨h1, h2⟩ := h
  refine ⟨h1, h2.imp id ?_⟩
  rintro ⟨g, cap, cur, hv, hgB, hr⟩
  exact ⟨g, cap, cur, hv, Nat.le_trans hB hgB, hr⟩
/-- What the first meeting leaves behind the start. -/
theorem grown_met {w W1 W2 : World} {H o c s M N cM Z k : Nat} {h ms : List Bool} {x : Gr} (hZ : w.heap.size = Z) (hz : W1.heap.size = Z + 4) (hb : Below w.heap.size w W1) (hk : BK Z H o c s h W1) (hM : M < Z) (hH : H < Z) (hMH : M ≠ H) (hm : Met W1 M N cM (Z + 1 + 1 + 1) k ms x W2) :
    BK Z H o c s h W2 ∧ w.grownBy W2 (some M) ∧ MR M N cM (ms.set k true) W2 ∧ ∃ q cp, W2.cell? ⟨Z + 1 + 1 + 1, 0, none⟩ = some (.slice (some ⟨q, 0, none⟩) 1 cp) ∧ OwnG W2 w.heap.size (.slice (some ⟨q, 0, none⟩) 1 cp) [x] ∧ W2.cell? ⟨q, 0, none⟩ = some (.int .i64 x.x) ∧ W2.cell? ⟨q, 1, none⟩ = some (.int .i64 x.y) ∧ W2.cell? ⟨q, 2, none⟩ = some (.int .i64 x.z) := by
  obtain ⟨g, cp, hc, ho⟩ := hm.queue
  obtain ⟨q, rfl, c0, c1, c2⟩ := ho.first
  refine ⟨hk.same hm.size (hm.rest Z (by omega) (by omega) (by omega)) (hm.rest H (by omega) (by omega) (by omega)), ⟨hm.os.trans hb.os, hm.tape.trans hb.tape, hm.output.trans hb.output, Nat.le_trans hb.size hm.size, fun j hj hn => ?_⟩, hm.met, q, cp, hc, ho.less (by omega), c0, c1, c2⟩
  exact (hm.rest j (by omega) (fun e => hn (by rw [e])) (by omega)).trans (hb.block j hj)
set_option maxRecDepth 100000 in
set_option maxHeartbeats 2000000 in
theorem grown_lone (H o c s M N cM k : Nat) (h ms : List Bool) (x : Gr) (w : World) (hs2 : s ≤ 10) (hl : h.length = s * s * s) (hv : LB w (.slice (some ⟨H, o, none⟩) h.length c) h) (hq : ∃ q, w.cell? ⟨H, o, none⟩ = some (.bool q)) (hM : MR M N cM ms w)
    (hh : hasB s h x = true) (hn : ∀ n ∈ aroundL x, hasB s h n = false) (hi : idx s x = k) (hkN : k < N) (hmk : ms[k]? = some false) (hMH : M ≠ H) :
    Calls Try.prog 67 #[.agg #[.int .i64 s, .slice (some ⟨H, o, none⟩) h.length c], .slice (some ⟨M, 0, none⟩) N cM, .agg #[.int .i64 x.x, .int .i64 x.y, .int .i64 x.z]] w fun e w' => ∃ g cp, e = .returned (.slice g 1 cp) ∧ OwnG w' w.heap.size (.slice g 1 cp) [x] ∧ MR M N cM (ms.set k true) w' ∧ w.grownBy w' (some M) := by
  have hin : insB s x = true := by unfold hasB at hh; rw [Bool.and_eq_true] at hh; exact hh.1
  have hHl : H < w.heap.size := by obtain ⟨q, hq⟩ := hq; exact World.block_lt_of_cell? _ _ hq
  have hMl := hM.lt (show 0 < N by omega)
  obtain ⟨Z, hZ⟩ : ∃ Z, w.heap.size = Z := ⟨_, rfl⟩
  have HY : Kp (∀ W, W.heap.size = Z + 4 → Below w.heap.size w W → BK Z H o c s h W → W.cell? ⟨Z + 1, 0, none⟩ = some (.slice (some ⟨M, 0, none⟩) N cM) → W.cell? ⟨Z + 1 + 1 + 1, 0, none⟩ = some (.slice none 0 0) → (∀ j, W.frozen? ⟨Z + 1 + 1 + 1, j, none⟩ = false) →
      Calls Try.prog 88 #[.agg #[.int .i64 x.x, .int .i64 x.y, .int .i64 x.z], .pointer (some ⟨Z, 0, none⟩), .pointer (some ⟨Z + 1, 0, none⟩), .pointer (some ⟨Z + 1 + 1 + 1, 0, none⟩)] W fun e w' => e = .returned (.tuple #[]) ∧ Met W M N cM (Z + 1 + 1 + 1) k ms x w') :=
    ⟨fun W hz hb hk h1 h2 h3 => meet_yes Z H o c s M N cM (Z + 1) (Z + 1 + 1 + 1) k h ms x W hs2 hl hk (hM.on (by omega) hb) h1 h2 h3 hh hi hkN hmk (by omega) (by omega) (by omega) (by omega)⟩
  have HNO : Kp (∀ W n, n ∈ aroundL x → BK Z H o c s h W → Calls Try.prog 88 #[.agg #[.int .i64 n.x, .int .i64 n.y, .int .i64 n.z], .pointer (some ⟨Z, 0, none⟩), .pointer (some ⟨Z + 1, 0, none⟩), .pointer (some ⟨Z + 1 + 1 + 1, 0, none⟩)] W fun e w' => e = .returned (.tuple #[]) ∧ Below W.heap.size W w') :=
    ⟨fun W n hm hk => meet_no Z H o c s (Z + 1) (Z + 1 + 1 + 1) h n W hs2 hl hk (hn n hm)⟩
  have HAR : Kp (∀ W, Calls Try.prog 75 #[.agg #[.int .i64 x.x, .int .i64 x.y, .int .i64 x.z]] W fun e w' => e = .returned (.agg (aroundV x)) ∧ Below W.heap.size W w') := ⟨fun W => around_any x (mem_small hs2 hin) W⟩
  have HIX : Kp (∀ (k : Nat) (n : Gr), (aroundL x)[k]? = some n → ∀ W, (Instr.index 71 (.agg (aroundV x)) (.int .i64 k)).run Try.prog W = .ok (Value.agg #[.int .i64 n.x, .int .i64 n.y, .int .i64 n.z]) W) := ⟨fun k n hn W => around_ix hn W⟩
  obtain ⟨A, hA⟩ : ∃ A, aroundV x = A := ⟨_, rfl⟩
  rw [hA] at HIX HAR
  have HNE : Kp (M ≠ H ∧ M < Z ∧ H < Z ∧ w.heap.size = Z) := ⟨hMH, by omega, by omega, hZ⟩
  have HNK : Kp (0 < N) := ⟨by omega⟩
  have HST := Kp.mk (fun (W1 : World) (y1 y2 y3 : Value) => @grown_start H o c s h w W1 M N cM y1 y2 y3 hv hq)
  clear hA hin hi hkN hmk hMH hh hn hl hv hq hM
  go_enter Try.func67, Try.ntmps67
  go_wp2_with fail
  obtain ⟨z1, hb1, k1, m1, -, -, -, q1, qz1⟩ := HST.out _ (.int .i64 x.x) (.int .i64 x.y) (.int .i64 x.z) rfl
  rw [hZ] at z1 k1 m1 q1 qz1
  refine (HY.out _ z1 hb1 k1 m1 q1 qz1).mono ?_
  rintro en W2 ⟨rfl, hmet⟩
  obtain ⟨k2, hg2, hm2, q, cp, cq, hown, c0, c1, c2⟩ := grown_met hZ z1 hb1 k1 HNE.out.2.1 HNE.out.2.2.1 HNE.out.1 hmet
  have HK2 := Kp.mk k2
  have HG2 := Kp.mk hg2
  have HM2 := Kp.mk hm2
  have HOWN := Kp.mk hown
  have HQ := Lib.hid (And.intro cq (And.intro c0 (And.intro c1 c2)))
  have hql := World.block_lt_of_cell? _ _ c0
  have hQl := World.block_lt_of_cell? _ _ cq
  clear z1 hb1 k1 m1 q1 qz1 hmet k2 hg2 hm2 hown cq c0 c1 c2 HST HY
  go_wp2
  go_loopw [9] (fun a wr => ∃ j : Nat, j ≤ 1 ∧ a = .int .i64 j ∧ Kp (Below W2.heap.size W2 wr)) (fun a _ => 1 - (intOf a).toNat)
  case atStart => exact ⟨0, by omega, rfl, ⟨Below.refl _ _⟩⟩
  case round =>
    obtain ⟨j, hj, rfl, HB⟩ := hrel
    have cq : wr.cell? ⟨Z + 1 + 1 + 1, 0, none⟩ = some (.slice (some ⟨q, 0, none⟩) 1 cp) := (HB.out.cell (p := ⟨_, 0, none⟩) hQl).trans HQ.out.1
    by_cases hlt : j < 1
    · obtain rfl : j = 0 := by omega
      have c0 : wr.cell? ⟨q, 0, none⟩ = some (.int .i64 x.x) := (HB.out.cell (p := ⟨q, 0, none⟩) hql).trans HQ.out.2.1
      have c1 : wr.cell? ⟨q, 1, none⟩ = some (.int .i64 x.y) := (HB.out.cell (p := ⟨q, 1, none⟩) hql).trans HQ.out.2.2.1
      have c2 : wr.cell? ⟨q, 2, none⟩ = some (.int .i64 x.z) := (HB.out.cell (p := ⟨q, 2, none⟩) hql).trans HQ.out.2.2.2
      go_wp2_with fail
      refine (HAR.out _).mono ?_
      rintro en w3 ⟨rfl, hb3⟩
      have HB3 := Kp.mk (HB.out.trans (hb3.mono HB.out.size))
      clear hb3 c0 c1 c2 cq
      go_wp2
      go_loopw [27] (fun a wr => ∃ i : Nat, i ≤ 6 ∧ a = .int .i64 (i : Int) ∧ Kp (Below W2.heap.size W2 wr)) (fun a _ => 6 - (intOf a).toNat)
      case atStart => exact ⟨0, by omega, rfl, HB3⟩
      case round =>
        clear HB HB3
        obtain ⟨i, hi6, rfl, HB⟩ := hrel
        by_cases hlt6 : i < 6
        · obtain ⟨m, hm⟩ : ∃ m, (aroundL x)[i]? = some m := ⟨_, List.getElem?_eq_getElem (by rw [around_len]; exact hlt6)⟩
          have hix := HIX.out i m hm
          have hmem := List.mem_of_getElem? hm
          have o1 : (i : Int) < 6 := by omega
          have HKr := Kp.mk ((HK2.out.on HB.out).on ((Below.refl _ _).alloc (Nat.le_refl _) (.cells #[.int .i64 m.x, .int .i64 m.y, .int .i64 m.z] 48)))
          clear hm
          go_wp2_with fail
          refine (HNO.out _ m hmem HKr.out).mono ?_
          rintro en w4 ⟨rfl, hb4⟩
          have HB4 : Kp (Below W2.heap.size W2 w4) := ⟨(HB.out.alloc HB.out.size _).trans (hb4.mono (by simp; have := HB.out.size; omega))⟩
          clear hb4 hix hmem
          go_wp2
          go_roundw
          case rel => exact ⟨i + 1, by omega, by go_num, HB4⟩
          case measure => simp [intOf]; omega
        · have o1 : ¬ (i : Int) < 6 := by omega
          go_wp2
          exact ⟨⟨1, by omega, rfl, HB⟩, by simp [intOf]⟩
    · have o1 : ¬ (j : Int) < 1 := by omega
      go_wp2
      go_ret
      exact ⟨_, _, rfl, hZ ▸ HOWN.out.on HB.out, HM2.out.on HNK.out HB.out, grown_trans HG2.out (grown_below HB.out _)⟩
end Go.Proofs.Ytcjlijiifhggfaa.Cv
