/-
  WALKS (layer 5, carve): the full block, counts, equal rows of grains and equal views, by the reference.
-/
import Derived.Test.YticcafjogmjkiaaCvRefI
import Derived.Test.YticcafjogmjkiaaCvRefG
namespace Go.Proofs.Yticcafjogmjkiaa.Cv
open Go Go.RowKit Go.Sort

/-- The row that is filled lies in a block of its own; the made block and the result lie as they lay. -/
structure FuI (w : World) (Z s N M Q : Nat) (L : List Bool) (W : World) : Prop where
  below : Below w.heap.size w W
  mr : MR M N N L W
  c0 : W.cell? ⟨Q, 0, none⟩ = some (.int .i64 s)
  c1 : W.cell? ⟨Q, 1, none⟩ = some (.slice (some ⟨M, 0, none⟩) N N)
  r0 : W.cell? ⟨Z, 0, none⟩ = some (.int .i64 0)
  r1 : W.cell? ⟨Z, 1, none⟩ = some (.slice none 0 0)
  rz : ∀ j, W.frozen? ⟨Z, j, none⟩ = false
theorem FuI.fill {w W : World} {Z s N M Q j : Nat} {L : List Bool} {x : Bool} (k : FuI w Z s N M Q (fillL L j) W) (hx : L[j]? = some x) (hj : j < N) (hMQ : M ≠ Q) (hM : Z < M) (hZ : w.heap.size = Z) : FuI w Z s N M Q (fillL L (j + 1)) (W.setCell ⟨M, j, none⟩ (.bool x)) := by
  have o : ∀ b i, b ≠ M → (W.setCell ⟨M, j, none⟩ (.bool x)).cell? ⟨b, i, none⟩ = W.cell? ⟨b, i, none⟩ := fun b i hb => World.cell?_setCell_other _ _ _ _ (by intro he; simp only [Addr.mk.injEq] at he; exact hb he.1.symm)
  exact ⟨k.below.setCell (by simp only; omega) _, fill_set hx ▸ k.mr.set_ hj x, (o _ _ (Ne.symm hMQ)).trans k.c0, (o _ _ (Ne.symm hMQ)).trans k.c1, (o _ _ (by omega)).trans k.r0, (o _ _ (by omega)).trans k.r1, fun i => by simp [go_sem, k.rz]⟩
theorem FuI.start {w w2 V : World} {Z s N M : Nat} {L : List Bool} {t : TypeId} (h : w2.alloc (.cells #[.int .i64 s, .slice (some ⟨M, 0, none⟩) N N] t) = V) (hN : 0 < N) (hb : Below w.heap.size w w2) (hm : MR M N N L w2)
    (h0 : w2.cell? ⟨Z, 0, none⟩ = some (.int .i64 0)) (h1 : w2.cell? ⟨Z, 1, none⟩ = some (.slice none 0 0)) (hz : ∀ j, w2.frozen? ⟨Z, j, none⟩ = false) : FuI w Z s N M w2.heap.size L V ∧ M ≠ w2.heap.size := by
  subst h
  have hR := World.block_lt_of_cell? _ _ h0
  have hb2 : Below w2.heap.size w2 (w2.alloc (.cells #[.int .i64 s, .slice (some ⟨M, 0, none⟩) N N] t)) := by repeat (first | exact Below.refl _ _ | refine Below.alloc ?_ (by simp <;> omega) _ | refine bDrewN ?_ _ | refine Below.drew ?_)
  exact ⟨⟨hb.alloc hb.size _, hm.on hN hb2, by go_simp, by go_simp, (hb2.cell (p := ⟨_, 0, none⟩) hR).trans h0, (hb2.cell (p := ⟨_, 1, none⟩) hR).trans h1, fun j => (hb2.frozen (p := ⟨Z, j, none⟩) hR).trans (hz j)⟩, Nat.ne_of_lt (hm.lt hN)⟩
theorem rFull_no (n : Int) (w : World) (h : sideB n = false) : Calls Try.prog 22 #[.int .i64 n] w (OfNo w 7) := by
  have HI : Kp (∀ W, Calls Try.prog 78 #[.int .i64 n, .int .i64 1, .int .i64 10] W fun e w' => e = .returned (.bool false) ∧ W = w') := ⟨fun W => h ▸ rside_any n W⟩
  clear h
  go_enter Try.func22, Try.ntmps22
  go_wp2_with fail
  refine (HI.out _).mono ?_
  rintro en w1 ⟨rfl, rfl⟩
  go_wp2
  exact bodyPost_ret (v := .tuple #[.agg #[.int .i64 0, .slice none 0 0], .int .i64 7]) (by simp [results, Try.results22, go_sem]) rfl ⟨rfl, by repeat (first | exact Below.refl _ _ | refine Below.alloc ?_ (by simp <;> omega) _ | refine bDrewN ?_ _ | refine Below.drew ?_)⟩
set_option maxRecDepth 100000 in
set_option maxHeartbeats 1000000 in
theorem rFull_in (s N : Nat) (w : World) (h : sideB s = true) (hN : s * s * s = N) : Calls Try.prog 22 #[.int .i64 s] w fun en w' => ∃ r, en = .returned (.tuple #[r, .int .i64 0]) ∧ VF w.heap.size w' r s (List.replicate N true) ∧ Below w.heap.size w w' := by
  have hs := side_iff.1 h
  have hs1 : 1 ≤ s := by omega
  have hs2 : s ≤ 10 := by omega
  have HI : Kp (∀ W, Calls Try.prog 78 #[.int .i64 s, .int .i64 1, .int .i64 10] W fun e w' => e = .returned (.bool true) ∧ W = w') := ⟨fun W => h ▸ rside_any s W⟩
  have HE : Kp (∀ W, Calls Try.prog 81 #[.int .i64 s] W fun e w' => ∃ M, e = .returned (.agg #[.int .i64 s, .slice (some ⟨M, 0, none⟩) N N]) ∧ W.heap.size < M ∧ MR M N N (List.replicate N false) w' ∧ Below W.heap.size W w') := ⟨fun W => hN ▸ rempty_any s hs2 W⟩
  have HN : Kp (N ≤ 1000) := ⟨hN ▸ (cube_bd hs2).2⟩
  have HP : Kp (0 < N) := ⟨hN ▸ Nat.mul_pos (Nat.mul_pos hs1 hs1) hs1⟩
  obtain ⟨L, hL⟩ : ∃ L, List.replicate N true = L := ⟨_, rfl⟩
  have HLL : Kp (L.length = N) := ⟨by rw [← hL, List.length_replicate]⟩
  have HLA : Kp (∀ j, j < N → L[j]? = some true) := ⟨fun j hj => by rw [← hL, List.getElem?_replicate, if_pos hj]⟩
  rw [hL]
  clear h hs hs1 hs2 hN hL
  go_enter Try.func22, Try.ntmps22
  go_wp2_with fail
  refine (HI.out _).mono ?_
  rintro en w1 ⟨rfl, rfl⟩
  go_wp2_with fail
  refine (HE.out _).mono ?_
  rintro en w1 ⟨M, rfl, hM, hmr, hb1⟩
  have HM : Kp (w.heap.size < M) := ⟨by rw [World.size_alloc] at hM; omega⟩
  have HB1 : Kp (Below w.heap.size w w1) := ⟨Below.trans (by repeat (first | refine Below.alloc ?_ (by (try simp) <;> omega) _ | refine bDrewN ?_ _ | refine Below.drew ?_ | refine Below.setCell ?_ (by (try simp) <;> omega) _ | exact Below.refl _ _)) (hb1.mono (by (try simp) <;> omega))⟩
  have hz1_0 : w.heap.size < w1.heap.size := by have := hb1.size; (try simp at this); omega
  obtain ⟨hc, hf⟩ := bcell hb1
  have c1_0_0 : w1.cell? ⟨w.heap.size, 0, none⟩ = some (.int .i64 0) := (hc _ _ (by (try simp) <;> omega)).trans (by go_simp)
  have c1_0_1 : w1.cell? ⟨w.heap.size, 1, none⟩ = some ((.slice none 0 0)) := (hc _ _ (by (try simp) <;> omega)).trans (by go_simp)
  have z1_0 : ∀ j, w1.frozen? ⟨w.heap.size, j, none⟩ = false := fun j => (hf _ _ (by (try simp) <;> omega)).trans (by go_simp)
  clear hc hf hb1
  go_wp2
  obtain ⟨W3, hW3⟩ : ∃ W3, w1.alloc (.cells #[.int .i64 s, .slice (some ⟨M, 0, none⟩) N N] 24) = W3 := ⟨_, rfl⟩
  rw [hW3]
  obtain ⟨hji, hne⟩ := FuI.start (w := w) hW3 HP.out HB1.out hmr c1_0_0 c1_0_1 z1_0
  rw [← HLL.out, ← fill_zero, HLL.out] at hji
  have HJ := Kp.mk hji
  have HNE := Kp.mk hne
  have p4 := hji.c1
  clear hW3 hji hne hmr hM c1_0_0 c1_0_1 z1_0 hz1_0 HB1 HE HI
  generalize w1.heap.size = Q at *
  go_wp2
  clear p4
  go_loopw [15] (fun i wr => ∃ j : Nat, j ≤ N ∧ i = .int .i64 j ∧ Kp (FuI w w.heap.size s N M Q (fillL L j) wr)) (fun i _ => N - (intOf i).toNat)
  case atStart => exact ⟨0, Nat.zero_le _, rfl, HJ⟩
  case round =>
    clear HJ
    obtain ⟨j, hj, rfl, HJ⟩ := hrel
    by_cases hlt : j < N
    · have HX := Kp.mk (HLA.out j hlt)
      have o1 : (j : Int) < (N : Int) := by omega
      have o4 : j ≤ 1000 := by have := HN.out; omega
      have HJL := Kp.mk hlt
      have p4 := HJ.out.c1
      have a3 := HJ.out.mr.cell (fill_at (L := L) (k := j) (by rw [HLL.out]; exact HJL.out))
      have a4 := HJ.out.mr.z j
      go_wp2
      go_roundw
      case rel => exact ⟨j + 1, by omega, by go_num, ⟨HJ.out.fill HX.out HJL.out HNE.out HM.out rfl⟩⟩
      case measure => simp [intOf]; omega
    · have hjn : j = N := by omega
      subst hjn
      have hJ := HJ.out
      rw [← HLL.out, fill_all, HLL.out] at hJ
      have HJ2 := Kp.mk hJ
      have p3 := hJ.c0
      have p4 := hJ.c1
      have p5 := hJ.r0
      have p6 := hJ.r1
      have p7 := hJ.rz
      have o2 : ¬ (j : Int) < (j : Int) := by omega
      clear hJ HJ
      go_wp2
      refine bodyPost_ret (v := .tuple #[.agg #[.int .i64 s, .slice (some ⟨M, 0, none⟩) j j], .int .i64 0]) ?_ rfl ?_
      · simp [results, Try.results22, go_sem, p5, p6]
      have g1 := setCell_grown wr w.heap.size 0 (.int .i64 s)
      have g2 := setCell_grown (wr.setCell ⟨w.heap.size, 0, none⟩ (.int .i64 s)) w.heap.size 1 (.slice (some ⟨M, 0, none⟩) j j)
      have hne : some M ≠ some w.heap.size := fun e => by have := HM.out; simp only [Option.some.injEq] at e; omega
      have hM := HJ2.out.mr.lt HP.out
      exact ⟨_, rfl, ⟨_, rfl, (HJ2.out.mr.same (Nat.le_trans g1.size g2.size) ((g2.block M (Nat.lt_of_lt_of_le hM g1.size) hne).trans (g1.block M hM hne))).fb (Nat.le_of_lt HM.out)⟩, (HJ2.out.below.setCell (Nat.le_refl _) _).setCell (Nat.le_refl _) _⟩
theorem rFull_any (n : Int) (w : World) : Calls Try.prog 22 #[.int .i64 n] w fun en w' => ∃ r, en = .returned (.tuple #[r, .int .i64 (fullE n)]) ∧ VB w' r (fullS n) (fullL n) ∧ Below w.heap.size w w' := by
  unfold fullE fullS fullL
  cases h : sideB n with
  | false =>
    rw [if_neg (by decide), if_neg (by decide), if_neg (by decide)]
    exact (rFull_no n w h).mono fun en w' ⟨ha, hb⟩ => ⟨_, ha, VB.nil _, hb⟩
  | true =>
    have hs := side_iff.1 h
    obtain ⟨s, rfl⟩ : ∃ s : Nat, n = s := ⟨n.toNat, by omega⟩
    rw [if_pos rfl, if_pos rfl, if_pos rfl, Int.toNat_natCast, List.map_const', places_len]
    exact (rFull_in s _ w h rfl).mono fun en w' ⟨r, ha, hv, hb⟩ => ⟨r, ha, hv.vb, hb⟩
theorem rGrains_any (n : Int) (u : Value) (h : List Bool) (w : World) (hu : LB w u h) :
    Calls Try.prog 27 #[.agg #[.int .i64 n, u]] w fun e w' => ∃ r, e = .returned (.tuple #[r, .int .i64 (grnE n h)]) ∧ (∃ B0, w.heap.size ≤ B0 ∧ OwnG w' B0 r (grnL n h)) ∧ Below w.heap.size w w' := by
  cases hb : blockB n h.length with
  | false =>
    have e1 : grnE n h = 1 := by unfold grnE; rw [hb]; rfl
    have e2 : grnL n h = [] := by unfold grnL; rw [hb]; rfl
    rw [e1, e2]
    obtain ⟨g1, c1, rfl⟩ := hu.shape
    exact (rGrains_inv n g1 h.length c1 w hb).mono fun en w' ⟨ha, hbw⟩ => ⟨_, ha, ⟨_, Nat.le_refl _, OwnG.nil _ _⟩, hbw⟩
  | true =>
    have hb2 := hb
    unfold blockB at hb2
    rw [Bool.and_eq_true, decide_eq_true_eq] at hb2
    have hs := side_iff.1 hb2.1
    obtain ⟨s, rfl⟩ : ∃ s : Nat, n = s := ⟨n.toNat, by omega⟩
    have e1 : grnE s h = 0 := by unfold grnE; rw [hb]; rfl
    have e2 : grnL s h = grainsL s h := by unfold grnL; rw [hb]; rfl
    rw [e1, e2]
    exact rGrains_in s u h w hu (by omega) (by omega) (by have := hb2.2; rw [← Int.natCast_mul, ← Int.natCast_mul] at this; exact Int.ofNat.inj this) hb
theorem count_any (n : Int) (u : Value) (h : List Bool) (w : World) (hu : LB w u h) :
    Calls Try.prog 23 #[.agg #[.int .i64 n, u]] w fun e w' => e = .returned (.tuple #[.int .i64 (grnL n h).length, .int .i64 (grnE n h)]) ∧ Below w.heap.size w w' := by
  have HG : Kp (∀ W, Below w.heap.size w W → Calls Try.prog 26 #[.agg #[.int .i64 n, u]] W fun e w' => ∃ r, e = .returned (.tuple #[r, .int .i64 (grnE n h)]) ∧ (∃ B0, W.heap.size ≤ B0 ∧ OwnG w' B0 r (grnL n h)) ∧ Below W.heap.size W w') := ⟨fun W hW => Grains_any n u h W (hu.below hW)⟩
  obtain ⟨g, c, rfl⟩ := hu.shape
  obtain ⟨L, hL⟩ : ∃ L, grnL n h = L := ⟨_, rfl⟩
  obtain ⟨E, hE⟩ : ∃ E, grnE n h = E := ⟨_, rfl⟩
  obtain ⟨N, hN⟩ : ∃ N, h.length = N := ⟨_, rfl⟩
  rw [hL, hE, hN] at HG
  rw [hL, hE, hN]
  clear hu hL hE hN
  go_enter Try.func23, Try.ntmps23
  go_wp2_with fail
  refine (HG.out _ (by repeat (first | exact Below.refl _ _ | refine Below.alloc ?_ (by simp <;> omega) _ | refine bDrewN ?_ _ | refine Below.drew ?_))).mono ?_
  rintro en w1 ⟨r, rfl, ⟨B0, -, ho⟩, hb1⟩
  obtain ⟨gr, cr, rfl⟩ := ho.gs.shape
  have HB1 : Kp (Below w.heap.size w w1) := ⟨Below.trans (by repeat (first | exact Below.refl _ _ | refine Below.alloc ?_ (by simp <;> omega) _ | refine bDrewN ?_ _ | refine Below.drew ?_)) (hb1.mono (by simp <;> omega))⟩
  clear ho hb1
  go_wp2
  go_ret2
  exact ⟨rfl, HB1.out⟩
theorem rcount_any (n : Int) (u : Value) (h : List Bool) (w : World) (hu : LB w u h) :
    Calls Try.prog 24 #[.agg #[.int .i64 n, u]] w fun e w' => e = .returned (.tuple #[.int .i64 (grnL n h).length, .int .i64 (grnE n h)]) ∧ Below w.heap.size w w' := by
  have HG : Kp (∀ W, Below w.heap.size w W → Calls Try.prog 27 #[.agg #[.int .i64 n, u]] W fun e w' => ∃ r, e = .returned (.tuple #[r, .int .i64 (grnE n h)]) ∧ (∃ B0, W.heap.size ≤ B0 ∧ OwnG w' B0 r (grnL n h)) ∧ Below W.heap.size W w') := ⟨fun W hW => rGrains_any n u h W (hu.below hW)⟩
  obtain ⟨g, c, rfl⟩ := hu.shape
  obtain ⟨L, hL⟩ : ∃ L, grnL n h = L := ⟨_, rfl⟩
  obtain ⟨E, hE⟩ : ∃ E, grnE n h = E := ⟨_, rfl⟩
  obtain ⟨N, hN⟩ : ∃ N, h.length = N := ⟨_, rfl⟩
  rw [hL, hE, hN] at HG
  rw [hL, hE, hN]
  clear hu hL hE hN
  go_enter Try.func24, Try.ntmps24
  go_wp2_with fail
  refine (HG.out _ (by repeat (first | exact Below.refl _ _ | refine Below.alloc ?_ (by simp <;> omega) _ | refine bDrewN ?_ _ | refine Below.drew ?_))).mono ?_
  rintro en w1 ⟨r, rfl, ⟨B0, -, ho⟩, hb1⟩
  obtain ⟨gr, cr, rfl⟩ := ho.gs.shape
  have HB1 : Kp (Below w.heap.size w w1) := ⟨Below.trans (by repeat (first | exact Below.refl _ _ | refine Below.alloc ?_ (by simp <;> omega) _ | refine bDrewN ?_ _ | refine Below.drew ?_)) (hb1.mono (by simp <;> omega))⟩
  clear ho hb1
  go_wp2
  go_ret2
  exact ⟨rfl, HB1.out⟩
set_option maxHeartbeats 1000000 in
theorem rsameG_yes (v u : Value) (l : List Gr) (w : World) (hm : l.length ≤ 100000) (h1 : GS w v l) (h2 : GS w u l) :
    Calls Try.prog 30 #[v, u] w fun e w' => e = .returned (.bool true) ∧ ∃ n, w' = w.drewN n := by
  obtain ⟨g, cap, rfl, -, hc1⟩ := h1
  obtain ⟨g', cap', rfl, -, hc2⟩ := h2
  have H1 := Lib.hid hc1
  have H2 := Lib.hid hc2
  have HM := Kp.mk hm
  clear hc1 hc2 hm
  have hlen : ((l.length : Int) != (l.length : Int)) = false := by simp
  go_enter Try.func30, Try.ntmps30
  go_wp2
  go_loopw [13] (fun i wr => ∃ k : Nat, k ≤ l.length ∧ i = .int .i64 (k : Int) ∧ ∃ n, wr = w.drewN n) (fun i _ => l.length - (intOf i).toNat)
  case atStart => exact ⟨0, Nat.zero_le _, rfl, 0, rfl⟩
  case round =>
    obtain ⟨k, hk, rfl, n, rfl⟩ := hrel
    by_cases hlt : k < l.length
    · obtain ⟨x, hx⟩ : ∃ x, l[k]? = some x := ⟨l[k], List.getElem?_eq_getElem hlt⟩
      obtain ⟨b, o, hg, hbl, a1, a2, a3⟩ := H1.out k x hx
      obtain ⟨b', o', hg', hbl', d1, d2, d3⟩ := H2.out k x hx
      subst hg
      subst hg'
      have o1 : (k : Int) < (l.length : Int) := by omega
      have o4 : k ≤ 100000 := by have := HM.out; omega
      clear hx hbl hbl'
      go_wp2_with fail
      go_quiet (fail)
      go_wp2
      go_roundw
      case rel => exact ⟨k + 1, by omega, by go_num, _, rfl⟩
      case measure => simp [intOf]; omega
    · have hkl : k = l.length := by omega
      have HK := Lib.hid hkl
      clear hkl
      go_wp2
      go_ret
      exact ⟨rfl, n, rfl⟩
theorem rsameV_yes (n : Int) (v u : Value) (h : List Bool) (w : World) (hm : h.length ≤ 4611686018427387904) (hv : LB w v h) (hu : LB w u h) :
    Calls Try.prog 31 #[.agg #[.int .i64 n, v], .agg #[.int .i64 n, u]] w fun e w' => e = .returned (.bool true) ∧ Below w.heap.size w w' := by
  have HS : Kp (∀ W, Below w.heap.size w W → Calls Try.prog 25 #[.agg #[.int .i64 n, v], .agg #[.int .i64 n, u]] W fun e w' => e = .returned (.bool true) ∧ Below W.heap.size W w') := ⟨fun W hW => rsame_yes n v u h W hm (hv.below hW) (hu.below hW)⟩
  obtain ⟨g, c, rfl⟩ := hv.shape
  obtain ⟨g2, c2, rfl⟩ := hu.shape
  clear hv hu hm
  go_enter Try.func31, Try.ntmps31
  go_wp2_with fail
  refine (HS.out _ (by repeat (first | exact Below.refl _ _ | refine Below.alloc ?_ (by simp <;> omega) _ | refine bDrewN ?_ _ | refine Below.drew ?_))).mono ?_
  rintro en w1 ⟨rfl, hb1⟩
  have HB1 : Kp (Below w.heap.size w w1) := ⟨Below.trans (by repeat (first | exact Below.refl _ _ | refine Below.alloc ?_ (by simp <;> omega) _ | refine bDrewN ?_ _ | refine Below.drew ?_)) (hb1.mono (by simp <;> omega))⟩
  clear hb1
  go_wp2
  go_ret
  exact ⟨rfl, HB1.out⟩
end Go.Proofs.Yticcafjogmjkiaa.Cv
