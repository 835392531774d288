/-
  WALKS (layer 5, carve): the full block, counts, equal rows of grains and equal views, by the reference.
-/
import Derived.Test.YtcjlijiifhggfaaCvRefI
import Derived.Test.YtcjlijiifhggfaaCvRefG
namespace Go.Proofs.Ytcjlijiifhggfaa.Cv
open Go Go.RowKit Go.Sort

/-- The row that is filled lies in a block of its own; the made block and the result lie as they lay. -/
structure FuI (w : World) (Z s N M Q : Nat) (L : List Bool) (W : World) : Prop where
  below : Below w.heap.size w W
  mr : MR M N N L W
  c0 : W.cell? ⟨Q, 0, none⟩ = some (.int .i64 s)
  c1 : W.cell? ⟨Q, 1, none⟩ = some (.slice (some ⟨M, 0, none⟩) N N)
  r0 : W.cell? ⟨Z, 0, none⟩ = some (.int .i64 0)
  r1 : W.cell? ⟨Z, 1, none⟩ = some (.slice none 0 0)
  rz : ∀ j, W.frozen? ⟨Z, j, none⟩ = false
theorem FuI.fill {w W : World} {Z s N M Q j : Nat} {L : List Bool} {x : Bool} (k : FuI w Z s N M Q (fillL L j) W) (hx : L[j]? = some x) (hj : j < N) (hMQ : M ≠ Q) (hM : Z < M) (hZ : w.heap.size = Z) : FuI w Z s N M Q (fillL L (j + 1)) (W.setCell ⟨M, j, none⟩ (.bool x)) := by
  have o : ∀ b i, b ≠ M → (W.setCell ⟨M, j, none⟩ (.bool x)).cell? ⟨b, i, none⟩ = W.cell? ⟨b, i, none⟩ := fun b i hb => World.cell?_setCell_other _ _ _ _ (by intro he; simp only [Addr.mk.injEq] at he; exact hb he.1.symm)
  exact ⟨k.below.setCell (by simp only; omega) _, fill_set hx ▸ k.mr.set_ hj x, (o _ _ (Ne.symm hMQ)).trans k.c0, (o _ _ (Ne.symm hMQ)).trans k.c1, (o _ _ (by omega)).trans k.r0, (o _ _ (by omega)).trans k.r1, fun i => by simp [go_sem, k.rz]⟩
theorem FuI.start {w w2 V : World} {Z s N M : Nat} {L : List Bool} {t : TypeId} (h : w2.alloc (.cells #[.int .i64 s, .slice (some ⟨M, 0, none⟩) N N] t) = V) (hN : 0 < N) (hb : Below w.heap.size w w2) (hm : MR M N N L w2)
    (h0 : w2.cell? ⟨Z, 0, none⟩ = some (.int .i64 0)) (h1 : w2.cell? ⟨Z, 1, none⟩ = some (.slice none 0 0)) (hz : ∀ j, w2.frozen? ⟨Z, j, none⟩ = false) : FuI w Z s N M w2.heap.size L V ∧ M ≠ w2.heap.size := by
  subst h
  have hR := World.block_lt_of_cell? _ _ h0
  have hb2 : Below w2.heap.size w2 (w2.alloc (.cells #[.int .i64 s, .slice (some ⟨M, 0, none⟩) N N] t)) := by repeat (first | exact Below.refl _ _ | refine Below.alloc ?_ (by simp <;> omega) _ | refine bDrewN ?_ _ | refine Below.drew ?_)
  exact ⟨⟨hb.alloc hb.size _, hm.on hN hb2, by go_simp, by go_simp, (hb2.cell (p := ⟨_, 0, none⟩) hR).trans h0, (hb2.cell (p := ⟨_, 1, none⟩) hR).trans h1, fun j => (hb2.frozen (p := ⟨Z, j, none⟩) hR).trans (hz j)⟩, Nat.ne_of_lt (hm.lt hN)⟩
theorem count_any (n : Int) (u : Value) (h : List Bool) (w : World) (hu : LB w u h) :
    Calls Try.prog 26 #[.agg #[.int .i64 n, u]] w fun e w' => e = .returned (.tuple #[.int .i64 (grnL n h).length, .int .i64 (grnE n h)]) ∧ Below w.heap.size w w' := by
  have HG : Kp (∀ W, Below w.heap.size w W → Calls Try.prog 27 #[.agg #[.int .i64 n, u]] W fun e w' => ∃ r, e = .returned (.tuple #[r, .int .i64 (grnE n h)]) ∧ (∃ B0, W.heap.size ≤ B0 ∧ OwnG w' B0 r (grnL n h)) ∧ Below W.heap.size W w') := ⟨fun W hW => Grains_any n u h W (hu.below hW)⟩
  obtain ⟨g, c, rfl⟩ := hu.shape
  obtain ⟨L, hL⟩ : ∃ L, grnL n h = L := ⟨_, rfl⟩
  obtain ⟨E, hE⟩ : ∃ E, grnE n h = E := ⟨_, rfl⟩
  obtain ⟨N, hN⟩ : ∃ N, h.length = N := ⟨_, rfl⟩
  rw [hL, hE, hN] at HG
  rw [hL, hE, hN]
  clear hu hL hE hN
  go_enter Try.func26, Try.ntmps26
  go_wp2_with fail
  refine (HG.out _ (by repeat (first | exact Below.refl _ _ | refine Below.alloc ?_ (by simp <;> omega) _ | refine bDrewN ?_ _ | refine Below.drew ?_))).mono ?_
  rintro en w1 ⟨r, rfl, ⟨B0, -, ho⟩, hb1⟩
  obtain ⟨gr, cr, rfl⟩ := ho.gs.shape
  have HB1 : Kp (Below w.heap.size w w1) := ⟨Below.trans (by repeat (first | exact Below.refl _ _ | refine Below.alloc ?_ (by simp <;> omega) _ | refine bDrewN ?_ _ | refine Below.drew ?_)) (hb1.mono (by simp <;> omega))⟩
  clear ho hb1
  go_wp2
  go_ret2
  exact ⟨rfl, HB1.out⟩
set_option maxHeartbeats 1000000 in
theorem rsameG_yes (v u : Value) (l : List Gr) (w : World) (hm : l.length ≤ 100000) (h1 : GS w v l) (h2 : GS w u l) :
    Calls Try.prog 21 #[v, u] w fun e w' => e = .returned (.bool true) ∧ ∃ n, w' = w.drewN n := by
  obtain ⟨g, cap, rfl, -, hc1⟩ := h1
  obtain ⟨g', cap', rfl, -, hc2⟩ := h2
  have H1 := Lib.hid hc1
  have H2 := Lib.hid hc2
  have HM := Kp.mk hm
  clear hc1 hc2 hm
  have hlen : ((l.length : Int) != (l.length : Int)) = false := by simp
  go_enter Try.func21, Try.ntmps21
  go_wp2
  go_loopw [13] (fun i wr => ∃ k : Nat, k ≤ l.length ∧ i = .int .i64 (k : Int) ∧ ∃ n, wr = w.drewN n) (fun i _ => l.length - (intOf i).toNat)
  case atStart => exact ⟨0, Nat.zero_le _, rfl, 0, rfl⟩
  case round =>
    obtain ⟨k, hk, rfl, n, rfl⟩ := hrel
    by_cases hlt : k < l.length
    · obtain ⟨x, hx⟩ : ∃ x, l[k]? = some x := ⟨l[k], List.getElem?_eq_getElem hlt⟩
      obtain ⟨b, o, hg, hbl, a1, a2, a3⟩ := H1.out k x hx
      obtain ⟨b', o', hg', hbl', d1, d2, d3⟩ := H2.out k x hx
      subst hg
      subst hg'
      have o1 : (k : Int) < (l.length : Int) := by omega
      have o4 : k ≤ 100000 := by have := HM.out; omega
      clear hx hbl hbl'
      go_wp2_with fail
      go_quiet (fail)
      go_wp2
      go_roundw
      case rel => exact ⟨k + 1, by omega, by go_num, _, rfl⟩
      case measure => simp [intOf]; omega
    · have hkl : k = l.length := by omega
      have HK := Lib.hid hkl
      clear hkl
      go_wp2
      go_ret
      exact ⟨rfl, n, rfl⟩
theorem rsameV_yes (n : Int) (v u : Value) (h : List Bool) (w : World) (hm : h.length ≤ 4611686018427387904) (hv : LB w v h) (hu : LB w u h) :
    Calls Try.prog 30 #[.agg #[.int .i64 n, v], .agg #[.int .i64 n, u]] w fun e w' => e = .returned (.bool true) ∧ Below w.heap.size w w' := by
  have HS : Kp (∀ W, Below w.heap.size w W → Calls Try.prog 14 #[.agg #[.int .i64 n, v], .agg #[.int .i64 n, u]] W fun e w' => e = .returned (.bool true) ∧ Below W.heap.size W w') := ⟨fun W hW => rsame_yes n v u h W hm (hv.below hW) (hu.below hW)⟩
  obtain ⟨g, c, rfl⟩ := hv.shape
  obtain ⟨g2, c2, rfl⟩ := hu.shape
  clear hv hu hm
  go_enter Try.func30, Try.ntmps30
  go_wp2_with fail
  refine (HS.out _ (by repeat (first | exact Below.refl _ _ | refine Below.alloc ?_ (by simp <;> omega) _ | refine bDrewN ?_ _ | refine Below.drew ?_))).mono ?_
  rintro en w1 ⟨rfl, hb1⟩
  have HB1 : Kp (Below w.heap.size w w1) := ⟨Below.trans (by repeat (first | exact Below.refl _ _ | refine Below.alloc ?_ (by simp <;> omega) _ | refine bDrewN ?_ _ | refine Below.drew ?_)) (hb1.mono (by simp <;> omega))⟩
  clear hb1
  go_wp2
  go_ret
  exact ⟨rfl, HB1.out⟩
end Go.Proofs.Ytcjlijiifhggfaa.Cv
