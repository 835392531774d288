/-
  WALKS (layer 8, pest): what leaves each room.
-/
import Derived.Test.YthkamfjjfkpekaaPeAmt
import Derived.StillTailTactics
namespace Go.Proofs.Ythkamfjjfkpekaa.Pe
open Go Go.RowKit Go.Proofs Go.Sort

theorem region_tail {P : Program} {id : Nat} {Q : Exit → Act → World → Prop} {a : Act} {w : World} {l : List Oper} (n : Nat) (hm : P.follows .mixedOrders = true) (hB : Region.lexTailB .any l.toArray n = true)
    (h : ∀ w1, w1 = w.drew → wpStill P l.toArray w1 (fun a' => wpList P l.toArray Q (l.drop n) a' w1) (l.take n) a) : (Code.region id l.toArray true).wp P Q a w :=
  wp_region_still_tail n hm hB (h _ rfl)
/-- An array of numbers in a block of its own. -/
structure Row (T : TypeId) (W : World) (b : Nat) (L : List Int) : Prop where
  at_ : W.heap[b]? = some (.cells (ivs L) T (0, 0))
theorem Row.same {T : TypeId} {W V : World} {b : Nat} {L : List Int} (h : Row T W b L) (hb : V.heap[b]? = W.heap[b]?) : Row T V b L := ⟨hb.trans h.at_⟩
theorem Row.cell {T : TypeId} {W : World} {b i : Nat} {L : List Int} {x : Int} (h : Row T W b L) (hx : L[i]? = some x) : W.cell? ⟨b, i, none⟩ = some (.int .i64 x) := by
  rw [cell_of_row W b i _ T _ h.at_]
  simp [ivs, hx]
theorem Row.fz {T : TypeId} {W : World} {b i : Nat} {L : List Int} (h : Row T W b L) : W.frozen? ⟨b, i, none⟩ = false := by
  simp [World.frozen?, h.at_]
theorem Row.lt {T : TypeId} {W : World} {b : Nat} {L : List Int} (h : Row T W b L) : b < W.heap.size := (Array.getElem?_eq_some_iff.1 h.at_).1
theorem Row.on {T : TypeId} {W V : World} {b : Nat} {L : List Int} (h : Row T W b L) (hb : Below W.heap.size W V) : Row T V b L := h.same (hb.block _ h.lt)
theorem Row.put {T : TypeId} {W : World} {b i : Nat} {L : List Int} (h : Row T W b L) (x : Int) : Row T (W.setCell ⟨b, i, none⟩ (.int .i64 x)) b (L.set i x) := by
  have h1 := h.at_
  refine ⟨?_⟩
  unfold World.setCell
  simp only [Array.getElem?_modify, h1, if_true, Option.map_some]
  simp [ivs, List.map_set]
theorem Row.away {T : TypeId} {W : World} {b c i : Nat} {L : List Int} (h : Row T W b L) (hc : b ≠ c) (v : Value) : Row T (W.setCell ⟨c, i, none⟩ v) b L := h.same (Below.heap_setCell W ⟨c, i, none⟩ v b hc)
theorem wp_world {P : Program} {cd : Code} {Q : Exit → Act → World → Prop} {a : Act} {W0 W1 : World} (h : W0 = W1) (H : cd.wp P Q a W1) : cd.wp P Q a W0 := h ▸ H
/-- What the walk keeps: the amounts, the answer's own place, the row that grows. -/
structure LV (w : World) (Z : Nat) (fl ol : List Int) (W : World) : Prop where
  below : Below w.heap.size w W
  fr : Row 83 W (Z + 1) fl
  rr : W.heap[Z + 2]? = some (.cells (List.replicate 12 (Value.int .i64 0)).toArray 105 (0, 0))
  orow : Row 105 W (Z + 3) ol
theorem LV.on {w W V : World} {Z : Nat} {fl ol : List Int} (h : LV w Z fl ol W) (hb : Below W.heap.size W V) : LV w Z fl ol V :=
  ⟨h.below.trans (hb.mono h.below.size), h.fr.on hb, (hb.block _ (Array.getElem?_eq_some_iff.1 h.rr).1).trans h.rr, h.orow.on hb⟩
theorem LV.put {w W : World} {Z i : Nat} {fl ol : List Int} (h : LV w Z fl ol W) (hZ : w.heap.size = Z) (x : Int) : LV w Z fl (ol.set i x) (W.setCell ⟨Z + 3, i, none⟩ (.int .i64 x)) :=
  ⟨h.below.setCell (by simp only; omega) _, h.fr.away (by omega) _, (Below.heap_setCell W ⟨Z + 3, i, none⟩ _ (Z + 2) (by simp only; omega)).trans h.rr, h.orow.put x⟩
theorem leav_start {w W0 : World} {R x y : Int} {v : Value} {fl : List Int} {t : TypeId}
    (h0 : ((((w.alloc (.cells #[.int .i64 R, v, .int .i64 x, .int .i64 y] t)).alloc (.cells (ivs fl) 83)).alloc (.cells (List.replicate 12 (Value.int .i64 0)).toArray 105)).alloc (.cells (List.replicate 12 (Value.int .i64 0)).toArray 105)) = W0) :
    W0.heap.size = w.heap.size + 4 ∧ LV w w.heap.size fl (List.replicate 12 0) W0 := by
  subst h0
  refine ⟨by simp, ⟨by repeat (first | exact Below.refl _ _ | refine Below.alloc ?_ (by simp <;> omega) _ | refine bDrewN ?_ _ | refine Below.drew ?_), ⟨?_⟩, ?_, ⟨?_⟩⟩⟩
  · have h := heap_alloc_last (w.alloc (.cells #[.int .i64 R, v, .int .i64 x, .int .i64 y] t)) (.cells (ivs fl) 83)
    rw [World.size_alloc] at h
    exact (Below.heap_alloc _ _ _ (by simp)).trans ((Below.heap_alloc _ _ _ (by simp)).trans h)
  · have h := heap_alloc_last ((w.alloc (.cells #[.int .i64 R, v, .int .i64 x, .int .i64 y] t)).alloc (.cells (ivs fl) 83)) (.cells (List.replicate 12 (Value.int .i64 0)).toArray 105)
    rw [World.size_alloc, World.size_alloc] at h
    exact (Below.heap_alloc _ _ _ (by simp)).trans h
  · have h := heap_alloc_last (((w.alloc (.cells #[.int .i64 R, v, .int .i64 x, .int .i64 y] t)).alloc (.cells (ivs fl) 83)).alloc (.cells (List.replicate 12 (Value.int .i64 0)).toArray 105)) (.cells (List.replicate 12 (Value.int .i64 0)).toArray 105)
    rw [World.size_alloc, World.size_alloc, World.size_alloc] at h
    rw [h]
    simp [ivs]
/-- What has left each room through the first doors. -/
def leavF (ds : List Dr) (fl : List Int) : Nat → List Int
  | 0 => List.replicate 12 0
  | k + 1 =>
    let o := leavF ds fl k
    let d := ds.getD k default
    let o1 := o.set d.a.toNat (o.getD d.a.toNat 0 + fl.getD k 0)
    o1.set d.b.toNat (o1.getD d.b.toNat 0 - fl.getD k 0)
theorem leavF_len (ds : List Dr) (fl : List Int) : ∀ k : Nat, (leavF ds fl k).length = 12
  | 0 => rfl
  | k + 1 => by
    unfold leavF
    rw [List.length_set, List.length_set]
    exact leavF_len ds fl k
theorem getD_set (l : List Int) (i j : Nat) (x : Int) : (l.set i x).getD j 0 = if i = j ∧ j < l.length then x else l.getD j 0 := by
  rw [List.getD_eq_getElem?_getD, List.getD_eq_getElem?_getD, List.getElem?_set]
  by_cases h : i = j
  · subst h
    by_cases h2 : i < l.length
    · simp [h2]
    · simp [h2]
  · simp [h]
theorem leavF_bd {ds : List Dr} {fl : List Int} {n : Nat} (hf : ∀ k : Nat, k < n → -1000 ≤ fl.getD k 0 ∧ fl.getD k 0 ≤ 1000) (j : Nat) : ∀ k : Nat, k ≤ n → -(2000 * (k : Int)) ≤ (leavF ds fl k).getD j 0 ∧ (leavF ds fl k).getD j 0 ≤ 2000 * (k : Int)
  | 0, _ => by
    have : (leavF ds fl 0).getD j 0 = 0 := by
      show (List.replicate 12 (0 : Int)).getD j 0 = 0
      rw [List.getD_eq_getElem?_getD, List.getElem?_replicate]
      split <;> rfl
    omega
  | k + 1, hk => by
    have ih := leavF_bd hf j k (by omega) (ds := ds)
    have iha := leavF_bd hf (ds.getD k default).a.toNat k (by omega) (ds := ds)
    have ihb := leavF_bd hf (ds.getD k default).b.toNat k (by omega) (ds := ds)
    have hk := hf k (by omega)
    unfold leavF
    simp only [getD_set]
    split
    · split <;> omega
    · split <;> omega
set_option maxRecDepth 100000 in
set_option maxHeartbeats 2000000 in
theorem leaving_any (R x y : Int) (v : Value) (ds : List Dr) (fl : List Int) (w : World) (hv : DS w v ds) (hl : ds.length ≤ 40) (hfl : fl.length = 40) (hf : ∀ k : Nat, k < ds.length → -1000 ≤ fl.getD k 0 ∧ fl.getD k 0 ≤ 1000) (hd : DoorsIn ds) :
    Calls Try.prog 96 #[.agg #[.int .i64 R, v, .int .i64 x, .int .i64 y], .agg (ivs fl)] w fun e w' => e = .returned (.agg (ivs (leavF ds fl ds.length))) ∧ Below w.heap.size w w' := by
  obtain ⟨g, c, rfl, hi⟩ := hv
  have HS := Kp.mk hi
  obtain ⟨N, hN⟩ : ∃ N, ds.length = N := ⟨_, rfl⟩
  have HN := Kp.mk hN
  have HFL := Kp.mk hfl
  have HF := Kp.mk hf
  have HD := Kp.mk hd
  have HBD := Kp.mk (fun j k (hk : k ≤ ds.length) => leavF_bd (ds := ds) hf j k hk)
  have HLL := Kp.mk (leavF_len ds fl)
  rw [hN] at hl HF HBD ⊢
  clear hi hN hf hd hfl
  go_enter Try.func96, Try.ntmps96
  go_wp2
  obtain ⟨W1, hW1⟩ : ∃ W, (((w.alloc (.cells #[.int .i64 R, .slice g N c, .int .i64 x, .int .i64 y] 24)).alloc (.cells (ivs fl) 83)).alloc (.cells (List.replicate 12 (Value.int .i64 0)).toArray 105)).alloc (.cells (List.replicate 12 (Value.int .i64 0)).toArray 105) = W := ⟨_, rfl⟩
  refine wp_world hW1 ?_
  obtain ⟨hz1, hlv⟩ := leav_start hW1
  obtain ⟨Z, hZ⟩ : ∃ Z, w.heap.size = Z := ⟨_, rfl⟩
  have HZ := Kp.mk hZ
  rw [hZ] at hlv hz1
  have HL0 : Kp (LV w Z fl (leavF ds fl 0) W1) := ⟨hlv⟩
  try simp only [hZ]
  simp only [Nat.add_assoc, Nat.reduceAdd]
  clear hW1 hlv hZ hz1
  go_loopw [11] (fun i wr => ∃ k : Nat, k ≤ N ∧ i = .int .i64 k ∧ Kp (LV w Z fl (leavF ds fl k) wr)) (fun i _ => N - (intOf i).toNat)
  case atStart => exact ⟨0, Nat.zero_le _, rfl, HL0⟩
  case round =>
    clear HL0
    obtain ⟨k, hk, rfl, HL⟩ := hrel
    by_cases hlt : k < N
    · obtain ⟨d, hx⟩ : ∃ d, ds[k]? = some d := ⟨_, List.getElem?_eq_getElem (by rw [HN.out]; exact hlt)⟩
      obtain ⟨f, hfx⟩ : ∃ f, fl[k]? = some f := ⟨_, List.getElem?_eq_getElem (by rw [HFL.out]; omega)⟩
      have hxd : ds.getD k default = d := by rw [List.getD_eq_getElem?_getD, hx]; rfl
      have hfd : fl.getD k 0 = f := by rw [List.getD_eq_getElem?_getD, hfx]; rfl
      obtain ⟨b, o, hg, h1, h2, h3⟩ := HS.out k d hx
      subst hg
      obtain ⟨q1, q2, q3, q4⟩ := HD.out d (List.mem_of_getElem? hx)
      obtain ⟨da, db, dc⟩ := d
      simp only at h1 h2 h3 q1 q2 q3 q4
      obtain ⟨a, rfl⟩ := Int.eq_ofNat_of_zero_le q1
      obtain ⟨e, rfl⟩ := Int.eq_ofNat_of_zero_le q3
      have hbl : b < w.heap.size := World.block_lt_of_cell? _ _ h1
      have c1 := (HL.out.below.cell (p := ⟨b, o + k * 3, none⟩) hbl).trans h1
      have c2 := (HL.out.below.cell (p := ⟨b, o + k * 3 + 1, none⟩) hbl).trans h2
      have c3 := (HL.out.below.cell (p := ⟨b, o + k * 3 + 2, none⟩) hbl).trans h3
      have o1 : (k : Int) < (N : Int) := by omega
      have o4 : k ≤ 40 := by omega
      have oa : a ≤ 11 := by omega
      have oe : e ≤ 11 := by omega
      have ia : (a : Int) < 12 := by omega
      have ie : (e : Int) < 12 := by omega
      have ik : (k : Int) < 40 := by omega
      have ja : a < 12 := by omega
      have je : e < 12 := by omega
      have jk : k < 40 := by omega
      obtain ⟨X, hX⟩ : ∃ X, (leavF ds fl k).getD a 0 = X := ⟨_, rfl⟩
      obtain ⟨L1, hL1⟩ : ∃ L, (leavF ds fl k).set a (X + f) = L := ⟨_, rfl⟩
      obtain ⟨Y, hY⟩ : ∃ Y, L1.getD e 0 = Y := ⟨_, rfl⟩
      have HXA : Kp ((leavF ds fl k)[a]? = some X) := ⟨by rw [← hX, List.getD_eq_getElem?_getD, List.getElem?_eq_getElem (by rw [HLL.out]; omega)]; rfl⟩
      have HYA : Kp (L1[e]? = some Y) := ⟨by rw [← hY, List.getD_eq_getElem?_getD, List.getElem?_eq_getElem (by rw [← hL1, List.length_set, HLL.out]; omega)]; rfl⟩
      have HST : Kp (leavF ds fl (k + 1) = L1.set e (Y - f)) := ⟨by
        show (((leavF ds fl k).set (ds.getD k default).a.toNat ((leavF ds fl k).getD (ds.getD k default).a.toNat 0 + fl.getD k 0)).set (ds.getD k default).b.toNat (((leavF ds fl k).set (ds.getD k default).a.toNat ((leavF ds fl k).getD (ds.getD k default).a.toNat 0 + fl.getD k 0)).getD (ds.getD k default).b.toNat 0 - fl.getD k 0)) = _
        rw [hxd, hfd, Int.toNat_natCast, Int.toNat_natCast, hX, hL1, hY]⟩
      have hfb := HF.out k hlt
      rw [hfd] at hfb
      have hxb := HBD.out a k hk
      rw [hX] at hxb
      have hyb : -(2000 * (k : Int)) - 1000 ≤ Y ∧ Y ≤ 2000 * (k : Int) + 1000 := by
        rw [← hY, ← hL1, getD_set]
        split
        · omega
        · have := HBD.out e k hk; omega
      have e1 : IntKind.i64.wrap (X + f) = X + f := IntWalk.i64_in _ (by omega)
      have e2 : IntKind.i64.wrap (Y - f) = Y - f := IntWalk.i64_in _ (by omega)
      have HFX := Kp.mk hfx
      have HL1 : Kp ((leavF ds fl k).set a (X + f) = L1) := ⟨hL1⟩
      clear hx hxd hfx hfd h1 h2 h3 hbl q1 q2 q3 q4 hfb hxb hyb hX hY hL1
      go_wp2
      obtain ⟨D, hD⟩ : ∃ D, wr.heap.size = D := ⟨_, rfl⟩
      obtain ⟨V, hV⟩ : ∃ V, wr.alloc (.cells #[.int .i64 (a : Int), .int .i64 (e : Int), .int .i64 dc] 48) = V := ⟨_, rfl⟩
      have hbz : Below wr.heap.size wr V := by subst hV; exact (Below.refl _ _).alloc (Nat.le_refl _) _
      have HLV := Kp.mk (HL.out.on hbz)
      have HDV : Kp (V.cell? ⟨D, 0, none⟩ = some (.int .i64 (a : Int)) ∧ V.cell? ⟨D, 1, none⟩ = some (.int .i64 (e : Int)) ∧ D ≠ Z + 3) := ⟨by subst hV hD; exact ⟨by go_simp, by go_simp, by have := HL.out.orow.lt; omega⟩⟩
      rw [hV]
      simp only [hD]
      clear hbz hV hD c1 c2 c3 HL
      refine region_tail 9 (by kernel_rfl) (by kernel_rfl) ?_
      intro wd hwd
      have hbd : Below V.heap.size V wd := by rw [hwd]; exact (Below.refl _ _).drew
      have HL2 := Kp.mk (HLV.out.on hbd)
      have HD2 : Kp (wd.cell? ⟨D, 0, none⟩ = some (.int .i64 (a : Int)) ∧ wd.cell? ⟨D, 1, none⟩ = some (.int .i64 (e : Int)) ∧ D ≠ Z + 3) := ⟨(hbd.cell (p := ⟨D, 0, none⟩) (World.block_lt_of_cell? _ _ HDV.out.1)).trans HDV.out.1, (hbd.cell (p := ⟨D, 1, none⟩) (World.block_lt_of_cell? _ _ HDV.out.2.1)).trans HDV.out.2.1, HDV.out.2.2⟩
      clear hwd hbd HLV HDV
      have d0 := HD2.out.1
      have a1 := HL2.out.fr.cell HFX.out
      have a2 := HL2.out.orow.cell HXA.out
      have z2 := HL2.out.orow.fz (i := a)
      simp only [List.take_succ_cons, List.take_zero, List.drop_succ_cons, List.drop_zero]
      repeat still_step
      refine wpStill_nil ?_
      change wpList _ _ _ _ _ _
      go_wp2
      have hlv2 := HL2.out.put (i := a) HZ.out (X + f)
      rw [HL1.out] at hlv2
      have hdv2 : (wd.setCell ⟨Z + 3, a, none⟩ (.int .i64 (X + f))).cell? ⟨D, 1, none⟩ = some (.int .i64 (e : Int)) := (World.cell?_setCell_other _ _ _ _ (fun q => HD2.out.2.2 (by have := congrArg Addr.block q; simp only at this; omega))).trans HD2.out.2.1
      obtain ⟨V2, hV2⟩ : ∃ V, wd.setCell ⟨Z + 3, a, none⟩ (.int .i64 (X + f)) = V := ⟨_, rfl⟩
      rw [hV2] at hlv2 hdv2
      rw [hV2]
      have HLV2 := Kp.mk hlv2
      have HDV2 := Kp.mk hdv2
      clear hV2 hlv2 hdv2 HL2 HD2 d0 a1 a2 z2 e1
      refine region_tail 9 (by kernel_rfl) (by kernel_rfl) ?_
      intro wd2 hwd2
      have hbd : Below V2.heap.size V2 wd2 := by rw [hwd2]; exact (Below.refl _ _).drew
      have HL3 := Kp.mk (HLV2.out.on hbd)
      have d1 : wd2.cell? ⟨D, 1, none⟩ = some (.int .i64 (e : Int)) := (hbd.cell (p := ⟨D, 1, none⟩) (World.block_lt_of_cell? _ _ HDV2.out)).trans HDV2.out
      clear hwd2 hbd HLV2 HDV2
      have a1 := HL3.out.fr.cell HFX.out
      have a2 := HL3.out.orow.cell HYA.out
      have z2 := HL3.out.orow.fz (i := e)
      simp only [List.take_succ_cons, List.take_zero, List.drop_succ_cons, List.drop_zero]
      repeat still_step
      refine wpStill_nil ?_
      change wpList _ _ _ _ _ _
      have HLN : Kp (LV w Z fl (leavF ds fl (k + 1)) (wd2.setCell ⟨Z + 3, e, none⟩ (.int .i64 (Y - f)))) := ⟨by rw [HST.out]; exact HL3.out.put (i := e) HZ.out (Y - f)⟩
      go_wp2
      go_roundw
      case rel => exact ⟨k + 1, by omega, by go_num, HLN⟩
      case measure => simp [intOf]; omega
    · have hkn : k = N := by omega
      subst hkn
      have o1 : ¬ (k : Int) < (k : Int) := by omega
      have HIS : Kp ((Try.prog.info? 105).map (·.size) = some (ivs (leavF ds fl k)).size) := ⟨by rw [ivs_size, HLL.out]; kernel_rfl⟩
      have HOS : Kp ((List.replicate 12 (Value.int .i64 0)).toArray.size = (ivs (leavF ds fl k)).size) := ⟨by rw [ivs_size, HLL.out]; rfl⟩
      go_wp2_with (first | (with_reducible refine wpList_load_row (o := ⟨some 35, _, _, _, _, _⟩) rfl 105 (.tmp 5) rfl (Z + 3) rfl 105 (ivs (leavF ds fl k)) (0, 0) _ HL.out.orow.at_ Try.underlying105 rfl HIS.out ?_) | (with_reducible refine wpList_store_rowTo rfl 105 (.tmp 4) (.tmp 35) rfl rfl (Z + 2) (ivs (leavF ds fl k)) rfl rfl 105 _ HL.out.rr HIS.out HOS.out (ivs_one _) ?_))
      exact bodyPost_ret (v := .agg (ivs (leavF ds fl k))) (results_cell_row rfl _ _ (Z + 2) 105 (ivs (leavF ds fl k)) (0, 0) _ rfl (setRow_heap wr (Z + 2) _ _ _ _ HL.out.rr) Try.underlying105 rfl HIS.out) rfl ⟨rfl, below_setRow HL.out.below (by have := HZ.out; omega) _⟩
end Go.Proofs.Ythkamfjjfkpekaa.Pe
