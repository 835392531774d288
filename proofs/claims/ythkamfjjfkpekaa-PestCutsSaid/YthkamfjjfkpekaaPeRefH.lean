/-
  WALKS (layer 8, pest): the reference: what goes out of each room, less what comes in.
-/
import Derived.Test.YthkamfjjfkpekaaPeRefG
import Derived.Test.YthkamfjjfkpekaaPeGrowQ
namespace Go.Proofs.Ythkamfjjfkpekaa.Pe
open Go Go.RowKit Go.Proofs Go.Sort

theorem info_int0 : (Try.prog.info? 3).map (fun i => (i.zero, i.size, i.bytes)) = some (some (.int .i64 0), 1, 8) := by kernel_rfl
theorem run_zerosR (n : Nat) (hn : n ≤ 100000) (W : World) : (Instr.makeSlice 25 (.int .i64 (n : Int)) (.int .i64 (n : Int))).run Try.prog W = .ok (.slice (some ⟨W.heap.size, 0, none⟩) n n) (W.alloc (.cells (ivs (List.replicate n 0)) 3)) := by
  obtain ⟨i0, hi0, hz0, hz1, hz2⟩ := Go.info_parts info_int0
  have hr := run_make (P := Try.prog) W 25 3 i0 (.int .i64 0) Try.underlying25 hi0 hz0 .i64 .i64 n n (by omega) (Int.le_refl _) (by rw [hz2]; omega) (by omega)
  simp only [Int.toNat_natCast] at hr
  have e : madeCells (Value.int .i64 0).cells (n * i0.size) = ivs (List.replicate n 0) := by
    rw [hz1, Nat.mul_one]
    apply Array.ext'
    unfold ivs
    rw [List.map_replicate]
    exact toList_madeCells_one (.int .i64 0) n
  rw [e] at hr
  exact hr
/-- What has left each room of a house through the first doors. -/
def leavR (R : Nat) (ds : List Dr) (fl : List Int) : Nat → List Int
  | 0 => List.replicate R 0
  | k + 1 =>
    let o := leavR R ds fl k
    let d := ds.getD k default
    let o1 := o.set d.a.toNat (o.getD d.a.toNat 0 + fl.getD k 0)
    o1.set d.b.toNat (o1.getD d.b.toNat 0 - fl.getD k 0)
theorem leavR_len (R : Nat) (ds : List Dr) (fl : List Int) : ∀ k : Nat, (leavR R ds fl k).length = R
  | 0 => List.length_replicate
  | k + 1 => by
    unfold leavR
    rw [List.length_set, List.length_set]
    exact leavR_len R ds fl k
theorem leavR_bd {R : Nat} {ds : List Dr} {fl : List Int} {n : Nat} (hf : ∀ k : Nat, k < n → -1000 ≤ fl.getD k 0 ∧ fl.getD k 0 ≤ 1000) (j : Nat) : ∀ k : Nat, k ≤ n → -(2000 * (k : Int)) ≤ (leavR R ds fl k).getD j 0 ∧ (leavR R ds fl k).getD j 0 ≤ 2000 * (k : Int)
  | 0, _ => by
    have : (leavR R ds fl 0).getD j 0 = 0 := by
      show (List.replicate R (0 : Int)).getD j 0 = 0
      rw [List.getD_eq_getElem?_getD, List.getElem?_replicate]
      split <;> rfl
    omega
  | k + 1, hk => by
    have ih := leavR_bd hf j k (by omega) (ds := ds) (R := R)
    have iha := leavR_bd hf (ds.getD k default).a.toNat k (by omega) (ds := ds) (R := R)
    have ihb := leavR_bd hf (ds.getD k default).b.toNat k (by omega) (ds := ds) (R := R)
    have hk := hf k (by omega)
    unfold leavR
    simp only [getD_set]
    split
    · split <;> omega
    · split <;> omega
theorem leavR_at {ds : List Dr} {fl : List Int} {R r : Nat} (hD : DoorsOk R ds) (hr : r < R) : ∀ k : Nat, k ≤ ds.length → (leavR R ds fl k).getD r 0 = outF ds fl r k
  | 0, _ => by
    show (List.replicate R (0 : Int)).getD r 0 = 0
    rw [List.getD_eq_getElem?_getD, List.getElem?_replicate]
    split <;> rfl
  | k + 1, hk => by
    have ih := leavR_at hD hr k (by omega) (fl := fl)
    obtain ⟨⟨h1, h2, h3⟩, -⟩ := hD _ (getD_mem (show k < ds.length by omega))
    have hl := leavR_len R ds fl k
    unfold leavR outF
    simp only [getD_set, List.length_set, hl]
    have ea : ((ds.getD k default).a = (r : Int)) ↔ (ds.getD k default).a.toNat = r := by omega
    have eb : ((ds.getD k default).b = (r : Int)) ↔ (ds.getD k default).b.toNat = r := by omega
    by_cases ha : (ds.getD k default).a.toNat = r
    · have hb : ¬ (ds.getD k default).b.toNat = r := by omega
      rw [if_neg (fun h => hb h.1), if_pos ⟨ha, hr⟩, if_pos (ea.2 ha), if_neg (fun h => hb (eb.1 h)), ha, ih]
      omega
    · by_cases hb : (ds.getD k default).b.toNat = r
      · rw [if_pos ⟨hb, hr⟩, if_neg (fun h => ha (ea.1 h)), if_pos (eb.2 hb), hb, if_neg (fun h => ha h.1), ih]
        omega
      · rw [if_neg (fun h => hb h.1), if_neg (fun h => ha h.1), if_neg (fun h => ha (ea.1 h)), if_neg (fun h => hb (eb.1 h)), ih]
        omega
/-- What the walk keeps: the row that grows. -/
structure OV (w : World) (Z : Nat) (ol : List Int) (W : World) : Prop where
  below : Below w.heap.size w W
  orow : Row 3 W (Z + 1) ol
theorem OV.on {w W V : World} {Z : Nat} {ol : List Int} (h : OV w Z ol W) (hb : Below W.heap.size W V) : OV w Z ol V :=
  ⟨h.below.trans (hb.mono h.below.size), h.orow.on hb⟩
theorem OV.put {w W : World} {Z i : Nat} {ol : List Int} (h : OV w Z ol W) (hZ : w.heap.size = Z) (x : Int) : OV w Z (ol.set i x) (W.setCell ⟨Z + 1, i, none⟩ (.int .i64 x)) :=
  ⟨h.below.setCell (by simp only; omega) _, h.orow.put x⟩
theorem out_start {w W0 : World} {R : Nat} {x y : Int} {v : Value} {t : TypeId}
    (h0 : ((w.alloc (.cells #[.int .i64 (R : Int), v, .int .i64 x, .int .i64 y] t)).alloc (.cells (ivs (List.replicate R 0)) 3)) = W0) : OV w w.heap.size (List.replicate R 0) W0 ∧ W0.cell? ⟨w.heap.size, 1, none⟩ = some v := by
  subst h0
  refine ⟨⟨by repeat (first | exact Below.refl _ _ | refine Below.alloc ?_ (by simp <;> omega) _ | refine bDrewN ?_ _ | refine Below.drew ?_), ⟨?_⟩⟩, by go_simp⟩
  have h := heap_alloc_last (w.alloc (.cells #[.int .i64 (R : Int), v, .int .i64 x, .int .i64 y] t)) (.cells (ivs (List.replicate R 0)) 3)
  rwa [World.size_alloc] at h
set_option maxRecDepth 100000 in
set_option maxHeartbeats 2000000 in
theorem rout_any (R : Nat) (x y : Int) (v u : Value) (ds : List Dr) (sl fl : List Int) (w : World) (hv : DS w v ds) (hl : ds.length ≤ 40) (hu : IS w u sl) (hsl : sl.length = ds.length) (hsf : ∀ k f, sl[k]? = some f → fl.getD k 0 = f) (hf : ∀ k : Nat, k < ds.length → -1000 ≤ fl.getD k 0 ∧ fl.getD k 0 ≤ 1000) (hR : R ≤ 12) (hd : DoorsOk R ds) :
    Calls Try.prog 97 #[.agg #[.int .i64 (R : Int), v, .int .i64 x, .int .i64 y], u] w fun e w' => ∃ b, e = .returned (.slice (some ⟨b, 0, none⟩) R R) ∧ Row 3 w' b (leavR R ds fl ds.length) ∧ Below w.heap.size w w' := by
  obtain ⟨g, c, rfl, hi⟩ := hv
  obtain ⟨gu, cu, rfl, -, hiu⟩ := hu
  have HS := Kp.mk hi
  have HIS := Kp.mk hiu
  rw [hsl]
  obtain ⟨N, hN⟩ : ∃ N, ds.length = N := ⟨_, rfl⟩
  have HN := Kp.mk hN
  have HSL : Kp (sl.length = N) := ⟨hsl.trans hN⟩
  have HSF := Kp.mk hsf
  have HF := Kp.mk hf
  have HD : Kp (∀ d ∈ ds, 0 ≤ d.a ∧ d.a < d.b ∧ d.b < R) := ⟨fun d h => (hd d h).1⟩
  have HBD := Kp.mk (fun j k (hk : k ≤ ds.length) => leavR_bd (R := R) (ds := ds) hf j k hk)
  have HLL := Kp.mk (leavR_len R ds fl)
  rw [hN] at hl HF HBD ⊢
  clear hi hiu hN hf hd hsl hsf
  have hmk := run_zerosR R (by omega)
  go_enter Try.func97, Try.ntmps97
  go_wp2_with fail
  clear hmk
  obtain ⟨W1, hW1⟩ : ∃ W, (w.alloc (.cells #[.int .i64 (R : Int), .slice g N c, .int .i64 x, .int .i64 y] 24)).alloc (.cells (ivs (List.replicate R 0)) 3) = W := ⟨_, rfl⟩
  obtain ⟨hlv, hc1⟩ := out_start hW1
  refine wp_world hW1 ?_
  obtain ⟨Z, hZ⟩ : ∃ Z, w.heap.size = Z := ⟨_, rfl⟩
  have HZ := Kp.mk hZ
  rw [hZ] at hlv hc1
  have HL0 : Kp (OV w Z (leavR R ds fl 0) W1) := ⟨hlv⟩
  try simp only [hZ]
  clear hW1 hlv hZ
  go_wp2_with fail
  clear hc1
  go_loopw [14] (fun i wr => ∃ k : Nat, k ≤ N ∧ i = .int .i64 k ∧ Kp (OV w Z (leavR R ds fl k) wr)) (fun i _ => N - (intOf i).toNat)
  case atStart => exact ⟨0, Nat.zero_le _, rfl, HL0⟩
  case round =>
    clear HL0
    obtain ⟨k, hk, rfl, HL⟩ := hrel
    by_cases hlt : k < N
    · obtain ⟨d, hx⟩ : ∃ d, ds[k]? = some d := ⟨_, List.getElem?_eq_getElem (by rw [HN.out]; exact hlt)⟩
      obtain ⟨f, hfx⟩ : ∃ f, sl[k]? = some f := ⟨_, List.getElem?_eq_getElem (by rw [HSL.out]; omega)⟩
      have hxd : ds.getD k default = d := by rw [List.getD_eq_getElem?_getD, hx]; rfl
      have hfd : fl.getD k 0 = f := HSF.out k f hfx
      obtain ⟨b, o, hg, h1, h2, h3⟩ := HS.out k d hx
      subst hg
      obtain ⟨bu, ou, hg, h4⟩ := HIS.out k f hfx
      subst hg
      obtain ⟨q1, q2, q3⟩ := HD.out d (List.mem_of_getElem? hx)
      obtain ⟨da, db, dc⟩ := d
      simp only at h1 h2 h3 q1 q2 q3
      obtain ⟨a, rfl⟩ := Int.eq_ofNat_of_zero_le q1
      obtain ⟨e, rfl⟩ := Int.eq_ofNat_of_zero_le (show 0 ≤ db by omega)
      have hbl : b < w.heap.size := World.block_lt_of_cell? _ _ h1
      have hbu : bu < w.heap.size := World.block_lt_of_cell? _ _ h4
      have c1 := (HL.out.below.cell (p := ⟨b, o + k * 3, none⟩) hbl).trans h1
      have c2 := (HL.out.below.cell (p := ⟨b, o + k * 3 + 1, none⟩) hbl).trans h2
      have c3 := (HL.out.below.cell (p := ⟨b, o + k * 3 + 2, none⟩) hbl).trans h3
      have HCU : Kp (∀ W, Below w.heap.size w W → W.cell? ⟨bu, ou + k, none⟩ = some (.int .i64 f)) := ⟨fun W hW => (hW.cell (p := ⟨bu, ou + k, none⟩) hbu).trans h4⟩
      have o1 : (k : Int) < (N : Int) := by omega
      have o4 : k ≤ 40 := by omega
      have oa : a < R := by omega
      have oe : e < R := by omega
      have ia : (a : Int) < (R : Int) := by omega
      have ie : (e : Int) < (R : Int) := by omega
      obtain ⟨X, hX⟩ : ∃ X, (leavR R ds fl k).getD a 0 = X := ⟨_, rfl⟩
      obtain ⟨L1, hL1⟩ : ∃ L, (leavR R ds fl k).set a (X + f) = L := ⟨_, rfl⟩
      obtain ⟨Y, hY⟩ : ∃ Y, L1.getD e 0 = Y := ⟨_, rfl⟩
      have HXA : Kp ((leavR R ds fl k)[a]? = some X) := ⟨by rw [← hX, List.getD_eq_getElem?_getD, List.getElem?_eq_getElem (by rw [HLL.out]; omega)]; rfl⟩
      have HYA : Kp (L1[e]? = some Y) := ⟨by rw [← hY, List.getD_eq_getElem?_getD, List.getElem?_eq_getElem (by rw [← hL1, List.length_set, HLL.out]; omega)]; rfl⟩
      have HST : Kp (leavR R ds fl (k + 1) = L1.set e (Y - f)) := ⟨by
        show (((leavR R ds fl k).set (ds.getD k default).a.toNat ((leavR R ds fl k).getD (ds.getD k default).a.toNat 0 + fl.getD k 0)).set (ds.getD k default).b.toNat (((leavR R ds fl k).set (ds.getD k default).a.toNat ((leavR R ds fl k).getD (ds.getD k default).a.toNat 0 + fl.getD k 0)).getD (ds.getD k default).b.toNat 0 - fl.getD k 0)) = _
        rw [hxd, hfd, Int.toNat_natCast, Int.toNat_natCast, hX, hL1, hY]⟩
      have hfb := HF.out k hlt
      rw [hfd] at hfb
      have hxb := HBD.out a k hk
      rw [hX] at hxb
      have hyb : -(2000 * (k : Int)) - 1000 ≤ Y ∧ Y ≤ 2000 * (k : Int) + 1000 := by
        rw [← hY, ← hL1, getD_set]
        split
        · omega
        · have := HBD.out e k hk; omega
      have e1 : IntKind.i64.wrap (X + f) = X + f := IntWalk.i64_in _ (by omega)
      have e2 : IntKind.i64.wrap (Y - f) = Y - f := IntWalk.i64_in _ (by omega)
      have HL1 : Kp ((leavR R ds fl k).set a (X + f) = L1) := ⟨hL1⟩
      clear hx hxd hfx hfd h1 h2 h3 h4 hbl hbu q1 q2 q3 hfb hxb hyb hX hY hL1
      go_wp2
      obtain ⟨D, hD⟩ : ∃ D, wr.heap.size = D := ⟨_, rfl⟩
      obtain ⟨V, hV⟩ : ∃ V, wr.alloc (.cells #[.int .i64 (a : Int), .int .i64 (e : Int), .int .i64 dc] 48) = V := ⟨_, rfl⟩
      have hbz : Below wr.heap.size wr V := by subst hV; exact (Below.refl _ _).alloc (Nat.le_refl _) _
      have HLV := Kp.mk (HL.out.on hbz)
      have HDV : Kp (V.cell? ⟨D, 0, none⟩ = some (.int .i64 (a : Int)) ∧ V.cell? ⟨D, 1, none⟩ = some (.int .i64 (e : Int)) ∧ D ≠ Z + 1) := ⟨by subst hV hD; exact ⟨by go_simp, by go_simp, by have := HL.out.orow.lt; omega⟩⟩
      rw [hV]
      simp only [hD]
      clear hbz hV hD c1 c2 c3 HL
      refine region_tail 10 (by kernel_rfl) (by kernel_rfl) ?_
      intro wd hwd
      have hbd : Below V.heap.size V wd := by rw [hwd]; exact (Below.refl _ _).drew
      have HL2 := Kp.mk (HLV.out.on hbd)
      have HD2 : Kp (wd.cell? ⟨D, 0, none⟩ = some (.int .i64 (a : Int)) ∧ wd.cell? ⟨D, 1, none⟩ = some (.int .i64 (e : Int)) ∧ D ≠ Z + 1) := ⟨(hbd.cell (p := ⟨D, 0, none⟩) (World.block_lt_of_cell? _ _ HDV.out.1)).trans HDV.out.1, (hbd.cell (p := ⟨D, 1, none⟩) (World.block_lt_of_cell? _ _ HDV.out.2.1)).trans HDV.out.2.1, HDV.out.2.2⟩
      clear hwd hbd HLV HDV
      have d0 := HD2.out.1
      have a1 := HCU.out wd HL2.out.below
      have a2 := HL2.out.orow.cell HXA.out
      have z2 := HL2.out.orow.fz (i := a)
      simp only [List.take_succ_cons, List.take_zero, List.drop_succ_cons, List.drop_zero]
      repeat still_step
      refine wpStill_nil ?_
      change wpList _ _ _ _ _ _
      go_wp2
      have hlv2 := HL2.out.put (i := a) HZ.out (X + f)
      rw [HL1.out] at hlv2
      have hdv2 : (wd.setCell ⟨Z + 1, a, none⟩ (.int .i64 (X + f))).cell? ⟨D, 1, none⟩ = some (.int .i64 (e : Int)) := (World.cell?_setCell_other _ _ _ _ (fun q => HD2.out.2.2 (by have := congrArg Addr.block q; simp only at this; omega))).trans HD2.out.2.1
      obtain ⟨V2, hV2⟩ : ∃ V, wd.setCell ⟨Z + 1, a, none⟩ (.int .i64 (X + f)) = V := ⟨_, rfl⟩
      rw [hV2] at hlv2 hdv2
      rw [hV2]
      have HLV2 := Kp.mk hlv2
      have HDV2 := Kp.mk hdv2
      clear hV2 hlv2 hdv2 HL2 HD2 d0 a1 a2 z2 e1
      refine region_tail 10 (by kernel_rfl) (by kernel_rfl) ?_
      intro wd2 hwd2
      have hbd : Below V2.heap.size V2 wd2 := by rw [hwd2]; exact (Below.refl _ _).drew
      have HL3 := Kp.mk (HLV2.out.on hbd)
      have d1 : wd2.cell? ⟨D, 1, none⟩ = some (.int .i64 (e : Int)) := (hbd.cell (p := ⟨D, 1, none⟩) (World.block_lt_of_cell? _ _ HDV2.out)).trans HDV2.out
      clear hwd2 hbd HLV2 HDV2
      have a1 := HCU.out wd2 HL3.out.below
      have a2 := HL3.out.orow.cell HYA.out
      have z2 := HL3.out.orow.fz (i := e)
      simp only [List.take_succ_cons, List.take_zero, List.drop_succ_cons, List.drop_zero]
      repeat still_step
      refine wpStill_nil ?_
      change wpList _ _ _ _ _ _
      have HLN : Kp (OV w Z (leavR R ds fl (k + 1)) (wd2.setCell ⟨Z + 1, e, none⟩ (.int .i64 (Y - f)))) := ⟨by rw [HST.out]; exact HL3.out.put (i := e) HZ.out (Y - f)⟩
      go_wp2
      go_roundw
      case rel => exact ⟨k + 1, by omega, by go_num, HLN⟩
      case measure => simp [intOf]; omega
    · have hkn : k = N := by omega
      subst hkn
      have o1 : ¬ (k : Int) < (k : Int) := by omega
      go_wp2
      go_ret
      exact ⟨_, rfl, HL.out.orow, HL.out.below⟩
end Go.Proofs.Ythkamfjjfkpekaa.Pe
