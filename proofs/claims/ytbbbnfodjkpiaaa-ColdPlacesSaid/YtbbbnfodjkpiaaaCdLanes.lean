/-
  WALKS (layer 4, cold): the order in which boxes come, the least free lane, and the lanes that boxes are given, by the program.
-/
import Derived.Test.YtbbbnfodjkpiaaaCdLane
namespace Go.Proofs.Ytbbbnfodjkpiaaa.Cd
open Go Go.RowKit Go.Maps Go.Sort

def rngI (n : Nat) : List Int := (List.range n).map fun (i : Nat) => (i : Int)
def fillR (n k : Nat) : List Int := (List.range n).map fun (i : Nat) => if i < k then (i : Int) else 0
theorem fill_at {n k i : Nat} (h : i < n) : (fillR n k)[i]? = some (if i < k then (i : Int) else 0) := by simp [fillR, h]
theorem fill_zero (n : Nat) : fillR n 0 = List.replicate n 0 := by
  apply List.ext_getElem?
  intro i
  by_cases h : i < n
  · rw [fill_at h]; simp [h]
  · rw [List.getElem?_eq_none (by simp [fillR]; omega), List.getElem?_eq_none (by simp; omega)]
theorem fill_all (n : Nat) : fillR n n = rngI n := by
  unfold fillR rngI
  refine List.map_congr_left fun i hi => ?_
  rw [if_pos (List.mem_range.1 hi)]
theorem fill_set {n k : Nat} (h : k < n) : (fillR n k).set k (k : Int) = fillR n (k + 1) := by
  apply List.ext_getElem?
  intro i
  by_cases hi : i < n
  · rw [fill_at hi, List.getElem?_set]
    by_cases e : k = i
    · subst e
      rw [if_pos rfl, if_pos (by simp [fillR, h]), if_pos (by omega)]
    · rw [if_neg e, fill_at hi]
      by_cases g : i < k
      · rw [if_pos g, if_pos (by omega)]
      · rw [if_neg g, if_neg (by omega)]
  · rw [List.getElem?_eq_none (by simp [fillR]; omega), List.getElem?_eq_none (by simp [fillR]; omega)]
theorem rng_at {n i : Nat} (h : i < n) : (rngI n)[i]? = some (i : Int) := by simp [rngI, h]
/-- Boxes that stand in the order in which they come. -/
def AscB (l : List Bx) : Prop := ∀ i x y, l[i]? = some x → l[i + 1]? = some y → x.f ≤ y.f
theorem cmp_asc {v : Value} {l : List Bx} {w : World} {Z : Nat} (hs : BS w v l) (ha : AscB l) (hn : l.length < 20) (hZ : w.cell? ⟨Z, 0, none⟩ = some v) : CmpOk (.pointer (some ⟨Z, 0, none⟩)) l.length w := by
  intro i hi
  obtain ⟨g, c, rfl, -, hc⟩ := hs
  have hx : l[i]? = some l[i] := List.getElem?_eq_getElem (by omega)
  have hy : l[i + 1]? = some l[i + 1] := List.getElem?_eq_getElem hi
  obtain ⟨b, o, rfl, hb, h1, -, -⟩ := hc i _ hx
  obtain ⟨b', o', hg, hb', h2, -, -⟩ := hc (i + 1) _ hy
  simp only [Option.some.injEq, Addr.mk.injEq, and_true] at hg
  obtain ⟨rfl, rfl⟩ := hg
  have hle := ha i _ _ hx hy
  refine ⟨cmpR (l[i + 1]).f (l[i]).f, ?_, fun m => ?_⟩
  · unfold cmpR
    rw [if_neg (by omega)]
    split <;> omega
  · have h := coming1_any Z b o l.length c (i + 1) i (l[i + 1]).f (l[i]).f (w.drewN m) hi (by omega) (by omega) hZ h2 h1
    rw [show (((i + 1 : Nat) : Int)) = (i : Int) + 1 from by omega] at h
    exact h
set_option maxHeartbeats 1000000 in
theorem coming_asc (v : Value) (l : List Bx) (w : World) (hs : BS w v l) (ha : AscB l) (hn : l.length < 20) :
    Calls Try.prog 73 #[v] w fun e w' => (e = .returned (.slice (some ⟨w.heap.size + 1, 0, none⟩) l.length l.length) ∧ IR (w.heap.size + 1) w' (rngI l.length)) ∧ Below w.heap.size w w' := by
  obtain ⟨g, c, hv⟩ := hs.shape
  have HS := Kp.mk hs
  have HA := Kp.mk ha
  have HN := Kp.mk hn
  obtain ⟨W1, hmk, hir, hbw, hsz⟩ := run_zeros (w.alloc (.cells #[v] 46)) l.length (by omega)
  rw [World.size_alloc] at hmk hir hbw hsz
  have HIR : Kp (IR (w.heap.size + 1) W1 (fillR l.length 0)) := ⟨by rw [fill_zero]; exact hir⟩
  have HB : Kp (Below w.heap.size w W1) := ⟨((Below.refl _ w).alloc (Nat.le_refl _) _).trans (hbw.mono (by omega))⟩
  have HZ : Kp (W1.cell? ⟨w.heap.size, 0, none⟩ = some v) := ⟨(hbw.cell (p := ⟨w.heap.size, 0, none⟩) (by simp)).trans (by go_simp)⟩
  have HSZ : Kp (W1.heap.size = w.heap.size + 1 + 1) := ⟨hsz⟩
  clear hs ha hn hir hbw hsz
  subst hv
  obtain ⟨Z, hZ⟩ : ∃ Z, w.heap.size = Z := ⟨_, rfl⟩
  have HZZ : Kp (w.heap.size = Z) := ⟨hZ⟩
  rw [hZ] at hmk HIR HZ HSZ
  simp only [hZ]
  clear hZ
  have hc0 := HZ.out
  go_enter Try.func73, Try.ntmps73
  go_wp2
  simp only [HZZ.out]
  go_loopw [10] (fun i wr => ∃ k : Nat, k ≤ l.length ∧ i = .int .i64 k ∧ Kp (IR (Z + 1) wr (fillR l.length k)) ∧ Kp (Below Z w wr) ∧ Kp (wr.cell? ⟨Z, 0, none⟩ = some (.slice g l.length c))) (fun i _ => l.length - (intOf i).toNat)
  case atStart => exact ⟨0, Nat.zero_le _, rfl, HIR, ⟨HZZ.out ▸ HB.out⟩, HZ⟩
  case round =>
    clear hc0 hmk HIR HB HZ HSZ
    obtain ⟨k, hk, rfl, HIR, HB, HZ⟩ := hrel
    by_cases hlt : k < l.length
    · have o1 : (k : Int) < (l.length : Int) := by omega
      have o2 : k ≤ 20 := by have := HN.out; omega
      obtain ⟨v0, hc0⟩ : ∃ v0, wr.cell? ⟨Z + 1, k, none⟩ = some (.int .i64 v0) := ⟨_, HIR.out.cell (fill_at hlt)⟩
      have hf0 := HIR.out.froz k
      have HIR2 : Kp (IR (Z + 1) (wr.setCell ⟨Z + 1, k, none⟩ (.int .i64 (k : Int))) (fillR l.length (k + 1))) := ⟨by rw [← fill_set hlt]; exact HIR.out.set_ k k⟩
      have HB2 : Kp (Below Z w (wr.setCell ⟨Z + 1, k, none⟩ (.int .i64 (k : Int)))) := ⟨HB.out.setCell (by simp) _⟩
      have HZ2 : Kp ((wr.setCell ⟨Z + 1, k, none⟩ (.int .i64 (k : Int))).cell? ⟨Z, 0, none⟩ = some (.slice g l.length c)) := ⟨(World.cell?_of_block (a := ⟨Z, 0, none⟩) (Below.heap_setCell wr ⟨Z + 1, k, none⟩ _ Z (by simp))).trans HZ.out⟩
      clear HIR HB HZ
      go_wp2
      go_roundw
      case rel => exact ⟨k + 1, by omega, by go_num, HIR2, HB2, HZ2⟩
      case measure => simp [intOf]; omega
    · have e : k = l.length := by omega
      have HIR2 : Kp (IR (Z + 1) wr (rngI l.length)) := ⟨by have := HIR.out; rw [e, fill_all] at this; exact this⟩
      have HBS : Kp (BS wr (.slice g l.length c) l) := ⟨HS.out.below (HZZ.out ▸ HB.out)⟩
      clear e HIR
      go_wp2_with fail
      refine (stable_asc (Z + 1) l.length Z l.length wr HN.out (fun i hi => HIR2.out.cell (rng_at hi)) (cmp_asc HBS.out HA.out HN.out HZ.out)).mono ?_
      rintro en w2 ⟨rfl, hm⟩
      have HM := Lib.hid hm
      clear hm
      go_wp2
      go_ret
      refine ⟨⟨rfl, ?_⟩, ?_⟩
      · obtain ⟨m, rfl⟩ := HM.out
        exact HIR2.out.same rfl
      · obtain ⟨m, rfl⟩ := HM.out
        exact bDrewN HB.out m

/-! ### Lanes -/
theorem law_int : Keyed Try.prog 3 := int_keyed Try.underlying3
theorem zero_int (w : World) : (zeroValue 3).run Try.prog w = .ok (.int .i64 0) w := by kernel_rfl
theorem wf_int {n : Int} (h : -9223372036854775808 ≤ n ∧ n ≤ 9223372036854775807) : (Lit.int .i64 n).wf = true := WalkArith.wf_i64 h
set_option maxHeartbeats 1000000 in
theorem free_any (B n : Nat) (D : DataW Unit) (ts : List (Int × Int)) (w : World) (hown : w.ownsMap Try.prog 3 (plainElem Try.prog 3) B n D) (hr : Rep D ts) (hl : ts.length ≤ 1000) :
    Calls Try.prog 74 #[.map (some B)] w fun e w' => e = .returned (.int .i64 (freeL ts)) ∧ Below w.heap.size w w' := by
  have HR := Kp.mk hr
  have hsz := rep_size hr
  have HO := Kp.mk hown
  clear hr hown
  go_enter Try.func74, Try.ntmps74
  go_wp2_with (first | (at_len; refine wpList_len_own _ rfl _ 92 rfl 3 3 Try.underlying92 _ B n D rfl HO.out ?_) | go_in)
  go_loopw [8] (fun i wr => ∃ k : Nat, k ≤ ts.length ∧ i = .int .i64 k ∧ Kp (∀ j, j < k → (ts.any fun p => p.1 == (j : Int)) = true) ∧ Kp (Below w.heap.size w wr)) (fun i _ => ts.length - (intOf i).toNat)
  case atStart => exact ⟨0, Nat.zero_le _, rfl, ⟨fun j hj => by omega⟩, ⟨Below.refl _ _⟩⟩
  case round =>
    obtain ⟨k, hk, rfl, HA, HB⟩ := hrel
    have HOW : Kp (wr.ownsMap Try.prog 3 (plainElem Try.prog 3) B n D) := ⟨HO.out.kept (grown_below HB.out none) (by simp)⟩
    by_cases hlt : k < ts.length
    · have o1 : (k : Int) < (ts.length : Int) := by omega
      have o2 : k ≤ 1000 := by omega
      cases h : (ts.any fun p => p.1 == (k : Int)) with
      | false =>
        have hh : Maps.has D (.int .i64 (k : Int)) = false := by rw [rep_has HR.out]; exact h
        have HE : Kp (freeL ts = (k : Int)) := ⟨free_yes hlt HA.out h⟩
        clear h
        go_wp2_with (first | (at_lookup; refine wpList_lookup_own_ok_int _ rfl _ _ 92 rfl 3 3 .i64 law_int Try.underlying92 Try.underlying3 (zero_int _) B n D rfl HOW.out _ _ rfl (keyOf_int_mk Try.underlying3 (wf_int ⟨by omega, by omega⟩)) ?_; intro cc hat hwc) | go_in)
        go_ret
        exact ⟨ret_int HE.out.symm, HB.out⟩
      | true =>
        have hh : Maps.has D (.int .i64 (k : Int)) = true := by rw [rep_has HR.out]; exact h
        have HA2 : Kp (∀ j, j < k + 1 → (ts.any fun p => p.1 == (j : Int)) = true) := ⟨fun j hj => by
          by_cases e : j = k
          · subst e; exact h
          · exact HA.out j (by omega)⟩
        clear h
        go_wp2_with (first | (at_lookup; refine wpList_lookup_own_ok_int _ rfl _ _ 92 rfl 3 3 .i64 law_int Try.underlying92 Try.underlying3 (zero_int _) B n D rfl HOW.out _ _ rfl (keyOf_int_mk Try.underlying3 (wf_int ⟨by omega, by omega⟩)) ?_; intro cc hat hwc) | go_in)
        go_roundw
        case rel => exact ⟨k + 1, by omega, by go_num, HA2, HB⟩
        case measure => simp [intOf]; omega
    · have HE : Kp (freeL ts = (ts.length : Int)) := ⟨free_all fun j hj => HA.out j (by omega)⟩
      go_wp2_with (first | (at_len; refine wpList_len_own _ rfl _ 92 rfl 3 3 Try.underlying92 _ B n D rfl HOW.out ?_) | go_in)
      go_ret
      exact ⟨ret_int HE.out.symm, HB.out⟩

/-- What a box that comes does to the lanes that are taken, and to those that are given. -/
def laneT (x : Bx) (ts : List (Int × Int)) : List (Int × Int) := ts.filter fun p => decide (x.f < p.2)
def laneGo (l : List Bx) (q : List (Int × Int) × List Int) (i : Nat) : List (Int × Int) × List Int :=
  ((freeL (laneT (l.getD i ⟨0, 0, 0⟩) q.1), (l.getD i ⟨0, 0, 0⟩).t) :: (laneT (l.getD i ⟨0, 0, 0⟩) q.1).filter (fun p => !(p.1 == freeL (laneT (l.getD i ⟨0, 0, 0⟩) q.1))), q.2.set i (freeL (laneT (l.getD i ⟨0, 0, 0⟩) q.1)))
def laneF (l : List Bx) (ord : List Nat) : List (Int × Int) × List Int := ord.foldl (laneGo l) ([], List.replicate l.length 0)
def lanesL (l : List Bx) (ord : List Nat) : List Int := (laneF l ord).2
theorem laneF_snoc (l : List Bx) (ord : List Nat) (i : Nat) : laneF l (ord ++ [i]) = laneGo l (laneF l ord) i := by
  unfold laneF; rw [List.foldl_append]; rfl
theorem laneF_len (l : List Bx) (ord : List Nat) : (laneF l ord).1.length ≤ ord.length ∧ (laneF l ord).2.length = l.length := by
  refine snoc_ind (P := fun ord => (laneF l ord).1.length ≤ ord.length ∧ (laneF l ord).2.length = l.length) ⟨by simp [laneF], by simp [laneF]⟩ ?_ ord
  intro ord i ⟨h1, h2⟩
  rw [laneF_snoc]
  refine ⟨?_, by simp [laneGo, h2]⟩
  simp only [laneGo, List.length_cons, List.length_append, List.length_nil]
  have a := List.length_filter_le (fun p : Int × Int => !(p.1 == freeL (laneT (l.getD i ⟨0, 0, 0⟩) (laneF l ord).1))) (laneT (l.getD i ⟨0, 0, 0⟩) (laneF l ord).1)
  have b := List.length_filter_le (fun p : Int × Int => decide ((l.getD i ⟨0, 0, 0⟩).f < p.2)) (laneF l ord).1
  unfold laneT at a ⊢
  omega
theorem laneT_len (x : Bx) (ts : List (Int × Int)) : (laneT x ts).length ≤ ts.length := List.length_filter_le _ _
/-- What the walk over boxes keeps. -/
structure LnAt (w : World) (U V M : Nat) (ord : List Nat) (k : Nat) (q : List (Int × Int) × List Int) (wr : World) : Prop where
  below : Below w.heap.size w wr
  lanes : IR U wr q.2
  ord : IR V wr (ord.map fun (i : Nat) => (i : Int))
  taken : ∃ D : DataW Unit, wr.ownsMap Try.prog 3 (plainElem Try.prog 3) M k D ∧ Rep D q.1
set_option maxRecDepth 100000 in
set_option maxHeartbeats 4000000 in
theorem Lanes_of (v : Value) (l : List Bx) (ord : List Nat) (w : World) (hs : BS w v l) (hv : boxesB l = true) (hl : ord.length = l.length) (ho : ∀ i ∈ ord, i < l.length)
    (HC : Kp (∀ W, Below w.heap.size w W → Calls Try.prog 73 #[v] W fun e w' => (∃ V, e = .returned (.slice (some ⟨V, 0, none⟩) l.length l.length) ∧ IR V w' (ord.map fun (i : Nat) => (i : Int)) ∧ W.heap.size ≤ V) ∧ Below W.heap.size W w')) :
    Calls Try.prog 46 #[v] w fun e w' => (∃ U, e = .returned (.tuple #[.slice (some ⟨U, 0, none⟩) l.length l.length, .int .i64 0]) ∧ IR U w' (lanesL l ord)) ∧ Below w.heap.size w w' := by
  have HV : Kp (∀ W, Below w.heap.size w W → Calls Try.prog 36 #[v] W fun e w' => e = .returned (.bool true) ∧ Below W.heap.size W w') := ⟨fun W hW => ValidBoxes_yes v l W (hs.below hW) hv⟩
  obtain ⟨g, c, rfl, -, hi⟩ := hs
  have HS := Lib.hid hi
  have HN : Kp (l.length ≤ 60) := ⟨(boxes_iff.1 hv).1⟩
  have HBX : Kp (∀ i x, l[i]? = some x → bxB x = true) := ⟨fun i x hx => (boxes_iff.1 hv).2 x (List.mem_of_getElem? hx)⟩
  have HL := Kp.mk hl
  have HO := Kp.mk ho
  have hmm := @run_makeMap Try.prog
  clear hi hv hl ho
  go_enter Try.func46, Try.ntmps46
  go_wp2_with fail
  refine (HV.out _ (Below.refl _ _)).mono ?_
  rintro en w1 ⟨rfl, hb1⟩
  have HB1 := Lib.hid hb1
  obtain ⟨W1, hmk, hir, hbw, hsz⟩ := run_zeros w1 l.length (by have := HN.out; omega)
  have HIR := Kp.mk hir
  have HBW : Kp (Below w.heap.size w W1) := ⟨HB1.out.trans (hbw.mono HB1.out.size)⟩
  have HSZ := Kp.mk hsz
  clear hb1 hir hbw hsz
  go_wp2_with fail
  clear hmk hmm
  refine (HC.out _ (HBW.out.alloc HBW.out.size _)).mono ?_
  rintro en w2 ⟨⟨V, rfl, hiv, hV⟩, hb2⟩
  obtain ⟨U, hU⟩ : ∃ U, w1.heap.size = U := ⟨_, rfl⟩
  obtain ⟨M, hM⟩ : ∃ M, W1.heap.size = M := ⟨_, rfl⟩
  have HUM : Kp (w.heap.size ≤ U ∧ U < M ∧ M < V) := ⟨by have := HB1.out.size; have := HSZ.out; rw [World.size_alloc] at hV; omega⟩
  have H0 : Kp (LnAt w U V M ord 0 (laneF l (ord.take 0)) w2) := ⟨⟨(HBW.out.alloc HBW.out.size _).trans (hb2.mono (by have := HBW.out.size; simp; omega)), ?_, hiv, .map [], ?_, rep_nil⟩⟩
  rotate_left
  · rw [← hU]
    exact (HIR.out.on ((Below.refl _ _).alloc (Nat.le_refl _) _)).on hb2
  · rw [← hM]
    exact (World.ownsMap_made _ _ _ _).kept (grown_below hb2 none) (by simp)
  rw [hU, hM]
  clear hU hM hiv hV hb2
  go_wp2
  go_loopw [21] (fun i wr => ∃ k : Nat, k ≤ l.length ∧ i = .int .i64 k ∧ Kp (LnAt w U V M ord k (laneF l (ord.take k)) wr)) (fun i _ => l.length - (intOf i).toNat)
  case atStart => exact ⟨0, Nat.zero_le _, rfl, H0⟩
  case round =>
    clear H0
    obtain ⟨k, hk, rfl, HK⟩ := hrel
    by_cases hlt : k < l.length
    · have hko : k < ord.length := by have := HL.out; omega
      obtain ⟨i, hi⟩ : ∃ i, ord[k]? = some i := ⟨ord[k], List.getElem?_eq_getElem hko⟩
      have hil := HO.out i (List.mem_of_getElem? hi)
      obtain ⟨x, hx⟩ : ∃ x, l[i]? = some x := ⟨l[i], List.getElem?_eq_getElem hil⟩
      obtain ⟨b, o, hg, hbl, hc1, hc2, -⟩ := HS.out i x hx
      subst hg
      have hbx := bx_iff.1 (HBX.out i x hx)
      have c1 : wr.cell? ⟨b, o + i * 3, none⟩ = some (.int .i64 x.f) := (HK.out.below.cell (p := ⟨b, _, none⟩) hbl).trans hc1
      have c0 : wr.cell? ⟨V, k, none⟩ = some (.int .i64 (i : Int)) := HK.out.ord.cell (by rw [List.getElem?_map, hi]; rfl)
      have o1 : (k : Int) < (l.length : Int) := by omega
      have o2 : (i : Int) < (l.length : Int) := by omega
      have o3 : k ≤ 60 := by have := HN.out; omega
      have o4 : i ≤ 60 := by have := HN.out; omega
      have hbr : b < wr.heap.size := Nat.lt_of_lt_of_le hbl HK.out.below.size
      obtain ⟨q, hq⟩ : ∃ q, laneF l (ord.take k) = q := ⟨_, rfl⟩
      have hstep : laneF l (ord.take (k + 1)) = laneGo l q i := by
        have e : ord[k] = i := (List.getElem?_eq_some_iff.1 hi).2
        rw [List.take_succ_eq_append_getElem hko, e, laneF_snoc, hq]
      have hgo : laneGo l q i = ((freeL (laneT x q.1), x.t) :: (laneT x q.1).filter (fun p => !(p.1 == freeL (laneT x q.1))), q.2.set i (freeL (laneT x q.1))) := by
        unfold laneGo; rw [List.getD_eq_getElem?_getD, hx]; rfl
      have HQL : Kp (q.1.length ≤ 60 ∧ q.2.length = l.length) := ⟨by
        have := laneF_len l (ord.take k)
        rw [hq] at this
        have h2 := List.length_take_le k ord
        omega⟩
      rw [hq] at HK
      have HST : Kp (laneF l (ord.take (k + 1)) = ((freeL (laneT x q.1), x.t) :: (laneT x q.1).filter (fun p => !(p.1 == freeL (laneT x q.1))), q.2.set i (freeL (laneT x q.1)))) := ⟨hstep.trans hgo⟩
      obtain ⟨D, hown, hrep⟩ := HK.out.taken
      obtain ⟨es0, hD, hap, hkeys⟩ := hown.entries law_int
      subst hD
      obtain ⟨es1, he1, hperm⟩ := hrep
      obtain rfl : es0 = es1 := by injection he1
      have HOWN := Kp.mk hown
      have HAP := Lib.hid hap
      have HKEYS := Lib.hid hkeys
      have HPERM := Kp.mk hperm
      have HC2 := Kp.mk hc2
      have HBL := Lib.hid hbl
      clear hi hil hx hc1 hc2 hbl hq hstep hgo hown hap hkeys hperm he1
      obtain ⟨X, rfl⟩ : ∃ X, X = wr := ⟨_, rfl⟩
      go_wp2_with (first | (at_range; refine wpList_range_own _ rfl _ 92 rfl 3 3 law_int Try.underlying92 _ M k _ rfl HOWN.out ?_; intro w0 hrg0 hg0 hs0) | go_in)
      go_frame
      obtain ⟨R, hR⟩ : ∃ R, X.heap.size = R := ⟨_, rfl⟩
      have HRX := Kp.mk hR
      rw [hR] at hrg0 ⊢
      have HBM : Kp (b < X.heap.size ∧ b ≠ M) := ⟨hbr, by have := HBL.out; have := HUM.out; omega⟩
      have HCX := Kp.mk c1
      clear hR c1 c0 hbr hs0
      go_loopw [8] (fun _ wr => ∃ (left : Lit → Bool) (cnt : Nat), wr.ranges Try.prog 3 (plainElem Try.prog 3) M R k (Fl es0 x.f left) left cnt ∧ Kp (X.grownBy wr (some M))) (fun _ wr => wr.rangeLeft M R)
      case atStart => exact ⟨_, _, by rw [Fl_start HKEYS.out]; exact hrg0, ⟨hg0.but _⟩⟩
      case round =>
        clear hrg0 hg0
        obtain ⟨left, cnt, hrg, HGW⟩ := hrel
        go_wp2_with (first | (at_next; refine wpList_next_ranges_ii _ rfl _ rfl 3 3 .i64 .i64 law_int Try.underlying3 Try.underlying3 M R k _ _ _ rfl hrg ?_ ?_) | go_in)
        · intro _ hl0
          have hend := hrg.owns
          rw [Fl_end hl0] at hend
          have hrep2 := rep_filter HPERM.out x.f
          have HB4 : Kp (Below w.heap.size w wr) := ⟨HK.out.below.grown HGW.out HK.out.below.size (fun j hj => by cases hj; have := HUM.out; omega)⟩
          have HU4 : Kp (IR U wr q.2) := ⟨HK.out.lanes.same (HGW.out.block U HK.out.lanes.lt (fun e => by have := HUM.out; simp only [Option.some.injEq] at e; omega))⟩
          have HV4 : Kp (IR V wr (ord.map fun (i : Nat) => (i : Int))) := ⟨HK.out.ord.same (HGW.out.block V HK.out.ord.lt (fun e => by have := HUM.out; simp only [Option.some.injEq] at e; omega))⟩
          have HEND := Kp.mk hend
          have HR2 : Kp (Rep (.map (es0.filter fun p => decide (x.f < numP p.2)) : DataW Unit) (laneT x q.1)) := ⟨hrep2⟩
          have HFB := Kp.mk (free_bd (laneT x q.1))
          have HLT : Kp ((laneT x q.1).length ≤ 60) := ⟨Nat.le_trans (laneT_len x q.1) HQL.out.1⟩
          clear hend hrep2 hl0 hrg
          go_wp2_with fail
          refine (free_any M k _ _ wr HEND.out HR2.out (by have := HLT.out; omega)).mono ?_
          obtain ⟨F, hF⟩ : ∃ F, freeL (laneT x q.1) = F := ⟨_, rfl⟩
          rw [hF] at HFB HST ⊢
          clear hF
          rintro en w5 ⟨rfl, hb5⟩
          have HB5 : Kp (Below w.heap.size w w5) := ⟨HB4.out.trans (hb5.mono HB4.out.size)⟩
          have HO5 := Kp.mk (HEND.out.kept (grown_below hb5 none) (by simp))
          have HU5 := Kp.mk (HU4.out.on hb5)
          have HV5 := Kp.mk (HV4.out.on hb5)
          have c2 : w5.cell? ⟨b, o + i * 3 + 1, none⟩ = some (.int .i64 x.t) := (HB5.out.cell (p := ⟨b, _, none⟩) HBL.out).trans HC2.out
          have hF0 : 0 ≤ F ∧ F ≤ 60 := by have := HFB.out; have := HLT.out; omega
          obtain ⟨v0, hv0⟩ : ∃ v0, q.2[i]? = some v0 := ⟨_, List.getElem?_eq_getElem (by rw [HQL.out.2]; omega)⟩
          have HU6 : Kp (∀ w6, w5.grownBy w6 (some M) → IR U w6 q.2) := ⟨fun w6 hg => HU5.out.same (hg.block U HU5.out.lt (fun e => by have := HUM.out; simp only [Option.some.injEq] at e; omega))⟩
          have HV0 := Kp.mk hv0
          clear hb5 hv0
          go_wp2_with (first | (at_mapUpdate; refine wpList_mapUpdate_own _ rfl _ _ _ 92 rfl 3 3 law_int Try.underlying92 _ M k _ rfl HO5.out (by unfold maxLen; omega) _ _ _ rfl rfl (keyOf_int_mk Try.underlying3 (wf_int ⟨by omega, by omega⟩)) _ [] (plainElem_int Try.underlying3 (wf_int ⟨by omega, by omega⟩)) ?_; intro w6 hown6 hgrow6; have cU := (HU6.out w6 hgrow6).cell HV0.out; have fU := (HU6.out w6 hgrow6).froz i) | go_in)
          go_roundw
          case rel =>
            refine ⟨k + 1, by omega, by go_num, ⟨?_, ?_, ?_, ?_⟩⟩
            · exact (HB5.out.grown hgrow6 HB5.out.size (fun j hj => by cases hj; have := HUM.out; omega)).setCell (by have := HUM.out; simp; omega) _
            · rw [HST.out]
              exact (HU6.out w6 hgrow6).set_ i F
            · exact (HV5.out.same (hgrow6.block V HV5.out.lt (fun e => by have := HUM.out; simp only [Option.some.injEq] at e; omega))).same (Below.heap_setCell w6 ⟨U, i, none⟩ _ V (by have := HUM.out; simp only; omega))
            · refine ⟨_, hown6.kept (setCell_grown w6 U i _) (fun e => by have := HUM.out; simp only [Option.some.injEq] at e; omega), ?_⟩
              rw [HST.out]
              exact rep_put HR2.out F x.t
          case measure => simp [intOf]; omega
        · intro y cc w4 cnt1 hwx hwc hlx hat hrg1 hlt1 hg1 hs1 hen
          have HG4 : Kp (X.grownBy w4 (some M)) := ⟨HGW.out.andThen hg1 (fun j hj => by cases hj; exact Or.inl (by rw [HRX.out]; exact Nat.le_refl _))⟩
          have c1 : w4.cell? ⟨b, o + i * 3, none⟩ = some (.int .i64 x.f) := (World.cell?_of_block (a := ⟨b, _, none⟩) (HG4.out.block b HBM.out.1 (fun e => HBM.out.2 (by simpa using e)))).trans HCX.out
          by_cases hle : cc ≤ x.f
          · go_wp2_with (first | (at_delete; refine wpList_delete_ranges _ rfl _ _ 92 3 rfl 3 law_int Try.underlying92 _ M R k _ _ _ rfl hrg1 _ _ rfl (keyOf_int_mk Try.underlying3 hwx) ?_; intro w5 cnt2 hrg2 hle2 hturn; go_frame) | go_in)
            rw [strike_twice] at hrg2
            go_roundw
            case rel => exact ⟨_, cnt2, by rw [← Fl_struck HAP.out (kl := .int .i64 y) trivial hlx hle hat]; exact hrg2, ⟨HG4.out.andThen hturn.grown (fun j hj => by cases hj; exact Or.inr rfl)⟩⟩
            case measure => rw [hrg2.left_eq, hrg.left_eq]; omega
          · go_wp2
            go_roundw
            case rel => exact ⟨_, cnt1, by rw [← Fl_stays HAP.out (kl := .int .i64 y) trivial hlx hle hat]; exact hrg1, HG4⟩
            case measure => rw [hrg1.left_eq, hrg.left_eq]; exact hlt1
    · have e : k = l.length := by omega
      have HE : Kp (LnAt w U V M ord k (laneF l ord) wr) := ⟨by have := HK.out; rw [List.take_of_length_le (by have := HL.out; omega)] at this; exact this⟩
      clear HK e
      go_wp2
      go_ret2
      exact ⟨⟨U, rfl, HE.out.lanes⟩, HE.out.below⟩
end Go.Proofs.Ytbbbnfodjkpiaaa.Cd
