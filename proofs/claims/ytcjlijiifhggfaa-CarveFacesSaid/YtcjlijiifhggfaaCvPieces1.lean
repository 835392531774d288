/-
  WALKS (layer 5, carve): the iterator over the pieces of a block whose grains have no neighbours.
-/
import Derived.Test.YtcjlijiifhggfaaCvGrown
import Derived.Test.YtcjlijiifhggfaaCvLess
import Derived.Test.YtcjlijiifhggfaaCvRangeD
import Derived.Stop.RegionWithIn
namespace Go.Proofs.Ytcjlijiifhggfaa.Cv
open Go Go.RowKit Go.Sort
attribute [local go_sem] Oper.semAt_some

theorem pieces_any (s : Int) (v : Value) (w : World) :
    Calls Try.prog 33 #[.agg #[.int .i64 s, v]] w fun en w' => en = .returned (.func (.func 65) #[] #[.pointer (some ⟨w.heap.size, 0, none⟩)]) ∧ w.alloc (.cells #[.int .i64 s, v] 24) = w' := by
  go_enter Try.func33, Try.ntmps33
  go_wp2
  go_ret
  exact ⟨rfl, rfl⟩
theorem region_name {F : Fence} {n id : Nat} {P : Program} {ops : Array Oper} {Q : Exit → Act → World → Prop} {a : Act} {w : World} (h : ∀ ops' Q', ops' = ops → Q' = Q → (Code.region id ops' true).wpIn F n P Q' a w) : (Code.region id ops true).wpIn F n P Q a w := h ops Q rfl rfl
/-- No two grains are neighbours. -/
def lone (s : Nat) (h : List Bool) : Prop := ∀ g ∈ grainsL s h, ∀ n ∈ aroundL g, hasB s h n = false
/-- Which were met: a mark for each grain. -/
def metL (s : Nat) (l : List Gr) : List Bool := (placesL s).map fun g => decide (g ∈ l)
theorem metL_len (s : Nat) (l : List Gr) : (metL s l).length = s * s * s := by unfold metL; rw [List.length_map, places_len]
theorem metL_nil (s : Nat) : metL s [] = List.replicate (s * s * s) false := by
  unfold metL
  simp only [List.not_mem_nil, decide_false]
  rw [List.map_const', places_len]
theorem metL_at {s : Nat} {l : List Gr} {x : Gr} (hx : x ∈ placesL s) : ∃ k : Nat, idx s x = k ∧ k < s * s * s ∧ (metL s l)[k]? = some (decide (x ∈ l)) ∧ metL s (l ++ [x]) = (metL s l).set k true := by
  obtain ⟨j, hj, rfl⟩ := List.mem_map.1 hx
  have hj := List.mem_range.1 hj
  refine ⟨j, grAt_idx s j, hj, ?_, ?_⟩
  · unfold metL
    rw [List.getElem?_map, places_at hj]
    rfl
  · apply List.ext_getElem?
    intro i
    rw [List.getElem?_set]
    unfold metL
    rw [List.length_map, places_len, List.getElem?_map, List.getElem?_map]
    by_cases hi : j = i
    · subst hi
      rw [if_pos rfl, if_pos hj, places_at hj]
      simp
    · rw [if_neg hi]
      by_cases hil : i < s * s * s
      · rw [places_at hil]
        simp only [Option.map_some, Option.some.injEq]
        have hne : grAt s i ≠ grAt s j := fun e => hi (by
          have h1 := grAt_idx s i
          have h2 := grAt_idx s j
          rw [e, h2] at h1
          exact Int.ofNat.inj h1)
        simp [hne]
      · rw [List.getElem?_eq_none (by rw [places_len]; omega)]
        rfl
def encP (_ : Gr) (v : Array Value) (_ : World) : Prop := ∃ g cp, v = #[.slice g 1 cp]
theorem MR.made {M n : Nat} {W : World} {t : TypeId} (h : W.heap[M]? = some (.cells ((List.replicate n false).map Value.bool).toArray t)) : MR M n n (List.replicate n false) W := by
  have hM := (Array.getElem?_eq_some_iff.1 h).1
  refine ⟨⟨some ⟨M, 0, none⟩, n, by rw [List.length_replicate], by rw [List.length_replicate]; exact Nat.le_refl _, fun i x hx => ⟨M, 0, rfl, hM, ?_⟩⟩, List.length_replicate, fun j => frozen_of_row W M j _ _ h⟩
  rw [Nat.zero_add, cell_of_row W M i _ _ (0, 0) h]
  simp only [List.getElem?_toArray, List.getElem?_map, hx]
  rfl
/-- A row without marks is made. -/
theorem run_falses (W : World) (n : Nat) (hn : n ≤ 100000) : ∃ W', (Instr.makeSlice 22 (.int .i64 (n : Int)) (.int .i64 (n : Int))).run Try.prog W = .ok (.slice (some ⟨W.heap.size, 0, none⟩) n n) W' ∧ MR W.heap.size n n (List.replicate n false) W' ∧ Below W.heap.size W W' ∧ W'.heap.size = W.heap.size + 1 := by
  obtain ⟨i0, hi0, hz0, hz1, hz2⟩ := info_parts info_bool
  have hr := run_make (P := Try.prog) W 22 4 i0 (.bool false) Try.underlying22 hi0 hz0 .i64 .i64 n n (by omega) (Int.le_refl _) (by rw [hz2]; omega) (by omega)
  simp only [Int.toNat_natCast] at hr
  refine ⟨_, hr, ?_, (Below.refl _ _).alloc (Nat.le_refl _) _, by simp⟩
  have e : madeCells (Value.bool false).cells (n * i0.size) = ((List.replicate n false).map Value.bool).toArray := by
    rw [hz1, Nat.mul_one]
    apply Array.ext'
    rw [List.map_replicate]
    exact toList_madeCells_one (.bool false) n
  rw [e]
  exact MR.made (World.alloc_heap_new W _)
/-- What the iterator keeps, besides what its caller does. -/
structure PI (lp Y B H o c s : Nat) (h : List Bool) (l : List Gr) (V : World) : Prop where
  block : BK B H o c s h V
  yield_ : V.cell? ⟨Y, 0, none⟩ = some (.func (.yield lp) #[] #[])
  met_ : V.cell? ⟨Y + 2, 0, none⟩ = some (.slice (some ⟨Y + 1, 0, none⟩) h.length h.length)
  row : MR (Y + 1) h.length h.length (metL s l) V
  size : Y + 4 ≤ V.heap.size
theorem pieces_start {lp Y B H o c s : Nat} {h : List Bool} {W W5 W0 : World} {t t1 t2 : TypeId} (hk : BK B H o c s h W) (hY : W.heap.size = Y) (hl : h.length = s * s * s) (hL : 0 < h.length) (hm : MR (Y + 1) h.length h.length (List.replicate h.length false) W5) (hb5 : Below (W.alloc (.cells #[.func (.yield lp) #[] #[]] t)).heap.size (W.alloc (.cells #[.func (.yield lp) #[] #[]] t)) W5) (hz5 : W5.heap.size = Y + 2)
    (h0 : (W5.alloc (.cells #[.slice (some ⟨Y + 1, 0, none⟩) h.length h.length] t1)).alloc (.cells #[.int .i64 s, .slice (some ⟨H, o, none⟩) h.length c] t2) = W0) :
    W0.heap.size = Y + 4 ∧ Below W.heap.size W W0 ∧ BK (Y + 3) H o c s h W0 ∧ PI lp Y B H o c s h [] W0 := by
  subst h0
  subst hY
  have b1 : Below W.heap.size W (W.alloc (.cells #[.func (.yield lp) #[] #[]] t)) := (Below.refl _ _).alloc (Nat.le_refl _) _
  have k5 := (hk.on b1).on hb5
  have b6 := (Below.refl _ W5).alloc (Nat.le_refl _) (.cells #[.slice (some ⟨W.heap.size + 1, 0, none⟩) h.length h.length] t1)
  have k6 := k5.on b6
  have k7 := k6.copy (t := t2)
  have b7 := (Below.refl _ (W5.alloc (.cells #[.slice (some ⟨W.heap.size + 1, 0, none⟩) h.length h.length] t1))).alloc (Nat.le_refl _) (.cells #[.int .i64 s, .slice (some ⟨H, o, none⟩) h.length c] t2)
  have b57 := b6.trans (b7.mono b6.size)
  rw [World.size_alloc, hz5] at k7
  have hy5 : W5.cell? ⟨W.heap.size, 0, none⟩ = some (.func (.yield lp) #[] #[]) := (hb5.cell (p := ⟨W.heap.size, 0, none⟩) (by simp)).trans (by go_simp)
  have hm6 : (W5.alloc (.cells #[.slice (some ⟨W.heap.size + 1, 0, none⟩) h.length h.length] t1)).cell? ⟨W.heap.size + 2, 0, none⟩ = some (.slice (some ⟨W.heap.size + 1, 0, none⟩) h.length h.length) := by rw [← hz5]; go_simp
  refine ⟨by simp [hz5], ?_, k7, ⟨k6.on b7, (b57.cell (p := ⟨W.heap.size, 0, none⟩) (by simp only; omega)).trans hy5, (b7.cell (p := ⟨W.heap.size + 2, 0, none⟩) (by simp [hz5])).trans hm6, ?_, by simp [hz5]⟩⟩
  · exact (b1.trans (hb5.mono (by simp))).trans (b57.mono (by rw [hz5]; omega))
  · rw [metL_nil, ← hl]
    exact hm.on hL b57
theorem Turns.less {k B C : Nat} {I : World → Prop} (h : Turns k B I) (hB : B ≤ C) : Turns 0 C I := fun X V row hX g hr => h X V row hX g fun r e => by
  obtain ⟨h1, h2⟩ := hr r e
  exact ⟨by omega, .inr (by rcases h2 with h2 | h2; omega; exact h2)⟩
theorem yield_bool {en : Ending} {A B C D : Prop} (h : en = .returned (.bool true) ∧ A ∧ B ∨ en = .returned (.bool false) ∧ C ∧ D) : ∃ b, en = .returned (.bool b) ∧ (b = true → A ∧ B) ∧ (b = false → C ∧ D) := by
  rcases h with ⟨rfl, h⟩ | ⟨rfl, h⟩
  · exact ⟨true, rfl, fun _ => h, fun e => (by cases e)⟩
  · exact ⟨false, rfl, fun e => (by cases e), fun _ => h⟩
theorem places_nodup (s : Nat) : (placesL s).Nodup := by
  unfold placesL
  rw [List.nodup_iff_pairwise_ne, List.pairwise_map]
  refine (List.nodup_iff_pairwise_ne.1 List.nodup_range).imp ?_
  intro a b hab e
  have h1 := grAt_idx s a
  have h2 := grAt_idx s b
  rw [e, h2] at h1
  exact hab (Int.ofNat.inj h1).symm
theorem fresh {s : Nat} {h : List Bool} {pre : List Gr} {x : Gr} (hp : pre ++ [x] <+: grainsL s h) : x ∉ pre := by
  have h1 : (grainsL s h).Nodup := (places_nodup s).sublist List.filter_sublist
  have h2 := h1.sublist hp.sublist
  intro hx
  exact (List.nodup_append.1 h2).2.2 x hx x (by simp) rfl
theorem PI.same {lp Y B H o c s : Nat} {h : List Bool} {l : List Gr} {V X : World} (k : PI lp Y B H o c s h l V) (hz : V.heap.size ≤ X.heap.size) (h1 : X.heap[B]? = V.heap[B]?) (h2 : X.heap[H]? = V.heap[H]?) (h3 : X.heap[Y]? = V.heap[Y]?) (h4 : X.heap[Y + 1]? = V.heap[Y + 1]?) (h5 : X.heap[Y + 2]? = V.heap[Y + 2]?) : PI lp Y B H o c s h l X :=
  ⟨k.block.same hz h1 h2, (World.cell?_of_block (a := ⟨Y, 0, none⟩) h3).trans k.yield_, (World.cell?_of_block (a := ⟨Y + 2, 0, none⟩) h5).trans k.met_, k.row.same hz h4, Nat.le_trans k.size hz⟩
theorem PI.on {lp Y B H o c s : Nat} {h : List Bool} {l : List Gr} {V X : World} (k : PI lp Y B H o c s h l V) (hb : Below V.heap.size V X) : PI lp Y B H o c s h l X := by
  have := k.size
  exact k.same hb.size (hb.block _ k.block.ltB) (hb.block _ k.block.ltH) (hb.block _ (by omega)) (hb.block _ (by omega)) (hb.block _ (by omega))
/-- What a grown piece leaves. -/
theorem PI.grown {lp Y B H o c s k : Nat} {h : List Bool} {pre : List Gr} {x : Gr} {V w5 w6 : World} (hk : PI lp Y B H o c s h pre V) (hB : B < Y) (hH : H < Y) (hms : metL s (pre ++ [x]) = (metL s pre).set k true) (hb : Below V.heap.size V w5) (hm : MR (Y + 1) h.length h.length ((metL s pre).set k true) w6) (hg : w5.grownBy w6 (some (Y + 1))) :
    PI lp Y B H o c s h (pre ++ [x]) w6 ∧ w6.cell? ⟨Y, 0, none⟩ = some (.func (.yield lp) #[] #[]) ∧ V.grownBy w6 (some (Y + 1)) := by
  have k5 := hk.on hb
  have hz := k5.size
  have key : ∀ j, j < Y + 3 → j ≠ Y + 1 → w6.heap[j]? = w5.heap[j]? := fun j hj hn => hg.block j (by omega) (fun e => hn (Option.some.inj e))
  have hy := (World.cell?_of_block (a := ⟨Y, 0, none⟩) (key Y (by omega) (by omega))).trans k5.yield_
  exact ⟨⟨k5.block.same hg.size (key _ (by omega) (by omega)) (key _ (by omega) (by omega)), hy, (World.cell?_of_block (a := ⟨Y + 2, 0, none⟩) (key (Y + 2) (by omega) (by omega))).trans k5.met_, by rw [hms]; exact hm, Nat.le_trans hz hg.size⟩, hy, grown_trans (grown_below hb _) hg⟩
theorem PI.turns {lp Y B H o c s C : Nat} {h : List Bool} {l : List Gr} (hC : Y + 3 ≤ C) (hB : B < Y) (hH : H < Y) : Turns 0 C (PI lp Y B H o c s h l) := by
  intro X V row k g hr
  have hz := k.size
  have key : ∀ j, j < Y + 3 → V.heap[j]? = X.heap[j]? := fun j hj => g.block j (by omega) (fun e => by have := (hr j e.symm).1; omega)
  exact k.same g.size (key _ (by omega)) (key _ (by omega)) (key _ (by omega)) (key _ (by omega)) (key _ (by omega))
theorem PI.keep {lp Y B H o c s : Nat} {h : List Bool} {l : List Gr} {V X : World} (k : PI lp Y B H o c s h l V) (hk : Keep (SB B H) 8 Y V X) : PI lp Y B H o c s h l X := by
  have hz := k.size
  have key : ∀ j, Y ≤ j → j < Y + 3 → X.heap[j]? = V.heap[j]? := fun j h1 h2 => by
    have ha : V.heap[j]? = some V.heap[j] := Array.getElem?_eq_getElem (by omega)
    rw [hk.own j _ h1 (by omega) ha, ha]
  exact k.same hk.size (hk.same _ (.inl rfl)) (hk.same _ (.inr rfl)) (key _ (by omega) (by omega)) (key _ (by omega) (by omega)) (key _ (by omega) (by omega))
set_option maxRecDepth 100000 in
set_option maxHeartbeats 4000000 in
theorem pieces_yields (n : Nat) (hn : 4 ≤ n) (B H o c s : Nat) (h : List Bool) (hs : 1 ≤ s) (hs2 : s ≤ 10) (hl : h.length = s * s * s) (hlo : lone s h) (w : World) (hk : BK B H o c s h w) :
    YieldsD 7 encP Fence.wide n Try.prog 65 #[.pointer (some ⟨B, 0, none⟩)] (Keep (SB B H) 8) (grainsL s h) w := by
  intro lp J Jx W hW hsz hJ hJx hY h0
  have kW := hk.on hW
  obtain ⟨Y, hYz⟩ : ∃ Y, W.heap.size = Y := ⟨_, rfl⟩
  have HYZ := Kp.mk hYz
  have HK := Kp.mk kW
  have HJ0 := Kp.mk h0
  have HYY := Kp.mk hY
  have HJT := Kp.mk hJ
  have HJX := Kp.mk hJx
  have cS := kW.side
  have cH := kW.has
  have hBl := kW.ltB
  have HHL : Kp (H < Y) := ⟨by have := kW.ltH; omega⟩
  have HLN := Kp.mk hl
  have hL1 : h.length ≤ 1000 := by rw [hl]; exact (cube_bd hs2).2
  have HLO := Kp.mk hlo
  clear hl h0 hY hJ hJx hW hsz hk kW hYz hlo
  refine callsIn_of_wp_marks Try.func65 rfl trivial ?_ rfl
  simp only [Try.ntmps65, List.size_toArray, List.length_cons, List.length_nil, Nat.reduceAdd, Nat.reduceSub, Array.replicate_succ, Array.replicate_zero, List.push_toArray, List.append_toArray, List.nil_append, List.cons_append]
  obtain ⟨W5, hrun, hmr, hb5, hz5⟩ := run_falses (W.alloc (.cells #[.func (.yield lp) #[] #[]] 97)) h.length (by omega)
  have hL0 : 0 < h.length := by rw [HLN.out]; exact Nat.mul_pos (Nat.mul_pos (by omega) (by omega)) (by omega)
  have b1 : Below W.heap.size W (W.alloc (.cells #[.func (.yield lp) #[] #[]] 97)) := (Below.refl _ _).alloc (Nat.le_refl _) _
  have bw5 := b1.trans (hb5.mono (by simp))
  have c5S := (bw5.cell (p := ⟨B, 0, none⟩) hBl).trans cS
  have c5H := (bw5.cell (p := ⟨B, 1, none⟩) hBl).trans cH
  have hB5 : B < Y + 2 := by have := HYZ.out; omega
  rw [World.size_alloc, HYZ.out] at hz5 hmr
  have HST := Kp.mk (fun (W0 : World) => @pieces_start lp Y B H o c s h W W5 W0 97 22 24 HK.out HYZ.out HLN.out hL0 hmr hb5 hz5)
  have hYY := HYZ.out
  rw [World.size_alloc, hYY] at hrun
  rw [hYY] at hBl
  clear b1 bw5 hmr hb5
  gi_wp2_with fail
  refine ⟨trivial, fun e => (by cases e), (callsIn_wide.2 (grains_any _ _ _)).mono ?_⟩
  rintro en W0 ⟨rfl, hW0⟩
  obtain ⟨z0, hb0, hk0, hg0⟩ := HST.out _ hW0
  have HW : Kp (W0.heap.size = Y + 4 ∧ B < Y) := ⟨z0, hBl⟩
  have HK0 := Kp.mk hk0
  have HG0 := Kp.mk hg0
  have HS0 : Kp (J [] W0) := ⟨HJT.out _ W W0 none HJ0.out (grown_below hb0 none) (fun r e => by cases e)⟩
  clear hW0 z0 hb0 hk0 hg0 HST hrun c5S c5H
  gi_wp2
  try simp only [hz5]
  clear hz5 hB5 hYY cS cH
  refine wpIn_yieldsS (k := 0) (enc := encG) (xs := grainsL s h) rfl (by omega) (gf := 79) (lb := #[.pointer (some ⟨Y + 2 + 1, 0, none⟩)]) rfl trivial (enters_of Try.func79 (by kernel_rfl) rfl) (fun _ => rfl)
    (grains_yields (n - 1) (by omega) (Y + 2 + 1) H o c s h hs hs2 HLN.out W0 HK0.out) Keep.trans (fun V o o' _ _ _ => Keep.putObj (by omega) (by have := HW.out; have := HHL.out; rintro (e | e) <;> omega))
    (fun pre V => J pre V ∧ PI lp Y B H o c s h pre V)
    (fun cd ys V => cd = .ret ∧ Jx ys V)
    ?i1 ?i2
    ⟨HS0.out, HG0.out⟩
    (fun pre x a' V => (J pre V ∧ PI lp Y B H o c s h pre V) ∧ ∃ G, Y + 5 < G ∧ GrAt V G x ∧ a' = { tmps := #[.func (.yield lp) #[] #[], .pointer (some ⟨B, 0, none⟩), .pointer (some ⟨Y, 0, none⟩), .pointer (some ⟨Y + 1 + 1, 0, none⟩), .pointer (some ⟨G, 0, none⟩), .pointer (some ⟨B, 1, none⟩), .slice (some ⟨H, o, none⟩) h.length c, .int .i64 (h.length : Int), .slice (some ⟨Y + 1, 0, none⟩) h.length h.length, .agg #[.int .i64 s, .slice (some ⟨H, o, none⟩) h.length c], .func (.func 79) #[] #[.pointer (some ⟨Y + 2 + 1, 0, none⟩)], .agg #[.int .i64 x.x, .int .i64 x.y, .int .i64 x.z], undef, undef, undef, undef, undef, undef, undef, undef, undef, undef, undef, undef, undef, undef, undef, undef, undef], defers := [] })
    ?ax ?assign ?body ?done ?stop
  case i1 => exact fun q => Turns.abides (C := Y + 3) (turns_and ((HJT.out q).less (by have := HYZ.out; omega)) (PI.turns (Nat.le_refl _) HW.out.2 HHL.out)) (by have := HW.out.1; omega)
  case i2 => exact fun cd q => Turns.abides (C := Y + 3) (turns_and turns_const ((HJX.out q).less (by have := HYZ.out; omega))) (by have := HW.out.1; omega)
  case ax =>
    rintro pre x a' X V row ⟨hi, G, hG, hx, ha⟩ g hr
    exact ⟨Turns.abides (C := Y + 3) (turns_and ((HJT.out pre).less (by have := HYZ.out; omega)) (PI.turns (Nat.le_refl _) HW.out.2 HHL.out)) (by have := HW.out.1; omega) X V row hi g hr, G, hG, GrAt.abide hx g hr (by have := HW.out.1; omega), ha⟩
  case assign =>
    rintro l2 pre ⟨gx, gy, gz⟩ V hi _ hsz
    have HI := Kp.mk hi
    clear hi
    have ez : ((#[11] : Array Tmp).zip (encG ⟨gx, gy, gz⟩)).foldl (fun tmps (q : Tmp × Value) => tmps.setIfInBounds q.1 q.2) #[.func (.yield lp) #[] #[], .pointer (some ⟨B, 0, none⟩), .pointer (some ⟨Y, 0, none⟩), .pointer (some ⟨Y + 1 + 1, 0, none⟩), undef, .pointer (some ⟨B, 1, none⟩), .slice (some ⟨H, o, none⟩) h.length c, .int .i64 (h.length : Int), .slice (some ⟨Y + 1, 0, none⟩) h.length h.length, .agg #[.int .i64 s, .slice (some ⟨H, o, none⟩) h.length c], .func (.func 79) #[] #[.pointer (some ⟨Y + 2 + 1, 0, none⟩)], undef, undef, undef, undef, undef, undef, undef, undef, undef, undef, undef, undef, undef, undef, undef, undef, undef, undef] = #[.func (.yield lp) #[] #[], .pointer (some ⟨B, 0, none⟩), .pointer (some ⟨Y, 0, none⟩), .pointer (some ⟨Y + 1 + 1, 0, none⟩), undef, .pointer (some ⟨B, 1, none⟩), .slice (some ⟨H, o, none⟩) h.length c, .int .i64 (h.length : Int), .slice (some ⟨Y + 1, 0, none⟩) h.length h.length, .agg #[.int .i64 s, .slice (some ⟨H, o, none⟩) h.length c], .func (.func 79) #[] #[.pointer (some ⟨Y + 2 + 1, 0, none⟩)], .agg #[.int .i64 gx, .int .i64 gy, .int .i64 gz], undef, undef, undef, undef, undef, undef, undef, undef, undef, undef, undef, undef, undef, undef, undef, undef, undef] := by simp [encG]
    rw [ez]
    clear ez
    gi_wp2
    have hzv : Y + 5 < V.heap.size := by have := HW.out.1; omega
    have hbb : Below V.heap.size V (V.alloc (.cells #[.int .i64 gx, .int .i64 gy, .int .i64 gz] 48)) := (Below.refl _ _).alloc (Nat.le_refl _) _
    refine ⟨alloc_keeps _ _ _, Keep.below hbb (fun j hj => by have := HW.out; have := HHL.out; rcases hj with rfl | rfl <;> omega), ⟨?_, HI.out.2.on hbb⟩, V.heap.size, hzv, ⟨by go_simp, by go_simp, by go_simp⟩, rfl⟩
    exact HJT.out _ V _ none HI.out.1 (grown_below hbb none) (fun r e => by cases e)
  case body =>
    rintro l2 pre x a' V ⟨⟨hj, hg⟩, G, hG, hgr, rfl⟩ hpre hsz
    have hmx : x ∈ grainsL s h := hpre.subset (by simp)
    have hxp : x ∈ placesL s := by unfold grainsL at hmx; exact (List.mem_filter.1 hmx).1
    have hxh : hasB s h x = true := by unfold grainsL at hmx; exact (List.mem_filter.1 hmx).2
    obtain ⟨k, hik, hkl, hmk, hms⟩ := metL_at (l := pre) hxp
    rw [decide_eq_false (fresh hpre)] at hmk
    have hkL : k < h.length := by rw [HLN.out]; exact hkl
    have hzV := hg.size
    have hGV := World.block_lt_of_cell? _ _ hgr.c0
    have HSZ : Kp (W0.heap.size = Y + 4 ∧ W0.heap.size + 2 ≤ V.heap.size ∧ B < Y ∧ H < Y ∧ Y + 7 ≤ V.heap.size) := ⟨HW.out.1, by omega, HW.out.2, HHL.out, by simp only at hGV; omega⟩
    have HX : Kp (∀ W, Calls Try.prog 66 #[.agg #[.int .i64 x.x, .int .i64 x.y, .int .i64 x.z], .int .i64 s] W fun e w' => e = .returned (.int .i64 k) ∧ Below W.heap.size W w') := ⟨fun W => hik ▸ index_any hs2 x (mem_ins hxp) W⟩
    have HGR : Kp (∀ W, Below V.heap.size V W → Calls Try.prog 67 #[.agg #[.int .i64 s, .slice (some ⟨H, o, none⟩) h.length c], .slice (some ⟨Y + 1, 0, none⟩) h.length h.length, .agg #[.int .i64 x.x, .int .i64 x.y, .int .i64 x.z]] W fun e w' => ∃ g cp, e = .returned (.slice g 1 cp) ∧ MR (Y + 1) h.length h.length ((metL s pre).set k true) w' ∧ W.grownBy w' (some (Y + 1))) := ⟨fun W hW => by
      have hp := hg.on hW
      refine (grown_lone H o c s (Y + 1) h.length h.length k h (metL s pre) x W hs2 HLN.out hp.block.row hp.block.first hp.row hxh (HLO.out x hmx) hik hkL hmk (by have := HHL.out; omega)).mono ?_
      rintro e w' ⟨g, cp, rfl, -, h2, h3⟩
      exact ⟨g, cp, rfl, h2, h3⟩⟩
    have HALL : Kp (∀ W, Below V.heap.size V W → W.cell? ⟨Y + 1 + 1, 0, none⟩ = some (.slice (some ⟨Y + 1, 0, none⟩) h.length h.length) ∧ W.cell? ⟨G, 0, none⟩ = some (.int .i64 x.x) ∧ W.cell? ⟨G, 1, none⟩ = some (.int .i64 x.y) ∧ W.cell? ⟨G, 2, none⟩ = some (.int .i64 x.z) ∧ W.cell? ⟨B, 0, none⟩ = some (.int .i64 s) ∧ W.cell? ⟨B, 1, none⟩ = some (.slice (some ⟨H, o, none⟩) h.length c) ∧ W.cell? ⟨Y + 1, k, none⟩ = some (.bool false) ∧ W.cell? ⟨Y, 0, none⟩ = some (.func (.yield lp) #[] #[])) := ⟨fun W hW => by
      have hp := hg.on hW
      have hg2 := hgr.on hW
      exact ⟨hp.met_, hg2.c0, hg2.c1, hg2.c2, hp.block.side, hp.block.has, hp.row.cell hmk, hp.yield_⟩⟩
    have HAFT : Kp (∀ w5 w6, Below V.heap.size V w5 → MR (Y + 1) h.length h.length ((metL s pre).set k true) w6 → w5.grownBy w6 (some (Y + 1)) → PI lp Y B H o c s h (pre ++ [x]) w6 ∧ w6.cell? ⟨Y, 0, none⟩ = some (.func (.yield lp) #[] #[]) ∧ V.grownBy w6 (some (Y + 1)) ∧ J pre w6 ∧ V.heap.size ≤ w6.heap.size) := ⟨fun w5 w6 hb hm h6 => by
      obtain ⟨r1, r2, r3⟩ := hg.grown HW.out.2 HHL.out hms hb hm h6
      exact ⟨r1, r2, r3, HJT.out _ V w6 _ hj r3 (fun r e => by cases e; exact ⟨by have := HYZ.out; omega, .inl (by have := HYZ.out; omega)⟩), r3.size⟩⟩
    have HYV : Kp (∀ w6 g cp, J pre w6 → V.heap.size ≤ w6.heap.size → YieldAt Fence.wide (n - 1 - 1 - 1) Try.prog lp #[.slice g 1 cp] w6 fun e W' => (e = .returned (.bool true) ∧ J (pre ++ [x]) W' ∧ Keep (SB B H) 8 Y w6 W') ∨ (e = .returned (.bool false) ∧ Jx (pre ++ [x]) W' ∧ KeepsFrom Y w6 W')) := ⟨fun w6 g cp h1 h2 => by
      have := yield_any (n - 1 - 1 - 1) (HYY.out pre x #[.slice g 1 cp] w6 h1 ⟨g, cp, rfl⟩ hpre (by have := HYZ.out; have := HSZ.out; omega))
      rwa [HYZ.out] at this⟩
    obtain ⟨a0, a1, a2, a3, a4, a5, a6, a7⟩ := HALL.out V (Below.refl _ _)
    have o1 : (k : Int) < (h.length : Int) := by omega
    obtain ⟨gx, gy, gz⟩ := x
    clear hmx hxp hxh hik hkl hmk hms hj hg hgr hpre hG hzV hGV
    gi_wp2_with fail
    refine region_name ?_
    intro ops Qp hops hQp
    have HYIELD : ∀ (w6 : World) (g : Option Addr) (cp : Nat), PI lp Y B H o c s h (pre ++ [⟨gx, gy, gz⟩]) w6 → V.grownBy w6 (some (Y + 1)) → w6.cell? ⟨Y, 0, none⟩ = some (.func (.yield lp) #[] #[]) → J pre w6 → V.heap.size ≤ w6.heap.size → wpAnyIn (Fence.wide.inRound l2) (n - 1 - 1) Try.prog .any ops Qp 3 #[true, true, true, true, true, true, true, true, true, true, true, true, true, true, false, false, false] { tmps := #[.func (.yield lp) #[] #[], .pointer (some ⟨B, 0, none⟩), .pointer (some ⟨Y, 0, none⟩), .pointer (some ⟨Y + 1 + 1, 0, none⟩), .pointer (some ⟨G, 0, none⟩), .pointer (some ⟨B, 1, none⟩), .slice (some ⟨H, o, none⟩) h.length c, .int .i64 (h.length : Int), .slice (some ⟨Y + 1, 0, none⟩) h.length h.length, .agg #[.int .i64 s, .slice (some ⟨H, o, none⟩) h.length c], .func (.func 79) #[] #[.pointer (some ⟨Y + 2 + 1, 0, none⟩)], .agg #[.int .i64 gx, .int .i64 gy, .int .i64 gz], .slice (some ⟨Y + 1, 0, none⟩) h.length h.length, .agg #[.int .i64 gx, .int .i64 gy, .int .i64 gz], .pointer (some ⟨B, 0, none⟩), .int .i64 s, .int .i64 (k : Int), .pointer (some ⟨Y + 1, k, none⟩), .bool false, .bool true, .bool true, .func (.yield lp) #[] #[], .agg #[.int .i64 s, .slice (some ⟨H, o, none⟩) h.length c], .slice (some ⟨Y + 1, 0, none⟩) h.length h.length, .agg #[.int .i64 gx, .int .i64 gy, .int .i64 gz], .slice g 1 cp, undef, undef, undef], defers := [] } w6 := by
      intro w6 g cp hP6 hV6 y6 hj6 hz6
      have HP6 := Kp.mk hP6
      have HV6 := Kp.mk hV6
      obtain ⟨fn, tmps, assign, body, hy, hRd⟩ := HYV.out w6 g cp hj6 hz6
      have HRd := Kp.mk hRd
      clear hP6 hV6 hj6 hz6 hRd
      subst hops
      refine wpAnyIn_ready (rs := [14]) (by kernel_rfl) (by simp) ?_
      refine AllReadyIn.cons rfl (fun K hK => ?_) AllReadyIn.nil
      go_simp
      refine ⟨fun e => (by cases e), (show RoundIn (Fence.wide.inRound l2) (n - 1 - 1 - 1) Try.prog lp fn tmps assign body w6 _ from HRd.out).mono ?_⟩
      rintro en W3 h3
      obtain ⟨q, rfl, hq1, hq2⟩ := yield_bool h3
      have HQ1 := Kp.mk hq1
      have HQ2 := Kp.mk hq2
      clear h3 hq1 hq2 hy
      refine hK _ _ ?_
      refine wpAnyIn_ready (rs := [15]) (by kernel_rfl) (by simp) ?_
      refine AllReadyIn.cons rfl (fun K hK => ?_) AllReadyIn.nil
      go_simp
      refine hK _ _ ?_
      refine wpAnyIn_ready (rs := [16]) (by kernel_rfl) (by simp) ?_
      refine AllReadyIn.cons rfl (fun K hK => ?_) AllReadyIn.nil
      go_simp
      refine hK _ _ ?_
      refine wpAnyIn_done (by kernel_rfl) ?_ _
      subst hQp
      have HK3 : Kp (∀ X, Keep (SB B H) 8 Y w6 X → KeepsFrom W0.heap.size V X ∧ Keep (SB (Y + 2 + 1) H) 2 (W0.heap.size + 2) V X ∧ PI lp Y B H o c s h (pre ++ [⟨gx, gy, gz⟩]) X) := ⟨fun X hX => by
        have hz := HSZ.out
        have hv := HV6.out
        have h6 := HP6.out.size
        refine ⟨(KeepsFrom.of_grownBy hv (fun j e => by simp only [Option.some.injEq] at e; omega)).trans (keeps_more hX.from (by omega)), (Keep.of_grown hv (fun j hj => by rcases hj with rfl | rfl <;> omega) (fun r e => by simp only [Option.some.injEq] at e; subst e; exact ⟨by omega, by rintro (e | e) <;> omega⟩)).trans (hX.weaken (fun j hj => by have := hv.size; rcases hj with rfl | rfl; exact .inr ⟨by omega, by omega, by omega⟩; exact .inl (.inr rfl)) (by omega) (.inl (by omega))), HP6.out.keep hX⟩⟩
      have HF3 : Kp (∀ X, KeepsFrom Y w6 X → KeepsFrom W0.heap.size V X) := ⟨fun X hX => by
        have hz := HSZ.out
        exact (KeepsFrom.of_grownBy HV6.out (fun j e => by simp only [Option.some.injEq] at e; omega)).trans (keeps_more hX (by omega))⟩
      cases q with
      | true =>
        obtain ⟨h3, h4⟩ := HQ1.out rfl
        have HJ3 := Kp.mk h3
        obtain ⟨h5, h6, h7⟩ := HK3.out W3 h4
        have HR := Lib.hid (And.intro h5 (And.intro h6 h7))
        clear h3 h4 h5 h6 h7
        gi_wp2
        exact ⟨HR.out.1, HR.out.2.1, HJ3.out, HR.out.2.2⟩
      | false =>
        obtain ⟨h3, h4⟩ := HQ2.out rfl
        have HX3 := Kp.mk h3
        have HF4 := Kp.mk (HF3.out W3 h4)
        clear h3 h4
        gi_wp2
        exact ⟨HF4.out, rfl, HX3.out⟩
    have T9_10_11_12_13 : ∀ (w5 w6 : World) (g : Option Addr) (cp : Nat), Below V.heap.size V w5 → MR (Y + 1) h.length h.length ((metL s pre).set k true) w6 → w5.grownBy w6 (some (Y + 1)) → wpAnyIn (Fence.wide.inRound l2) (n - 1 - 1) Try.prog .any ops Qp 3 #[true, true, true, true, true, true, true, true, true, true, true, true, true, true, false, false, false] { tmps := #[.func (.yield lp) #[] #[], .pointer (some ⟨B, 0, none⟩), .pointer (some ⟨Y, 0, none⟩), .pointer (some ⟨Y + 1 + 1, 0, none⟩), .pointer (some ⟨G, 0, none⟩), .pointer (some ⟨B, 1, none⟩), .slice (some ⟨H, o, none⟩) h.length c, .int .i64 (h.length : Int), .slice (some ⟨Y + 1, 0, none⟩) h.length h.length, .agg #[.int .i64 s, .slice (some ⟨H, o, none⟩) h.length c], .func (.func 79) #[] #[.pointer (some ⟨Y + 2 + 1, 0, none⟩)], .agg #[.int .i64 gx, .int .i64 gy, .int .i64 gz], .slice (some ⟨Y + 1, 0, none⟩) h.length h.length, .agg #[.int .i64 gx, .int .i64 gy, .int .i64 gz], .pointer (some ⟨B, 0, none⟩), .int .i64 s, .int .i64 (k : Int), .pointer (some ⟨Y + 1, k, none⟩), .bool false, .bool true, .bool true, .func (.yield lp) #[] #[], .agg #[.int .i64 s, .slice (some ⟨H, o, none⟩) h.length c], .slice (some ⟨Y + 1, 0, none⟩) h.length h.length, .agg #[.int .i64 gx, .int .i64 gy, .int .i64 gz], .slice g 1 cp, undef, undef, undef], defers := [] } w6 := by
      intro w5 w6 g cp hb5 hm6 hg6
      obtain ⟨hP6, y6, hV6, hj6, hz6⟩ := HAFT.out w5 w6 hb5 hm6 hg6
      exact HYIELD w6 g cp hP6 hV6 y6 hj6 hz6
    have T9_10_11_12 : ∀ w' : World, Below V.heap.size V w' → wpAnyIn (Fence.wide.inRound l2) (n - 1 - 1) Try.prog .any ops Qp 4 #[true, true, true, true, true, true, true, true, true, true, true, true, true, false, false, false, false] { tmps := #[.func (.yield lp) #[] #[], .pointer (some ⟨B, 0, none⟩), .pointer (some ⟨Y, 0, none⟩), .pointer (some ⟨Y + 1 + 1, 0, none⟩), .pointer (some ⟨G, 0, none⟩), .pointer (some ⟨B, 1, none⟩), .slice (some ⟨H, o, none⟩) h.length c, .int .i64 (h.length : Int), .slice (some ⟨Y + 1, 0, none⟩) h.length h.length, .agg #[.int .i64 s, .slice (some ⟨H, o, none⟩) h.length c], .func (.func 79) #[] #[.pointer (some ⟨Y + 2 + 1, 0, none⟩)], .agg #[.int .i64 gx, .int .i64 gy, .int .i64 gz], .slice (some ⟨Y + 1, 0, none⟩) h.length h.length, .agg #[.int .i64 gx, .int .i64 gy, .int .i64 gz], .pointer (some ⟨B, 0, none⟩), .int .i64 s, .int .i64 (k : Int), .pointer (some ⟨Y + 1, k, none⟩), .bool false, .bool true, .bool true, .func (.yield lp) #[] #[], .agg #[.int .i64 s, .slice (some ⟨H, o, none⟩) h.length c], .slice (some ⟨Y + 1, 0, none⟩) h.length h.length, .agg #[.int .i64 gx, .int .i64 gy, .int .i64 gz], undef, undef, undef, undef], defers := [] } w' := by
      intro w' hw
      obtain ⟨b0, b1, b2, b3, b4, b5, b6, b7⟩ := HALL.out w' hw
      subst hops
      refine wpAnyIn_ready (rs := [13]) (by kernel_rfl) (by simp) ?_
      refine AllReadyIn.cons rfl (fun K hK => ?_) ?_
      · go_simp
        refine ⟨trivial, fun e => (by cases e), (CallsIn.inRound l2 (callsIn_wide.2 (HGR.out _ hw))).mono ?_⟩
        rintro en w6 ⟨g, cp, rfl, hm6, hg6⟩
        exact hK _ _ (T9_10_11_12_13 w' w6 g cp hw hm6 hg6)
      exact AllReadyIn.nil
    have T9_10_11 : ∀ w' : World, Below V.heap.size V w' → wpAnyIn (Fence.wide.inRound l2) (n - 1 - 1) Try.prog .any ops Qp 5 #[true, true, true, true, true, true, true, true, true, true, true, true, false, false, false, false, false] { tmps := #[.func (.yield lp) #[] #[], .pointer (some ⟨B, 0, none⟩), .pointer (some ⟨Y, 0, none⟩), .pointer (some ⟨Y + 1 + 1, 0, none⟩), .pointer (some ⟨G, 0, none⟩), .pointer (some ⟨B, 1, none⟩), .slice (some ⟨H, o, none⟩) h.length c, .int .i64 (h.length : Int), .slice (some ⟨Y + 1, 0, none⟩) h.length h.length, .agg #[.int .i64 s, .slice (some ⟨H, o, none⟩) h.length c], .func (.func 79) #[] #[.pointer (some ⟨Y + 2 + 1, 0, none⟩)], .agg #[.int .i64 gx, .int .i64 gy, .int .i64 gz], .slice (some ⟨Y + 1, 0, none⟩) h.length h.length, .agg #[.int .i64 gx, .int .i64 gy, .int .i64 gz], .pointer (some ⟨B, 0, none⟩), .int .i64 s, .int .i64 (k : Int), .pointer (some ⟨Y + 1, k, none⟩), .bool false, .bool true, .bool true, .func (.yield lp) #[] #[], .agg #[.int .i64 s, .slice (some ⟨H, o, none⟩) h.length c], .slice (some ⟨Y + 1, 0, none⟩) h.length h.length, undef, undef, undef, undef, undef], defers := [] } w' := by
      intro w' hw
      obtain ⟨b0, b1, b2, b3, b4, b5, b6, b7⟩ := HALL.out w' hw
      subst hops
      refine wpAnyIn_ready (rs := [12]) (by kernel_rfl) (by simp) ?_
      refine AllReadyIn.cons rfl (fun K hK => ?_) ?_
      · go_simp
        exact hK _ _ (T9_10_11_12 w' hw)
      exact AllReadyIn.nil
    have T9_10_12 : ∀ w' : World, Below V.heap.size V w' → wpAnyIn (Fence.wide.inRound l2) (n - 1 - 1) Try.prog .any ops Qp 5 #[true, true, true, true, true, true, true, true, true, true, true, false, true, false, false, false, false] { tmps := #[.func (.yield lp) #[] #[], .pointer (some ⟨B, 0, none⟩), .pointer (some ⟨Y, 0, none⟩), .pointer (some ⟨Y + 1 + 1, 0, none⟩), .pointer (some ⟨G, 0, none⟩), .pointer (some ⟨B, 1, none⟩), .slice (some ⟨H, o, none⟩) h.length c, .int .i64 (h.length : Int), .slice (some ⟨Y + 1, 0, none⟩) h.length h.length, .agg #[.int .i64 s, .slice (some ⟨H, o, none⟩) h.length c], .func (.func 79) #[] #[.pointer (some ⟨Y + 2 + 1, 0, none⟩)], .agg #[.int .i64 gx, .int .i64 gy, .int .i64 gz], .slice (some ⟨Y + 1, 0, none⟩) h.length h.length, .agg #[.int .i64 gx, .int .i64 gy, .int .i64 gz], .pointer (some ⟨B, 0, none⟩), .int .i64 s, .int .i64 (k : Int), .pointer (some ⟨Y + 1, k, none⟩), .bool false, .bool true, .bool true, .func (.yield lp) #[] #[], .agg #[.int .i64 s, .slice (some ⟨H, o, none⟩) h.length c], undef, .agg #[.int .i64 gx, .int .i64 gy, .int .i64 gz], undef, undef, undef, undef], defers := [] } w' := by
      intro w' hw
      obtain ⟨b0, b1, b2, b3, b4, b5, b6, b7⟩ := HALL.out w' hw
      subst hops
      refine wpAnyIn_ready (rs := [11]) (by kernel_rfl) (by simp) ?_
      refine AllReadyIn.cons rfl (fun K hK => ?_) ?_
      · go_simp
        exact hK _ _ (T9_10_11_12 w' hw)
      exact AllReadyIn.nil
    have T9_10 : ∀ w' : World, Below V.heap.size V w' → wpAnyIn (Fence.wide.inRound l2) (n - 1 - 1) Try.prog .any ops Qp 6 #[true, true, true, true, true, true, true, true, true, true, true, false, false, false, false, false, false] { tmps := #[.func (.yield lp) #[] #[], .pointer (some ⟨B, 0, none⟩), .pointer (some ⟨Y, 0, none⟩), .pointer (some ⟨Y + 1 + 1, 0, none⟩), .pointer (some ⟨G, 0, none⟩), .pointer (some ⟨B, 1, none⟩), .slice (some ⟨H, o, none⟩) h.length c, .int .i64 (h.length : Int), .slice (some ⟨Y + 1, 0, none⟩) h.length h.length, .agg #[.int .i64 s, .slice (some ⟨H, o, none⟩) h.length c], .func (.func 79) #[] #[.pointer (some ⟨Y + 2 + 1, 0, none⟩)], .agg #[.int .i64 gx, .int .i64 gy, .int .i64 gz], .slice (some ⟨Y + 1, 0, none⟩) h.length h.length, .agg #[.int .i64 gx, .int .i64 gy, .int .i64 gz], .pointer (some ⟨B, 0, none⟩), .int .i64 s, .int .i64 (k : Int), .pointer (some ⟨Y + 1, k, none⟩), .bool false, .bool true, .bool true, .func (.yield lp) #[] #[], .agg #[.int .i64 s, .slice (some ⟨H, o, none⟩) h.length c], undef, undef, undef, undef, undef, undef], defers := [] } w' := by
      intro w' hw
      obtain ⟨b0, b1, b2, b3, b4, b5, b6, b7⟩ := HALL.out w' hw
      subst hops
      refine wpAnyIn_ready (rs := [11, 12]) (by kernel_rfl) (by simp) ?_
      refine AllReadyIn.cons rfl (fun K hK => ?_) ?_
      · go_simp
        exact hK _ _ (T9_10_11 w' hw)
      refine AllReadyIn.cons rfl (fun K hK => ?_) ?_
      · go_simp
        exact hK _ _ (T9_10_12 w' hw)
      exact AllReadyIn.nil
    have T9_11_12 : ∀ w' : World, Below V.heap.size V w' → wpAnyIn (Fence.wide.inRound l2) (n - 1 - 1) Try.prog .any ops Qp 5 #[true, true, true, true, true, true, true, true, true, true, false, true, true, false, false, false, false] { tmps := #[.func (.yield lp) #[] #[], .pointer (some ⟨B, 0, none⟩), .pointer (some ⟨Y, 0, none⟩), .pointer (some ⟨Y + 1 + 1, 0, none⟩), .pointer (some ⟨G, 0, none⟩), .pointer (some ⟨B, 1, none⟩), .slice (some ⟨H, o, none⟩) h.length c, .int .i64 (h.length : Int), .slice (some ⟨Y + 1, 0, none⟩) h.length h.length, .agg #[.int .i64 s, .slice (some ⟨H, o, none⟩) h.length c], .func (.func 79) #[] #[.pointer (some ⟨Y + 2 + 1, 0, none⟩)], .agg #[.int .i64 gx, .int .i64 gy, .int .i64 gz], .slice (some ⟨Y + 1, 0, none⟩) h.length h.length, .agg #[.int .i64 gx, .int .i64 gy, .int .i64 gz], .pointer (some ⟨B, 0, none⟩), .int .i64 s, .int .i64 (k : Int), .pointer (some ⟨Y + 1, k, none⟩), .bool false, .bool true, .bool true, .func (.yield lp) #[] #[], undef, .slice (some ⟨Y + 1, 0, none⟩) h.length h.length, .agg #[.int .i64 gx, .int .i64 gy, .int .i64 gz], undef, undef, undef, undef], defers := [] } w' := by
      intro w' hw
      obtain ⟨b0, b1, b2, b3, b4, b5, b6, b7⟩ := HALL.out w' hw
      subst hops
      refine wpAnyIn_ready (rs := [10]) (by kernel_rfl) (by simp) ?_
      refine AllReadyIn.cons rfl (fun K hK => ?_) ?_
      · go_simp
        exact hK _ _ (T9_10_11_12 w' hw)
      exact AllReadyIn.nil
    have T9_11 : ∀ w' : World, Below V.heap.size V w' → wpAnyIn (Fence.wide.inRound l2) (n - 1 - 1) Try.prog .any ops Qp 6 #[true, true, true, true, true, true, true, true, true, true, false, true, false, false, false, false, false] { tmps := #[.func (.yield lp) #[] #[], .pointer (some ⟨B, 0, none⟩), .pointer (some ⟨Y, 0, none⟩), .pointer (some ⟨Y + 1 + 1, 0, none⟩), .pointer (some ⟨G, 0, none⟩), .pointer (some ⟨B, 1, none⟩), .slice (some ⟨H, o, none⟩) h.length c, .int .i64 (h.length : Int), .slice (some ⟨Y + 1, 0, none⟩) h.length h.length, .agg #[.int .i64 s, .slice (some ⟨H, o, none⟩) h.length c], .func (.func 79) #[] #[.pointer (some ⟨Y + 2 + 1, 0, none⟩)], .agg #[.int .i64 gx, .int .i64 gy, .int .i64 gz], .slice (some ⟨Y + 1, 0, none⟩) h.length h.length, .agg #[.int .i64 gx, .int .i64 gy, .int .i64 gz], .pointer (some ⟨B, 0, none⟩), .int .i64 s, .int .i64 (k : Int), .pointer (some ⟨Y + 1, k, none⟩), .bool false, .bool true, .bool true, .func (.yield lp) #[] #[], undef, .slice (some ⟨Y + 1, 0, none⟩) h.length h.length, undef, undef, undef, undef, undef], defers := [] } w' := by
      intro w' hw
      obtain ⟨b0, b1, b2, b3, b4, b5, b6, b7⟩ := HALL.out w' hw
      subst hops
      refine wpAnyIn_ready (rs := [10, 12]) (by kernel_rfl) (by simp) ?_
      refine AllReadyIn.cons rfl (fun K hK => ?_) ?_
      · go_simp
        exact hK _ _ (T9_10_11 w' hw)
      refine AllReadyIn.cons rfl (fun K hK => ?_) ?_
      · go_simp
        exact hK _ _ (T9_11_12 w' hw)
      exact AllReadyIn.nil
    have T9_12 : ∀ w' : World, Below V.heap.size V w' → wpAnyIn (Fence.wide.inRound l2) (n - 1 - 1) Try.prog .any ops Qp 6 #[true, true, true, true, true, true, true, true, true, true, false, false, true, false, false, false, false] { tmps := #[.func (.yield lp) #[] #[], .pointer (some ⟨B, 0, none⟩), .pointer (some ⟨Y, 0, none⟩), .pointer (some ⟨Y + 1 + 1, 0, none⟩), .pointer (some ⟨G, 0, none⟩), .pointer (some ⟨B, 1, none⟩), .slice (some ⟨H, o, none⟩) h.length c, .int .i64 (h.length : Int), .slice (some ⟨Y + 1, 0, none⟩) h.length h.length, .agg #[.int .i64 s, .slice (some ⟨H, o, none⟩) h.length c], .func (.func 79) #[] #[.pointer (some ⟨Y + 2 + 1, 0, none⟩)], .agg #[.int .i64 gx, .int .i64 gy, .int .i64 gz], .slice (some ⟨Y + 1, 0, none⟩) h.length h.length, .agg #[.int .i64 gx, .int .i64 gy, .int .i64 gz], .pointer (some ⟨B, 0, none⟩), .int .i64 s, .int .i64 (k : Int), .pointer (some ⟨Y + 1, k, none⟩), .bool false, .bool true, .bool true, .func (.yield lp) #[] #[], undef, undef, .agg #[.int .i64 gx, .int .i64 gy, .int .i64 gz], undef, undef, undef, undef], defers := [] } w' := by
      intro w' hw
      obtain ⟨b0, b1, b2, b3, b4, b5, b6, b7⟩ := HALL.out w' hw
      subst hops
      refine wpAnyIn_ready (rs := [10, 11]) (by kernel_rfl) (by simp) ?_
      refine AllReadyIn.cons rfl (fun K hK => ?_) ?_
      · go_simp
        exact hK _ _ (T9_10_12 w' hw)
      refine AllReadyIn.cons rfl (fun K hK => ?_) ?_
      · go_simp
        exact hK _ _ (T9_11_12 w' hw)
      exact AllReadyIn.nil
    have T9 : ∀ w' : World, Below V.heap.size V w' → wpAnyIn (Fence.wide.inRound l2) (n - 1 - 1) Try.prog .any ops Qp 7 #[true, true, true, true, true, true, true, true, true, true, false, false, false, false, false, false, false] { tmps := #[.func (.yield lp) #[] #[], .pointer (some ⟨B, 0, none⟩), .pointer (some ⟨Y, 0, none⟩), .pointer (some ⟨Y + 1 + 1, 0, none⟩), .pointer (some ⟨G, 0, none⟩), .pointer (some ⟨B, 1, none⟩), .slice (some ⟨H, o, none⟩) h.length c, .int .i64 (h.length : Int), .slice (some ⟨Y + 1, 0, none⟩) h.length h.length, .agg #[.int .i64 s, .slice (some ⟨H, o, none⟩) h.length c], .func (.func 79) #[] #[.pointer (some ⟨Y + 2 + 1, 0, none⟩)], .agg #[.int .i64 gx, .int .i64 gy, .int .i64 gz], .slice (some ⟨Y + 1, 0, none⟩) h.length h.length, .agg #[.int .i64 gx, .int .i64 gy, .int .i64 gz], .pointer (some ⟨B, 0, none⟩), .int .i64 s, .int .i64 (k : Int), .pointer (some ⟨Y + 1, k, none⟩), .bool false, .bool true, .bool true, .func (.yield lp) #[] #[], undef, undef, undef, undef, undef, undef, undef], defers := [] } w' := by
      intro w' hw
      obtain ⟨b0, b1, b2, b3, b4, b5, b6, b7⟩ := HALL.out w' hw
      subst hops
      refine wpAnyIn_ready (rs := [10, 11, 12]) (by kernel_rfl) (by simp) ?_
      refine AllReadyIn.cons rfl (fun K hK => ?_) ?_
      · go_simp
        exact hK _ _ (T9_10 w' hw)
      refine AllReadyIn.cons rfl (fun K hK => ?_) ?_
      · go_simp
        exact hK _ _ (T9_11 w' hw)
      refine AllReadyIn.cons rfl (fun K hK => ?_) ?_
      · go_simp
        exact hK _ _ (T9_12 w' hw)
      exact AllReadyIn.nil
    have T10_11_12_13 : ∀ (w5 w6 : World) (g : Option Addr) (cp : Nat), Below V.heap.size V w5 → MR (Y + 1) h.length h.length ((metL s pre).set k true) w6 → w5.grownBy w6 (some (Y + 1)) → wpAnyIn (Fence.wide.inRound l2) (n - 1 - 1) Try.prog .any ops Qp 4 #[true, true, true, true, true, true, true, true, true, false, true, true, true, true, false, false, false] { tmps := #[.func (.yield lp) #[] #[], .pointer (some ⟨B, 0, none⟩), .pointer (some ⟨Y, 0, none⟩), .pointer (some ⟨Y + 1 + 1, 0, none⟩), .pointer (some ⟨G, 0, none⟩), .pointer (some ⟨B, 1, none⟩), .slice (some ⟨H, o, none⟩) h.length c, .int .i64 (h.length : Int), .slice (some ⟨Y + 1, 0, none⟩) h.length h.length, .agg #[.int .i64 s, .slice (some ⟨H, o, none⟩) h.length c], .func (.func 79) #[] #[.pointer (some ⟨Y + 2 + 1, 0, none⟩)], .agg #[.int .i64 gx, .int .i64 gy, .int .i64 gz], .slice (some ⟨Y + 1, 0, none⟩) h.length h.length, .agg #[.int .i64 gx, .int .i64 gy, .int .i64 gz], .pointer (some ⟨B, 0, none⟩), .int .i64 s, .int .i64 (k : Int), .pointer (some ⟨Y + 1, k, none⟩), .bool false, .bool true, .bool true, undef, .agg #[.int .i64 s, .slice (some ⟨H, o, none⟩) h.length c], .slice (some ⟨Y + 1, 0, none⟩) h.length h.length, .agg #[.int .i64 gx, .int .i64 gy, .int .i64 gz], .slice g 1 cp, undef, undef, undef], defers := [] } w6 := by
      intro w5 w6 g cp hb5 hm6 hg6
      obtain ⟨hP6, y6, hV6, hj6, hz6⟩ := HAFT.out w5 w6 hb5 hm6 hg6
      subst hops
      refine wpAnyIn_ready (rs := [9]) (by kernel_rfl) (by simp) ?_
      refine AllReadyIn.cons rfl (fun K hK => ?_) ?_
      · go_simp
        exact hK _ _ (T9_10_11_12_13 w5 w6 g cp hb5 hm6 hg6)
      exact AllReadyIn.nil
    have T10_11_12 : ∀ w' : World, Below V.heap.size V w' → wpAnyIn (Fence.wide.inRound l2) (n - 1 - 1) Try.prog .any ops Qp 5 #[true, true, true, true, true, true, true, true, true, false, true, true, true, false, false, false, false] { tmps := #[.func (.yield lp) #[] #[], .pointer (some ⟨B, 0, none⟩), .pointer (some ⟨Y, 0, none⟩), .pointer (some ⟨Y + 1 + 1, 0, none⟩), .pointer (some ⟨G, 0, none⟩), .pointer (some ⟨B, 1, none⟩), .slice (some ⟨H, o, none⟩) h.length c, .int .i64 (h.length : Int), .slice (some ⟨Y + 1, 0, none⟩) h.length h.length, .agg #[.int .i64 s, .slice (some ⟨H, o, none⟩) h.length c], .func (.func 79) #[] #[.pointer (some ⟨Y + 2 + 1, 0, none⟩)], .agg #[.int .i64 gx, .int .i64 gy, .int .i64 gz], .slice (some ⟨Y + 1, 0, none⟩) h.length h.length, .agg #[.int .i64 gx, .int .i64 gy, .int .i64 gz], .pointer (some ⟨B, 0, none⟩), .int .i64 s, .int .i64 (k : Int), .pointer (some ⟨Y + 1, k, none⟩), .bool false, .bool true, .bool true, undef, .agg #[.int .i64 s, .slice (some ⟨H, o, none⟩) h.length c], .slice (some ⟨Y + 1, 0, none⟩) h.length h.length, .agg #[.int .i64 gx, .int .i64 gy, .int .i64 gz], undef, undef, undef, undef], defers := [] } w' := by
      intro w' hw
      obtain ⟨b0, b1, b2, b3, b4, b5, b6, b7⟩ := HALL.out w' hw
      subst hops
      refine wpAnyIn_ready (rs := [9, 13]) (by kernel_rfl) (by simp) ?_
      refine AllReadyIn.cons rfl (fun K hK => ?_) ?_
      · go_simp
        exact hK _ _ (T9_10_11_12 w' hw)
      refine AllReadyIn.cons rfl (fun K hK => ?_) ?_
      · go_simp
        refine ⟨trivial, fun e => (by cases e), (CallsIn.inRound l2 (callsIn_wide.2 (HGR.out _ hw))).mono ?_⟩
        rintro en w6 ⟨g, cp, rfl, hm6, hg6⟩
        exact hK _ _ (T10_11_12_13 w' w6 g cp hw hm6 hg6)
      exact AllReadyIn.nil
    have T10_11 : ∀ w' : World, Below V.heap.size V w' → wpAnyIn (Fence.wide.inRound l2) (n - 1 - 1) Try.prog .any ops Qp 6 #[true, true, true, true, true, true, true, true, true, false, true, true, false, false, false, false, false] { tmps := #[.func (.yield lp) #[] #[], .pointer (some ⟨B, 0, none⟩), .pointer (some ⟨Y, 0, none⟩), .pointer (some ⟨Y + 1 + 1, 0, none⟩), .pointer (some ⟨G, 0, none⟩), .pointer (some ⟨B, 1, none⟩), .slice (some ⟨H, o, none⟩) h.length c, .int .i64 (h.length : Int), .slice (some ⟨Y + 1, 0, none⟩) h.length h.length, .agg #[.int .i64 s, .slice (some ⟨H, o, none⟩) h.length c], .func (.func 79) #[] #[.pointer (some ⟨Y + 2 + 1, 0, none⟩)], .agg #[.int .i64 gx, .int .i64 gy, .int .i64 gz], .slice (some ⟨Y + 1, 0, none⟩) h.length h.length, .agg #[.int .i64 gx, .int .i64 gy, .int .i64 gz], .pointer (some ⟨B, 0, none⟩), .int .i64 s, .int .i64 (k : Int), .pointer (some ⟨Y + 1, k, none⟩), .bool false, .bool true, .bool true, undef, .agg #[.int .i64 s, .slice (some ⟨H, o, none⟩) h.length c], .slice (some ⟨Y + 1, 0, none⟩) h.length h.length, undef, undef, undef, undef, undef], defers := [] } w' := by
      intro w' hw
      obtain ⟨b0, b1, b2, b3, b4, b5, b6, b7⟩ := HALL.out w' hw
      subst hops
      refine wpAnyIn_ready (rs := [9, 12]) (by kernel_rfl) (by simp) ?_
      refine AllReadyIn.cons rfl (fun K hK => ?_) ?_
      · go_simp
        exact hK _ _ (T9_10_11 w' hw)
      refine AllReadyIn.cons rfl (fun K hK => ?_) ?_
      · go_simp
        exact hK _ _ (T10_11_12 w' hw)
      exact AllReadyIn.nil
    have T10_12 : ∀ w' : World, Below V.heap.size V w' → wpAnyIn (Fence.wide.inRound l2) (n - 1 - 1) Try.prog .any ops Qp 6 #[true, true, true, true, true, true, true, true, true, false, true, false, true, false, false, false, false] { tmps := #[.func (.yield lp) #[] #[], .pointer (some ⟨B, 0, none⟩), .pointer (some ⟨Y, 0, none⟩), .pointer (some ⟨Y + 1 + 1, 0, none⟩), .pointer (some ⟨G, 0, none⟩), .pointer (some ⟨B, 1, none⟩), .slice (some ⟨H, o, none⟩) h.length c, .int .i64 (h.length : Int), .slice (some ⟨Y + 1, 0, none⟩) h.length h.length, .agg #[.int .i64 s, .slice (some ⟨H, o, none⟩) h.length c], .func (.func 79) #[] #[.pointer (some ⟨Y + 2 + 1, 0, none⟩)], .agg #[.int .i64 gx, .int .i64 gy, .int .i64 gz], .slice (some ⟨Y + 1, 0, none⟩) h.length h.length, .agg #[.int .i64 gx, .int .i64 gy, .int .i64 gz], .pointer (some ⟨B, 0, none⟩), .int .i64 s, .int .i64 (k : Int), .pointer (some ⟨Y + 1, k, none⟩), .bool false, .bool true, .bool true, undef, .agg #[.int .i64 s, .slice (some ⟨H, o, none⟩) h.length c], undef, .agg #[.int .i64 gx, .int .i64 gy, .int .i64 gz], undef, undef, undef, undef], defers := [] } w' := by
      intro w' hw
      obtain ⟨b0, b1, b2, b3, b4, b5, b6, b7⟩ := HALL.out w' hw
      subst hops
      refine wpAnyIn_ready (rs := [9, 11]) (by kernel_rfl) (by simp) ?_
      refine AllReadyIn.cons rfl (fun K hK => ?_) ?_
      · go_simp
        exact hK _ _ (T9_10_12 w' hw)
      refine AllReadyIn.cons rfl (fun K hK => ?_) ?_
      · go_simp
        exact hK _ _ (T10_11_12 w' hw)
      exact AllReadyIn.nil
    have T10 : ∀ w' : World, Below V.heap.size V w' → wpAnyIn (Fence.wide.inRound l2) (n - 1 - 1) Try.prog .any ops Qp 7 #[true, true, true, true, true, true, true, true, true, false, true, false, false, false, false, false, false] { tmps := #[.func (.yield lp) #[] #[], .pointer (some ⟨B, 0, none⟩), .pointer (some ⟨Y, 0, none⟩), .pointer (some ⟨Y + 1 + 1, 0, none⟩), .pointer (some ⟨G, 0, none⟩), .pointer (some ⟨B, 1, none⟩), .slice (some ⟨H, o, none⟩) h.length c, .int .i64 (h.length : Int), .slice (some ⟨Y + 1, 0, none⟩) h.length h.length, .agg #[.int .i64 s, .slice (some ⟨H, o, none⟩) h.length c], .func (.func 79) #[] #[.pointer (some ⟨Y + 2 + 1, 0, none⟩)], .agg #[.int .i64 gx, .int .i64 gy, .int .i64 gz], .slice (some ⟨Y + 1, 0, none⟩) h.length h.length, .agg #[.int .i64 gx, .int .i64 gy, .int .i64 gz], .pointer (some ⟨B, 0, none⟩), .int .i64 s, .int .i64 (k : Int), .pointer (some ⟨Y + 1, k, none⟩), .bool false, .bool true, .bool true, undef, .agg #[.int .i64 s, .slice (some ⟨H, o, none⟩) h.length c], undef, undef, undef, undef, undef, undef], defers := [] } w' := by
      intro w' hw
      obtain ⟨b0, b1, b2, b3, b4, b5, b6, b7⟩ := HALL.out w' hw
      subst hops
      refine wpAnyIn_ready (rs := [9, 11, 12]) (by kernel_rfl) (by simp) ?_
      refine AllReadyIn.cons rfl (fun K hK => ?_) ?_
      · go_simp
        exact hK _ _ (T9_10 w' hw)
      refine AllReadyIn.cons rfl (fun K hK => ?_) ?_
      · go_simp
        exact hK _ _ (T10_11 w' hw)
      refine AllReadyIn.cons rfl (fun K hK => ?_) ?_
      · go_simp
        exact hK _ _ (T10_12 w' hw)
      exact AllReadyIn.nil
    have T11_12 : ∀ w' : World, Below V.heap.size V w' → wpAnyIn (Fence.wide.inRound l2) (n - 1 - 1) Try.prog .any ops Qp 6 #[true, true, true, true, true, true, true, true, true, false, false, true, true, false, false, false, false] { tmps := #[.func (.yield lp) #[] #[], .pointer (some ⟨B, 0, none⟩), .pointer (some ⟨Y, 0, none⟩), .pointer (some ⟨Y + 1 + 1, 0, none⟩), .pointer (some ⟨G, 0, none⟩), .pointer (some ⟨B, 1, none⟩), .slice (some ⟨H, o, none⟩) h.length c, .int .i64 (h.length : Int), .slice (some ⟨Y + 1, 0, none⟩) h.length h.length, .agg #[.int .i64 s, .slice (some ⟨H, o, none⟩) h.length c], .func (.func 79) #[] #[.pointer (some ⟨Y + 2 + 1, 0, none⟩)], .agg #[.int .i64 gx, .int .i64 gy, .int .i64 gz], .slice (some ⟨Y + 1, 0, none⟩) h.length h.length, .agg #[.int .i64 gx, .int .i64 gy, .int .i64 gz], .pointer (some ⟨B, 0, none⟩), .int .i64 s, .int .i64 (k : Int), .pointer (some ⟨Y + 1, k, none⟩), .bool false, .bool true, .bool true, undef, undef, .slice (some ⟨Y + 1, 0, none⟩) h.length h.length, .agg #[.int .i64 gx, .int .i64 gy, .int .i64 gz], undef, undef, undef, undef], defers := [] } w' := by
      intro w' hw
      obtain ⟨b0, b1, b2, b3, b4, b5, b6, b7⟩ := HALL.out w' hw
      subst hops
      refine wpAnyIn_ready (rs := [9, 10]) (by kernel_rfl) (by simp) ?_
      refine AllReadyIn.cons rfl (fun K hK => ?_) ?_
      · go_simp
        exact hK _ _ (T9_11_12 w' hw)
      refine AllReadyIn.cons rfl (fun K hK => ?_) ?_
      · go_simp
        exact hK _ _ (T10_11_12 w' hw)
      exact AllReadyIn.nil
    have T11 : ∀ w' : World, Below V.heap.size V w' → wpAnyIn (Fence.wide.inRound l2) (n - 1 - 1) Try.prog .any ops Qp 7 #[true, true, true, true, true, true, true, true, true, false, false, true, false, false, false, false, false] { tmps := #[.func (.yield lp) #[] #[], .pointer (some ⟨B, 0, none⟩), .pointer (some ⟨Y, 0, none⟩), .pointer (some ⟨Y + 1 + 1, 0, none⟩), .pointer (some ⟨G, 0, none⟩), .pointer (some ⟨B, 1, none⟩), .slice (some ⟨H, o, none⟩) h.length c, .int .i64 (h.length : Int), .slice (some ⟨Y + 1, 0, none⟩) h.length h.length, .agg #[.int .i64 s, .slice (some ⟨H, o, none⟩) h.length c], .func (.func 79) #[] #[.pointer (some ⟨Y + 2 + 1, 0, none⟩)], .agg #[.int .i64 gx, .int .i64 gy, .int .i64 gz], .slice (some ⟨Y + 1, 0, none⟩) h.length h.length, .agg #[.int .i64 gx, .int .i64 gy, .int .i64 gz], .pointer (some ⟨B, 0, none⟩), .int .i64 s, .int .i64 (k : Int), .pointer (some ⟨Y + 1, k, none⟩), .bool false, .bool true, .bool true, undef, undef, .slice (some ⟨Y + 1, 0, none⟩) h.length h.length, undef, undef, undef, undef, undef], defers := [] } w' := by
      intro w' hw
      obtain ⟨b0, b1, b2, b3, b4, b5, b6, b7⟩ := HALL.out w' hw
      subst hops
      refine wpAnyIn_ready (rs := [9, 10, 12]) (by kernel_rfl) (by simp) ?_
      refine AllReadyIn.cons rfl (fun K hK => ?_) ?_
      · go_simp
        exact hK _ _ (T9_11 w' hw)
      refine AllReadyIn.cons rfl (fun K hK => ?_) ?_
      · go_simp
        exact hK _ _ (T10_11 w' hw)
      refine AllReadyIn.cons rfl (fun K hK => ?_) ?_
      · go_simp
        exact hK _ _ (T11_12 w' hw)
      exact AllReadyIn.nil
    have T12 : ∀ w' : World, Below V.heap.size V w' → wpAnyIn (Fence.wide.inRound l2) (n - 1 - 1) Try.prog .any ops Qp 7 #[true, true, true, true, true, true, true, true, true, false, false, false, true, false, false, false, false] { tmps := #[.func (.yield lp) #[] #[], .pointer (some ⟨B, 0, none⟩), .pointer (some ⟨Y, 0, none⟩), .pointer (some ⟨Y + 1 + 1, 0, none⟩), .pointer (some ⟨G, 0, none⟩), .pointer (some ⟨B, 1, none⟩), .slice (some ⟨H, o, none⟩) h.length c, .int .i64 (h.length : Int), .slice (some ⟨Y + 1, 0, none⟩) h.length h.length, .agg #[.int .i64 s, .slice (some ⟨H, o, none⟩) h.length c], .func (.func 79) #[] #[.pointer (some ⟨Y + 2 + 1, 0, none⟩)], .agg #[.int .i64 gx, .int .i64 gy, .int .i64 gz], .slice (some ⟨Y + 1, 0, none⟩) h.length h.length, .agg #[.int .i64 gx, .int .i64 gy, .int .i64 gz], .pointer (some ⟨B, 0, none⟩), .int .i64 s, .int .i64 (k : Int), .pointer (some ⟨Y + 1, k, none⟩), .bool false, .bool true, .bool true, undef, undef, undef, .agg #[.int .i64 gx, .int .i64 gy, .int .i64 gz], undef, undef, undef, undef], defers := [] } w' := by
      intro w' hw
      obtain ⟨b0, b1, b2, b3, b4, b5, b6, b7⟩ := HALL.out w' hw
      subst hops
      refine wpAnyIn_ready (rs := [9, 10, 11]) (by kernel_rfl) (by simp) ?_
      refine AllReadyIn.cons rfl (fun K hK => ?_) ?_
      · go_simp
        exact hK _ _ (T9_12 w' hw)
      refine AllReadyIn.cons rfl (fun K hK => ?_) ?_
      · go_simp
        exact hK _ _ (T10_12 w' hw)
      refine AllReadyIn.cons rfl (fun K hK => ?_) ?_
      · go_simp
        exact hK _ _ (T11_12 w' hw)
      exact AllReadyIn.nil
    have T : ∀ w' : World, Below V.heap.size V w' → wpAnyIn (Fence.wide.inRound l2) (n - 1 - 1) Try.prog .any ops Qp 8 #[true, true, true, true, true, true, true, true, true, false, false, false, false, false, false, false, false] { tmps := #[.func (.yield lp) #[] #[], .pointer (some ⟨B, 0, none⟩), .pointer (some ⟨Y, 0, none⟩), .pointer (some ⟨Y + 1 + 1, 0, none⟩), .pointer (some ⟨G, 0, none⟩), .pointer (some ⟨B, 1, none⟩), .slice (some ⟨H, o, none⟩) h.length c, .int .i64 (h.length : Int), .slice (some ⟨Y + 1, 0, none⟩) h.length h.length, .agg #[.int .i64 s, .slice (some ⟨H, o, none⟩) h.length c], .func (.func 79) #[] #[.pointer (some ⟨Y + 2 + 1, 0, none⟩)], .agg #[.int .i64 gx, .int .i64 gy, .int .i64 gz], .slice (some ⟨Y + 1, 0, none⟩) h.length h.length, .agg #[.int .i64 gx, .int .i64 gy, .int .i64 gz], .pointer (some ⟨B, 0, none⟩), .int .i64 s, .int .i64 (k : Int), .pointer (some ⟨Y + 1, k, none⟩), .bool false, .bool true, .bool true, undef, undef, undef, undef, undef, undef, undef, undef], defers := [] } w' := by
      intro w' hw
      obtain ⟨b0, b1, b2, b3, b4, b5, b6, b7⟩ := HALL.out w' hw
      subst hops
      refine wpAnyIn_ready (rs := [9, 10, 11, 12]) (by kernel_rfl) (by simp) ?_
      refine AllReadyIn.cons rfl (fun K hK => ?_) ?_
      · go_simp
        exact hK _ _ (T9 w' hw)
      refine AllReadyIn.cons rfl (fun K hK => ?_) ?_
      · go_simp
        exact hK _ _ (T10 w' hw)
      refine AllReadyIn.cons rfl (fun K hK => ?_) ?_
      · go_simp
        exact hK _ _ (T11 w' hw)
      refine AllReadyIn.cons rfl (fun K hK => ?_) ?_
      · go_simp
        exact hK _ _ (T12 w' hw)
      exact AllReadyIn.nil
    have S0_1_2_3_4_5_6_7 : ∀ w' : World, Below V.heap.size V w' → wpAnyIn (Fence.wide.inRound l2) (n - 1 - 1) Try.prog .any ops Qp 9 #[true, true, true, true, true, true, true, true, false, false, false, false, false, false, false, false, false] { tmps := #[.func (.yield lp) #[] #[], .pointer (some ⟨B, 0, none⟩), .pointer (some ⟨Y, 0, none⟩), .pointer (some ⟨Y + 1 + 1, 0, none⟩), .pointer (some ⟨G, 0, none⟩), .pointer (some ⟨B, 1, none⟩), .slice (some ⟨H, o, none⟩) h.length c, .int .i64 (h.length : Int), .slice (some ⟨Y + 1, 0, none⟩) h.length h.length, .agg #[.int .i64 s, .slice (some ⟨H, o, none⟩) h.length c], .func (.func 79) #[] #[.pointer (some ⟨Y + 2 + 1, 0, none⟩)], .agg #[.int .i64 gx, .int .i64 gy, .int .i64 gz], .slice (some ⟨Y + 1, 0, none⟩) h.length h.length, .agg #[.int .i64 gx, .int .i64 gy, .int .i64 gz], .pointer (some ⟨B, 0, none⟩), .int .i64 s, .int .i64 (k : Int), .pointer (some ⟨Y + 1, k, none⟩), .bool false, .bool true, undef, undef, undef, undef, undef, undef, undef, undef, undef], defers := [] } w' := by
      intro w' hw
      obtain ⟨b0, b1, b2, b3, b4, b5, b6, b7⟩ := HALL.out w' hw
      subst hops
      refine wpAnyIn_ready (rs := [8]) (by kernel_rfl) (by simp) ?_
      refine AllReadyIn.cons rfl (fun K hK => ?_) ?_
      · go_simp
        exact hK _ _ (T w' hw)
      exact AllReadyIn.nil
    have S0_1_2_3_4_5_6 : ∀ w' : World, Below V.heap.size V w' → wpAnyIn (Fence.wide.inRound l2) (n - 1 - 1) Try.prog .any ops Qp 10 #[true, true, true, true, true, true, true, false, false, false, false, false, false, false, false, false, false] { tmps := #[.func (.yield lp) #[] #[], .pointer (some ⟨B, 0, none⟩), .pointer (some ⟨Y, 0, none⟩), .pointer (some ⟨Y + 1 + 1, 0, none⟩), .pointer (some ⟨G, 0, none⟩), .pointer (some ⟨B, 1, none⟩), .slice (some ⟨H, o, none⟩) h.length c, .int .i64 (h.length : Int), .slice (some ⟨Y + 1, 0, none⟩) h.length h.length, .agg #[.int .i64 s, .slice (some ⟨H, o, none⟩) h.length c], .func (.func 79) #[] #[.pointer (some ⟨Y + 2 + 1, 0, none⟩)], .agg #[.int .i64 gx, .int .i64 gy, .int .i64 gz], .slice (some ⟨Y + 1, 0, none⟩) h.length h.length, .agg #[.int .i64 gx, .int .i64 gy, .int .i64 gz], .pointer (some ⟨B, 0, none⟩), .int .i64 s, .int .i64 (k : Int), .pointer (some ⟨Y + 1, k, none⟩), .bool false, undef, undef, undef, undef, undef, undef, undef, undef, undef, undef], defers := [] } w' := by
      intro w' hw
      obtain ⟨b0, b1, b2, b3, b4, b5, b6, b7⟩ := HALL.out w' hw
      subst hops
      refine wpAnyIn_ready (rs := [7]) (by kernel_rfl) (by simp) ?_
      refine AllReadyIn.cons rfl (fun K hK => ?_) ?_
      · go_simp
        exact hK _ _ (S0_1_2_3_4_5_6_7 w' hw)
      exact AllReadyIn.nil
    have S0_1_2_3_4_5 : ∀ w' : World, Below V.heap.size V w' → wpAnyIn (Fence.wide.inRound l2) (n - 1 - 1) Try.prog .any ops Qp 11 #[true, true, true, true, true, true, false, false, false, false, false, false, false, false, false, false, false] { tmps := #[.func (.yield lp) #[] #[], .pointer (some ⟨B, 0, none⟩), .pointer (some ⟨Y, 0, none⟩), .pointer (some ⟨Y + 1 + 1, 0, none⟩), .pointer (some ⟨G, 0, none⟩), .pointer (some ⟨B, 1, none⟩), .slice (some ⟨H, o, none⟩) h.length c, .int .i64 (h.length : Int), .slice (some ⟨Y + 1, 0, none⟩) h.length h.length, .agg #[.int .i64 s, .slice (some ⟨H, o, none⟩) h.length c], .func (.func 79) #[] #[.pointer (some ⟨Y + 2 + 1, 0, none⟩)], .agg #[.int .i64 gx, .int .i64 gy, .int .i64 gz], .slice (some ⟨Y + 1, 0, none⟩) h.length h.length, .agg #[.int .i64 gx, .int .i64 gy, .int .i64 gz], .pointer (some ⟨B, 0, none⟩), .int .i64 s, .int .i64 (k : Int), .pointer (some ⟨Y + 1, k, none⟩), undef, undef, undef, undef, undef, undef, undef, undef, undef, undef, undef], defers := [] } w' := by
      intro w' hw
      obtain ⟨b0, b1, b2, b3, b4, b5, b6, b7⟩ := HALL.out w' hw
      subst hops
      refine wpAnyIn_ready (rs := [6]) (by kernel_rfl) (by simp) ?_
      refine AllReadyIn.cons rfl (fun K hK => ?_) ?_
      · go_simp
        exact hK _ _ (S0_1_2_3_4_5_6 w' hw)
      exact AllReadyIn.nil
    have S0_1_2_3_4 : ∀ w' : World, Below V.heap.size V w' → wpAnyIn (Fence.wide.inRound l2) (n - 1 - 1) Try.prog .any ops Qp 12 #[true, true, true, true, true, false, false, false, false, false, false, false, false, false, false, false, false] { tmps := #[.func (.yield lp) #[] #[], .pointer (some ⟨B, 0, none⟩), .pointer (some ⟨Y, 0, none⟩), .pointer (some ⟨Y + 1 + 1, 0, none⟩), .pointer (some ⟨G, 0, none⟩), .pointer (some ⟨B, 1, none⟩), .slice (some ⟨H, o, none⟩) h.length c, .int .i64 (h.length : Int), .slice (some ⟨Y + 1, 0, none⟩) h.length h.length, .agg #[.int .i64 s, .slice (some ⟨H, o, none⟩) h.length c], .func (.func 79) #[] #[.pointer (some ⟨Y + 2 + 1, 0, none⟩)], .agg #[.int .i64 gx, .int .i64 gy, .int .i64 gz], .slice (some ⟨Y + 1, 0, none⟩) h.length h.length, .agg #[.int .i64 gx, .int .i64 gy, .int .i64 gz], .pointer (some ⟨B, 0, none⟩), .int .i64 s, .int .i64 (k : Int), undef, undef, undef, undef, undef, undef, undef, undef, undef, undef, undef, undef], defers := [] } w' := by
      intro w' hw
      obtain ⟨b0, b1, b2, b3, b4, b5, b6, b7⟩ := HALL.out w' hw
      subst hops
      refine wpAnyIn_ready (rs := [5]) (by kernel_rfl) (by simp) ?_
      refine AllReadyIn.cons rfl (fun K hK => ?_) ?_
      · go_simp
        exact hK _ _ (S0_1_2_3_4_5 w' hw)
      exact AllReadyIn.nil
    have S0_1_2_3 : ∀ w' : World, Below V.heap.size V w' → wpAnyIn (Fence.wide.inRound l2) (n - 1 - 1) Try.prog .any ops Qp 13 #[true, true, true, true, false, false, false, false, false, false, false, false, false, false, false, false, false] { tmps := #[.func (.yield lp) #[] #[], .pointer (some ⟨B, 0, none⟩), .pointer (some ⟨Y, 0, none⟩), .pointer (some ⟨Y + 1 + 1, 0, none⟩), .pointer (some ⟨G, 0, none⟩), .pointer (some ⟨B, 1, none⟩), .slice (some ⟨H, o, none⟩) h.length c, .int .i64 (h.length : Int), .slice (some ⟨Y + 1, 0, none⟩) h.length h.length, .agg #[.int .i64 s, .slice (some ⟨H, o, none⟩) h.length c], .func (.func 79) #[] #[.pointer (some ⟨Y + 2 + 1, 0, none⟩)], .agg #[.int .i64 gx, .int .i64 gy, .int .i64 gz], .slice (some ⟨Y + 1, 0, none⟩) h.length h.length, .agg #[.int .i64 gx, .int .i64 gy, .int .i64 gz], .pointer (some ⟨B, 0, none⟩), .int .i64 s, undef, undef, undef, undef, undef, undef, undef, undef, undef, undef, undef, undef, undef], defers := [] } w' := by
      intro w' hw
      obtain ⟨b0, b1, b2, b3, b4, b5, b6, b7⟩ := HALL.out w' hw
      subst hops
      refine wpAnyIn_ready (rs := [4]) (by kernel_rfl) (by simp) ?_
      refine AllReadyIn.cons rfl (fun K hK => ?_) ?_
      · go_simp
        refine ⟨trivial, fun e => (by cases e), (CallsIn.inRound l2 (callsIn_wide.2 (HX.out _))).mono ?_⟩
        rintro en w5 ⟨rfl, hb5⟩
        exact hK _ _ (S0_1_2_3_4 w5 (hw.trans (hb5.mono hw.size)))
      exact AllReadyIn.nil
    have S0_1_2 : ∀ w' : World, Below V.heap.size V w' → wpAnyIn (Fence.wide.inRound l2) (n - 1 - 1) Try.prog .any ops Qp 14 #[true, true, true, false, false, false, false, false, false, false, false, false, false, false, false, false, false] { tmps := #[.func (.yield lp) #[] #[], .pointer (some ⟨B, 0, none⟩), .pointer (some ⟨Y, 0, none⟩), .pointer (some ⟨Y + 1 + 1, 0, none⟩), .pointer (some ⟨G, 0, none⟩), .pointer (some ⟨B, 1, none⟩), .slice (some ⟨H, o, none⟩) h.length c, .int .i64 (h.length : Int), .slice (some ⟨Y + 1, 0, none⟩) h.length h.length, .agg #[.int .i64 s, .slice (some ⟨H, o, none⟩) h.length c], .func (.func 79) #[] #[.pointer (some ⟨Y + 2 + 1, 0, none⟩)], .agg #[.int .i64 gx, .int .i64 gy, .int .i64 gz], .slice (some ⟨Y + 1, 0, none⟩) h.length h.length, .agg #[.int .i64 gx, .int .i64 gy, .int .i64 gz], .pointer (some ⟨B, 0, none⟩), undef, undef, undef, undef, undef, undef, undef, undef, undef, undef, undef, undef, undef, undef], defers := [] } w' := by
      intro w' hw
      obtain ⟨b0, b1, b2, b3, b4, b5, b6, b7⟩ := HALL.out w' hw
      subst hops
      refine wpAnyIn_ready (rs := [3]) (by kernel_rfl) (by simp) ?_
      refine AllReadyIn.cons rfl (fun K hK => ?_) ?_
      · go_simp
        exact hK _ _ (S0_1_2_3 w' hw)
      exact AllReadyIn.nil
    have S0_1 : ∀ w' : World, Below V.heap.size V w' → wpAnyIn (Fence.wide.inRound l2) (n - 1 - 1) Try.prog .any ops Qp 15 #[true, true, false, false, false, false, false, false, false, false, false, false, false, false, false, false, false] { tmps := #[.func (.yield lp) #[] #[], .pointer (some ⟨B, 0, none⟩), .pointer (some ⟨Y, 0, none⟩), .pointer (some ⟨Y + 1 + 1, 0, none⟩), .pointer (some ⟨G, 0, none⟩), .pointer (some ⟨B, 1, none⟩), .slice (some ⟨H, o, none⟩) h.length c, .int .i64 (h.length : Int), .slice (some ⟨Y + 1, 0, none⟩) h.length h.length, .agg #[.int .i64 s, .slice (some ⟨H, o, none⟩) h.length c], .func (.func 79) #[] #[.pointer (some ⟨Y + 2 + 1, 0, none⟩)], .agg #[.int .i64 gx, .int .i64 gy, .int .i64 gz], .slice (some ⟨Y + 1, 0, none⟩) h.length h.length, .agg #[.int .i64 gx, .int .i64 gy, .int .i64 gz], undef, undef, undef, undef, undef, undef, undef, undef, undef, undef, undef, undef, undef, undef, undef], defers := [] } w' := by
      intro w' hw
      obtain ⟨b0, b1, b2, b3, b4, b5, b6, b7⟩ := HALL.out w' hw
      subst hops
      refine wpAnyIn_ready (rs := [2]) (by kernel_rfl) (by simp) ?_
      refine AllReadyIn.cons rfl (fun K hK => ?_) ?_
      · go_simp
        exact hK _ _ (S0_1_2 w' hw)
      exact AllReadyIn.nil
    have S0_2_3 : ∀ w' : World, Below V.heap.size V w' → wpAnyIn (Fence.wide.inRound l2) (n - 1 - 1) Try.prog .any ops Qp 14 #[true, false, true, true, false, false, false, false, false, false, false, false, false, false, false, false, false] { tmps := #[.func (.yield lp) #[] #[], .pointer (some ⟨B, 0, none⟩), .pointer (some ⟨Y, 0, none⟩), .pointer (some ⟨Y + 1 + 1, 0, none⟩), .pointer (some ⟨G, 0, none⟩), .pointer (some ⟨B, 1, none⟩), .slice (some ⟨H, o, none⟩) h.length c, .int .i64 (h.length : Int), .slice (some ⟨Y + 1, 0, none⟩) h.length h.length, .agg #[.int .i64 s, .slice (some ⟨H, o, none⟩) h.length c], .func (.func 79) #[] #[.pointer (some ⟨Y + 2 + 1, 0, none⟩)], .agg #[.int .i64 gx, .int .i64 gy, .int .i64 gz], .slice (some ⟨Y + 1, 0, none⟩) h.length h.length, undef, .pointer (some ⟨B, 0, none⟩), .int .i64 s, undef, undef, undef, undef, undef, undef, undef, undef, undef, undef, undef, undef, undef], defers := [] } w' := by
      intro w' hw
      obtain ⟨b0, b1, b2, b3, b4, b5, b6, b7⟩ := HALL.out w' hw
      subst hops
      refine wpAnyIn_ready (rs := [1]) (by kernel_rfl) (by simp) ?_
      refine AllReadyIn.cons rfl (fun K hK => ?_) ?_
      · go_simp
        exact hK _ _ (S0_1_2_3 w' hw)
      exact AllReadyIn.nil
    have S0_2 : ∀ w' : World, Below V.heap.size V w' → wpAnyIn (Fence.wide.inRound l2) (n - 1 - 1) Try.prog .any ops Qp 15 #[true, false, true, false, false, false, false, false, false, false, false, false, false, false, false, false, false] { tmps := #[.func (.yield lp) #[] #[], .pointer (some ⟨B, 0, none⟩), .pointer (some ⟨Y, 0, none⟩), .pointer (some ⟨Y + 1 + 1, 0, none⟩), .pointer (some ⟨G, 0, none⟩), .pointer (some ⟨B, 1, none⟩), .slice (some ⟨H, o, none⟩) h.length c, .int .i64 (h.length : Int), .slice (some ⟨Y + 1, 0, none⟩) h.length h.length, .agg #[.int .i64 s, .slice (some ⟨H, o, none⟩) h.length c], .func (.func 79) #[] #[.pointer (some ⟨Y + 2 + 1, 0, none⟩)], .agg #[.int .i64 gx, .int .i64 gy, .int .i64 gz], .slice (some ⟨Y + 1, 0, none⟩) h.length h.length, undef, .pointer (some ⟨B, 0, none⟩), undef, undef, undef, undef, undef, undef, undef, undef, undef, undef, undef, undef, undef, undef], defers := [] } w' := by
      intro w' hw
      obtain ⟨b0, b1, b2, b3, b4, b5, b6, b7⟩ := HALL.out w' hw
      subst hops
      refine wpAnyIn_ready (rs := [1, 3]) (by kernel_rfl) (by simp) ?_
      refine AllReadyIn.cons rfl (fun K hK => ?_) ?_
      · go_simp
        exact hK _ _ (S0_1_2 w' hw)
      refine AllReadyIn.cons rfl (fun K hK => ?_) ?_
      · go_simp
        exact hK _ _ (S0_2_3 w' hw)
      exact AllReadyIn.nil
    have S0 : ∀ w' : World, Below V.heap.size V w' → wpAnyIn (Fence.wide.inRound l2) (n - 1 - 1) Try.prog .any ops Qp 16 #[true, false, false, false, false, false, false, false, false, false, false, false, false, false, false, false, false] { tmps := #[.func (.yield lp) #[] #[], .pointer (some ⟨B, 0, none⟩), .pointer (some ⟨Y, 0, none⟩), .pointer (some ⟨Y + 1 + 1, 0, none⟩), .pointer (some ⟨G, 0, none⟩), .pointer (some ⟨B, 1, none⟩), .slice (some ⟨H, o, none⟩) h.length c, .int .i64 (h.length : Int), .slice (some ⟨Y + 1, 0, none⟩) h.length h.length, .agg #[.int .i64 s, .slice (some ⟨H, o, none⟩) h.length c], .func (.func 79) #[] #[.pointer (some ⟨Y + 2 + 1, 0, none⟩)], .agg #[.int .i64 gx, .int .i64 gy, .int .i64 gz], .slice (some ⟨Y + 1, 0, none⟩) h.length h.length, undef, undef, undef, undef, undef, undef, undef, undef, undef, undef, undef, undef, undef, undef, undef, undef], defers := [] } w' := by
      intro w' hw
      obtain ⟨b0, b1, b2, b3, b4, b5, b6, b7⟩ := HALL.out w' hw
      subst hops
      refine wpAnyIn_ready (rs := [1, 2]) (by kernel_rfl) (by simp) ?_
      refine AllReadyIn.cons rfl (fun K hK => ?_) ?_
      · go_simp
        exact hK _ _ (S0_1 w' hw)
      refine AllReadyIn.cons rfl (fun K hK => ?_) ?_
      · go_simp
        exact hK _ _ (S0_2 w' hw)
      exact AllReadyIn.nil
    have S1_2_3_4 : ∀ w' : World, Below V.heap.size V w' → wpAnyIn (Fence.wide.inRound l2) (n - 1 - 1) Try.prog .any ops Qp 13 #[false, true, true, true, true, false, false, false, false, false, false, false, false, false, false, false, false] { tmps := #[.func (.yield lp) #[] #[], .pointer (some ⟨B, 0, none⟩), .pointer (some ⟨Y, 0, none⟩), .pointer (some ⟨Y + 1 + 1, 0, none⟩), .pointer (some ⟨G, 0, none⟩), .pointer (some ⟨B, 1, none⟩), .slice (some ⟨H, o, none⟩) h.length c, .int .i64 (h.length : Int), .slice (some ⟨Y + 1, 0, none⟩) h.length h.length, .agg #[.int .i64 s, .slice (some ⟨H, o, none⟩) h.length c], .func (.func 79) #[] #[.pointer (some ⟨Y + 2 + 1, 0, none⟩)], .agg #[.int .i64 gx, .int .i64 gy, .int .i64 gz], undef, .agg #[.int .i64 gx, .int .i64 gy, .int .i64 gz], .pointer (some ⟨B, 0, none⟩), .int .i64 s, .int .i64 (k : Int), undef, undef, undef, undef, undef, undef, undef, undef, undef, undef, undef, undef], defers := [] } w' := by
      intro w' hw
      obtain ⟨b0, b1, b2, b3, b4, b5, b6, b7⟩ := HALL.out w' hw
      subst hops
      refine wpAnyIn_ready (rs := [0]) (by kernel_rfl) (by simp) ?_
      refine AllReadyIn.cons rfl (fun K hK => ?_) ?_
      · go_simp
        exact hK _ _ (S0_1_2_3_4 w' hw)
      exact AllReadyIn.nil
    have S1_2_3 : ∀ w' : World, Below V.heap.size V w' → wpAnyIn (Fence.wide.inRound l2) (n - 1 - 1) Try.prog .any ops Qp 14 #[false, true, true, true, false, false, false, false, false, false, false, false, false, false, false, false, false] { tmps := #[.func (.yield lp) #[] #[], .pointer (some ⟨B, 0, none⟩), .pointer (some ⟨Y, 0, none⟩), .pointer (some ⟨Y + 1 + 1, 0, none⟩), .pointer (some ⟨G, 0, none⟩), .pointer (some ⟨B, 1, none⟩), .slice (some ⟨H, o, none⟩) h.length c, .int .i64 (h.length : Int), .slice (some ⟨Y + 1, 0, none⟩) h.length h.length, .agg #[.int .i64 s, .slice (some ⟨H, o, none⟩) h.length c], .func (.func 79) #[] #[.pointer (some ⟨Y + 2 + 1, 0, none⟩)], .agg #[.int .i64 gx, .int .i64 gy, .int .i64 gz], undef, .agg #[.int .i64 gx, .int .i64 gy, .int .i64 gz], .pointer (some ⟨B, 0, none⟩), .int .i64 s, undef, undef, undef, undef, undef, undef, undef, undef, undef, undef, undef, undef, undef], defers := [] } w' := by
      intro w' hw
      obtain ⟨b0, b1, b2, b3, b4, b5, b6, b7⟩ := HALL.out w' hw
      subst hops
      refine wpAnyIn_ready (rs := [0, 4]) (by kernel_rfl) (by simp) ?_
      refine AllReadyIn.cons rfl (fun K hK => ?_) ?_
      · go_simp
        exact hK _ _ (S0_1_2_3 w' hw)
      refine AllReadyIn.cons rfl (fun K hK => ?_) ?_
      · go_simp
        refine ⟨trivial, fun e => (by cases e), (CallsIn.inRound l2 (callsIn_wide.2 (HX.out _))).mono ?_⟩
        rintro en w5 ⟨rfl, hb5⟩
        exact hK _ _ (S1_2_3_4 w5 (hw.trans (hb5.mono hw.size)))
      exact AllReadyIn.nil
    have S1_2 : ∀ w' : World, Below V.heap.size V w' → wpAnyIn (Fence.wide.inRound l2) (n - 1 - 1) Try.prog .any ops Qp 15 #[false, true, true, false, false, false, false, false, false, false, false, false, false, false, false, false, false] { tmps := #[.func (.yield lp) #[] #[], .pointer (some ⟨B, 0, none⟩), .pointer (some ⟨Y, 0, none⟩), .pointer (some ⟨Y + 1 + 1, 0, none⟩), .pointer (some ⟨G, 0, none⟩), .pointer (some ⟨B, 1, none⟩), .slice (some ⟨H, o, none⟩) h.length c, .int .i64 (h.length : Int), .slice (some ⟨Y + 1, 0, none⟩) h.length h.length, .agg #[.int .i64 s, .slice (some ⟨H, o, none⟩) h.length c], .func (.func 79) #[] #[.pointer (some ⟨Y + 2 + 1, 0, none⟩)], .agg #[.int .i64 gx, .int .i64 gy, .int .i64 gz], undef, .agg #[.int .i64 gx, .int .i64 gy, .int .i64 gz], .pointer (some ⟨B, 0, none⟩), undef, undef, undef, undef, undef, undef, undef, undef, undef, undef, undef, undef, undef, undef], defers := [] } w' := by
      intro w' hw
      obtain ⟨b0, b1, b2, b3, b4, b5, b6, b7⟩ := HALL.out w' hw
      subst hops
      refine wpAnyIn_ready (rs := [0, 3]) (by kernel_rfl) (by simp) ?_
      refine AllReadyIn.cons rfl (fun K hK => ?_) ?_
      · go_simp
        exact hK _ _ (S0_1_2 w' hw)
      refine AllReadyIn.cons rfl (fun K hK => ?_) ?_
      · go_simp
        exact hK _ _ (S1_2_3 w' hw)
      exact AllReadyIn.nil
    have S1 : ∀ w' : World, Below V.heap.size V w' → wpAnyIn (Fence.wide.inRound l2) (n - 1 - 1) Try.prog .any ops Qp 16 #[false, true, false, false, false, false, false, false, false, false, false, false, false, false, false, false, false] { tmps := #[.func (.yield lp) #[] #[], .pointer (some ⟨B, 0, none⟩), .pointer (some ⟨Y, 0, none⟩), .pointer (some ⟨Y + 1 + 1, 0, none⟩), .pointer (some ⟨G, 0, none⟩), .pointer (some ⟨B, 1, none⟩), .slice (some ⟨H, o, none⟩) h.length c, .int .i64 (h.length : Int), .slice (some ⟨Y + 1, 0, none⟩) h.length h.length, .agg #[.int .i64 s, .slice (some ⟨H, o, none⟩) h.length c], .func (.func 79) #[] #[.pointer (some ⟨Y + 2 + 1, 0, none⟩)], .agg #[.int .i64 gx, .int .i64 gy, .int .i64 gz], undef, .agg #[.int .i64 gx, .int .i64 gy, .int .i64 gz], undef, undef, undef, undef, undef, undef, undef, undef, undef, undef, undef, undef, undef, undef, undef], defers := [] } w' := by
      intro w' hw
      obtain ⟨b0, b1, b2, b3, b4, b5, b6, b7⟩ := HALL.out w' hw
      subst hops
      refine wpAnyIn_ready (rs := [0, 2]) (by kernel_rfl) (by simp) ?_
      refine AllReadyIn.cons rfl (fun K hK => ?_) ?_
      · go_simp
        exact hK _ _ (S0_1 w' hw)
      refine AllReadyIn.cons rfl (fun K hK => ?_) ?_
      · go_simp
        exact hK _ _ (S1_2 w' hw)
      exact AllReadyIn.nil
    have S2_3 : ∀ w' : World, Below V.heap.size V w' → wpAnyIn (Fence.wide.inRound l2) (n - 1 - 1) Try.prog .any ops Qp 15 #[false, false, true, true, false, false, false, false, false, false, false, false, false, false, false, false, false] { tmps := #[.func (.yield lp) #[] #[], .pointer (some ⟨B, 0, none⟩), .pointer (some ⟨Y, 0, none⟩), .pointer (some ⟨Y + 1 + 1, 0, none⟩), .pointer (some ⟨G, 0, none⟩), .pointer (some ⟨B, 1, none⟩), .slice (some ⟨H, o, none⟩) h.length c, .int .i64 (h.length : Int), .slice (some ⟨Y + 1, 0, none⟩) h.length h.length, .agg #[.int .i64 s, .slice (some ⟨H, o, none⟩) h.length c], .func (.func 79) #[] #[.pointer (some ⟨Y + 2 + 1, 0, none⟩)], .agg #[.int .i64 gx, .int .i64 gy, .int .i64 gz], undef, undef, .pointer (some ⟨B, 0, none⟩), .int .i64 s, undef, undef, undef, undef, undef, undef, undef, undef, undef, undef, undef, undef, undef], defers := [] } w' := by
      intro w' hw
      obtain ⟨b0, b1, b2, b3, b4, b5, b6, b7⟩ := HALL.out w' hw
      subst hops
      refine wpAnyIn_ready (rs := [0, 1]) (by kernel_rfl) (by simp) ?_
      refine AllReadyIn.cons rfl (fun K hK => ?_) ?_
      · go_simp
        exact hK _ _ (S0_2_3 w' hw)
      refine AllReadyIn.cons rfl (fun K hK => ?_) ?_
      · go_simp
        exact hK _ _ (S1_2_3 w' hw)
      exact AllReadyIn.nil
    have S2 : ∀ w' : World, Below V.heap.size V w' → wpAnyIn (Fence.wide.inRound l2) (n - 1 - 1) Try.prog .any ops Qp 16 #[false, false, true, false, false, false, false, false, false, false, false, false, false, false, false, false, false] { tmps := #[.func (.yield lp) #[] #[], .pointer (some ⟨B, 0, none⟩), .pointer (some ⟨Y, 0, none⟩), .pointer (some ⟨Y + 1 + 1, 0, none⟩), .pointer (some ⟨G, 0, none⟩), .pointer (some ⟨B, 1, none⟩), .slice (some ⟨H, o, none⟩) h.length c, .int .i64 (h.length : Int), .slice (some ⟨Y + 1, 0, none⟩) h.length h.length, .agg #[.int .i64 s, .slice (some ⟨H, o, none⟩) h.length c], .func (.func 79) #[] #[.pointer (some ⟨Y + 2 + 1, 0, none⟩)], .agg #[.int .i64 gx, .int .i64 gy, .int .i64 gz], undef, undef, .pointer (some ⟨B, 0, none⟩), undef, undef, undef, undef, undef, undef, undef, undef, undef, undef, undef, undef, undef, undef], defers := [] } w' := by
      intro w' hw
      obtain ⟨b0, b1, b2, b3, b4, b5, b6, b7⟩ := HALL.out w' hw
      subst hops
      refine wpAnyIn_ready (rs := [0, 1, 3]) (by kernel_rfl) (by simp) ?_
      refine AllReadyIn.cons rfl (fun K hK => ?_) ?_
      · go_simp
        exact hK _ _ (S0_2 w' hw)
      refine AllReadyIn.cons rfl (fun K hK => ?_) ?_
      · go_simp
        exact hK _ _ (S1_2 w' hw)
      refine AllReadyIn.cons rfl (fun K hK => ?_) ?_
      · go_simp
        exact hK _ _ (S2_3 w' hw)
      exact AllReadyIn.nil
    have S : ∀ w' : World, Below V.heap.size V w' → wpAnyIn (Fence.wide.inRound l2) (n - 1 - 1) Try.prog .any ops Qp 17 #[false, false, false, false, false, false, false, false, false, false, false, false, false, false, false, false, false] { tmps := #[.func (.yield lp) #[] #[], .pointer (some ⟨B, 0, none⟩), .pointer (some ⟨Y, 0, none⟩), .pointer (some ⟨Y + 1 + 1, 0, none⟩), .pointer (some ⟨G, 0, none⟩), .pointer (some ⟨B, 1, none⟩), .slice (some ⟨H, o, none⟩) h.length c, .int .i64 (h.length : Int), .slice (some ⟨Y + 1, 0, none⟩) h.length h.length, .agg #[.int .i64 s, .slice (some ⟨H, o, none⟩) h.length c], .func (.func 79) #[] #[.pointer (some ⟨Y + 2 + 1, 0, none⟩)], .agg #[.int .i64 gx, .int .i64 gy, .int .i64 gz], undef, undef, undef, undef, undef, undef, undef, undef, undef, undef, undef, undef, undef, undef, undef, undef, undef], defers := [] } w' := by
      intro w' hw
      obtain ⟨b0, b1, b2, b3, b4, b5, b6, b7⟩ := HALL.out w' hw
      subst hops
      refine wpAnyIn_ready (rs := [0, 1, 2]) (by kernel_rfl) (by simp) ?_
      refine AllReadyIn.cons rfl (fun K hK => ?_) ?_
      · go_simp
        exact hK _ _ (S0 w' hw)
      refine AllReadyIn.cons rfl (fun K hK => ?_) ?_
      · go_simp
        exact hK _ _ (S1 w' hw)
      refine AllReadyIn.cons rfl (fun K hK => ?_) ?_
      · go_simp
        exact hK _ _ (S2 w' hw)
      exact AllReadyIn.nil
    subst hops
    refine wpIn_region_any (by kernel_rfl) ?_
    exact S _ (Below.drew (Below.refl _ _))
  case done =>
    rintro D V hD ⟨hj, hg⟩ hd
    have hgb := grownBy_putObj' V D (.deferred none)
    have HJ2 : Kp (J (grainsL s h) (V.putObj D (.deferred none))) := ⟨HJT.out _ V _ (some D) hj hgb (fun r e => by cases e; exact ⟨by have := HYZ.out; have := HW.out.1; omega, .inr ⟨_, hd, rfl⟩⟩)⟩
    have HD2 := Kp.mk hd
    clear hj hg hd hgb
    gi_wp2
    refine ⟨by simp, .inl ⟨_, _, rfl, run_takeDeferred HD2.out, ?_⟩⟩
    exact ⟨_, results_none rfl _ _ _, ⟨_, rfl⟩, .inl HJ2.out⟩
  case stop =>
    rintro D cd ys V hD hys ⟨rfl, hx⟩ hd
    have hgb := grownBy_putObj' V D (.deferred none)
    have HX2 : Kp (Jx ys (V.putObj D (.deferred none))) := ⟨HJX.out _ V _ (some D) hx hgb (fun r e => by cases e; exact ⟨by have := HYZ.out; have := HW.out.1; omega, .inr ⟨_, hd, rfl⟩⟩)⟩
    have HP := Kp.mk hys
    have HD2 := Kp.mk hd
    clear hx hd hgb hys
    gi_wp2
    refine ⟨by simp, .inl ⟨_, _, rfl, run_takeDeferred HD2.out, ?_⟩⟩
    exact ⟨_, results_none rfl _ _ _, ⟨_, rfl⟩, .inr ⟨_, HP.out, HX2.out⟩⟩
end Go.Proofs.Ytcjlijiifhggfaa.Cv
