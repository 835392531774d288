/-
  WALKS (layer 5, carve): the iterator over the grains that are there.
-/
import Derived.Test.YtknggeofilfiaaaGreatDoorCvPlaces
namespace Go.Proofs.YtknggeofilfiaaaGreatDoor.Cv
open Go Go.RowKit Go.Sort
attribute [local go_sem] Oper.semAt_some

theorem yield_any {m : Nat} (m' : Nat) {P : Program} {l : Nat} {args : Array Value} {W : World} {R : Ending → World → Prop} (h : YieldAt Fence.wide m P l args W R) : YieldAt Fence.wide m' P l args W R := by
  obtain ⟨fn, t, a, b, hy, h1, h2⟩ := h
  exact ⟨fn, t, a, b, hy, h1, fun c cs _ => h2 c cs (room_wide _)⟩
theorem grains_any (s : Int) (v : Value) (w : World) :
    Calls Tryz.prog 60 #[.agg #[.int .i64 s, v]] w fun en w' => en = .returned (.func (.func 75) #[] #[.pointer (some ⟨w.heap.size, 0, none⟩)]) ∧ w.alloc (.cells #[.int .i64 s, v] 40) = w' := by
  go_enter Tryz.func60, Tryz.ntmps60
  go_wp2
  go_ret
  exact ⟨rfl, rfl⟩
/-- The boxed grain. -/
structure GrAt (W : World) (U : Nat) (x : Gr) : Prop where
  c0 : W.cell? ⟨U, 0, none⟩ = some (.int .i64 x.x)
  c1 : W.cell? ⟨U, 1, none⟩ = some (.int .i64 x.y)
  c2 : W.cell? ⟨U, 2, none⟩ = some (.int .i64 x.z)
theorem GrAt.same {X Y : World} {U : Nat} {x : Gr} (h : GrAt X U x) (hb : Y.heap[U]? = X.heap[U]?) : GrAt Y U x :=
  ⟨(World.cell?_of_block (a := ⟨U, 0, none⟩) hb).trans h.c0, (World.cell?_of_block (a := ⟨U, 1, none⟩) hb).trans h.c1, (World.cell?_of_block (a := ⟨U, 2, none⟩) hb).trans h.c2⟩
theorem GrAt.on {X Y : World} {U : Nat} {x : Gr} (h : GrAt X U x) (hb : Below X.heap.size X Y) : GrAt Y U x := h.same (hb.block _ (World.block_lt_of_cell? _ _ h.c0))
theorem GrAt.abide {X Y : World} {U B k : Nat} {x : Gr} {row : Option Nat} (h : GrAt X U x) (g : X.grownBy Y row) (hr : ∀ r, row = some r → B ≤ r ∧ ((B + 2 ≤ r ∧ r < B + 2 + k) ∨ ∃ o : Obj, X.heap[r]? = some o ∧ o.isCells = false)) (hU : B + 2 + k ≤ U) : GrAt Y U x := by
  refine h.same (g.block U (World.block_lt_of_cell? _ _ h.c0) (fun e => ?_))
  obtain ⟨h1, h2 | ⟨p, hp, hc⟩⟩ := hr U e.symm
  · omega
  · rw [cells_of h.c0 p hp] at hc; cases hc
/-- What the iterator keeps, besides what its caller does: the block, its own two cells. -/
structure GI (lp Y B H o c s : Nat) (h : List Bool) (V : World) : Prop where
  block : BK B H o c s h V
  yield_ : V.cell? ⟨Y, 0, none⟩ = some (.func (.yield lp) #[] #[])
  size : Y + 2 ≤ V.heap.size
theorem GI.turns {lp Y B H o c s C : Nat} {h : List Bool} : Turns 0 C (GI lp Y B H o c s h) := fun X Z row k g hr =>
  ⟨BK.turns X Z row k.block g hr, turns_cell X Z row k.yield_ g hr, Nat.le_trans k.size g.size⟩
theorem gi_start {lp Y B H o c s : Nat} {h : List Bool} {W W0 : World} (hk : BK B H o c s h W) (hY : W.heap.size = Y) (hz : W0.heap.size = Y + 1 + 1) (hb : Below (W.alloc (.cells #[.func (.yield lp) #[] #[]] 65)).heap.size (W.alloc (.cells #[.func (.yield lp) #[] #[]] 65)) W0) : GI lp Y B H o c s h W0 := by
  refine ⟨(hk.on ((Below.refl _ _).alloc (Nat.le_refl _) _)).on hb, ?_, by omega⟩
  subst hY
  exact (hb.cell (p := ⟨W.heap.size, 0, none⟩) (by simp)).trans (by go_simp)
theorem GI.on {lp Y B H o c s : Nat} {h : List Bool} {V X : World} (k : GI lp Y B H o c s h V) (hb : Below V.heap.size V X) : GI lp Y B H o c s h X :=
  ⟨k.block.on hb, (hb.cell (p := ⟨Y, 0, none⟩) (World.block_lt_of_cell? _ _ k.yield_)).trans k.yield_, Nat.le_trans k.size hb.size⟩
theorem GI.keep {lp Y B H o c s : Nat} {h : List Bool} {V X : World} (k : GI lp Y B H o c s h V) (hk : Keep (SB B H) 2 Y V X) : GI lp Y B H o c s h X :=
  ⟨k.block.keep hk (.inl rfl) (.inr rfl), (World.cell?_of_block (a := ⟨Y, 0, none⟩) ((hk.weaken (T := (· = Y)) (p := 0) (q := Y + 2) (fun j hj => .inr ⟨by omega, by omega, by have := k.size; omega⟩) (by omega) (.inr rfl)).same Y rfl)).trans k.yield_, Nat.le_trans k.size hk.size⟩
theorem grains_next {s : Nat} {h : List Bool} {pre : List Gr} {x : Gr} (hp : pre ++ [x] <+: placesL s) (hx : hasB s h x = true) : (pre ++ [x]).filter (hasB s h) = pre.filter (hasB s h) ++ [x] ∧ pre.filter (hasB s h) ++ [x] <+: grainsL s h := by
  have e : (pre ++ [x]).filter (hasB s h) = pre.filter (hasB s h) ++ [x] := by rw [List.filter_append]; simp [hx]
  exact ⟨e, by rw [← e]; exact hp.filter _⟩
set_option maxRecDepth 100000 in
set_option maxHeartbeats 2000000 in
theorem grains_yields (n : Nat) (hn : 3 ≤ n) (B H o c s : Nat) (h : List Bool) (hs : 1 ≤ s) (hs2 : s ≤ 10) (hl : h.length = s * s * s) (w : World) (hk : BK B H o c s h w) :
    YieldsS 0 encG Fence.wide n Tryz.prog 75 #[.pointer (some ⟨B, 0, none⟩)] (Keep (SB B H) 2) (grainsL s h) w := by
  intro lp J Jx W hW hsz hJ hJx hY h0
  have kW := hk.on hW
  obtain ⟨Y, hYz⟩ : ∃ Y, W.heap.size = Y := ⟨_, rfl⟩
  have HYZ := Kp.mk hYz
  have HK := Kp.mk kW
  have HJ0 := Kp.mk h0
  have HYY := Kp.mk hY
  have HJT := Kp.mk hJ
  have HJX := Kp.mk hJx
  have cS := kW.side
  have cH := kW.has
  have hBl := kW.ltB
  clear h0 hY hJ hJx hW hsz hk kW hYz
  refine callsIn_of_wp_marks Tryz.func75 rfl trivial ?_ rfl
  simp only [Tryz.ntmps75, List.size_toArray, List.length_cons, List.length_nil, Nat.reduceAdd, Nat.reduceSub, Array.replicate_succ, Array.replicate_zero, List.push_toArray, List.append_toArray, List.nil_append, List.cons_append]
  gi_wp2_with fail
  refine ⟨trivial, fun e => (by cases e), (callsIn_wide.2 (places_any _ _)).mono ?_⟩
  rintro en W0 ⟨rfl, hW0⟩
  have HW := Lib.hid (places_start (Y := Y + 1) (by rw [World.size_alloc, HYZ.out]) hW0)
  have HS0 : Kp (J (([] : List Gr).filter (hasB s h)) W0) := ⟨HJT.out _ W W0 none HJ0.out (grown_trans (World.grownBy_alloc _ _ none) (grown_below HW.out.2.1 none)) (fun r e => by cases e)⟩
  have HG0 : Kp (GI lp Y B H o c s h W0) := ⟨gi_start HK.out HYZ.out HW.out.1 HW.out.2.1⟩
  clear hW0
  gi_wp2
  simp only [HYZ.out]
  refine wpIn_yieldsS (k := 0) (enc := encG) (xs := placesL s) rfl (by omega) (gf := 74) (lb := #[.pointer (some ⟨Y + 1, 0, none⟩)]) rfl trivial (enters_of Tryz.func74 (by kernel_rfl) rfl) (fun _ => rfl)
    (places_yields (n - 1) (by omega) (Y + 1) s hs hs2 W0 HW.out.2.2) Keep.trans (fun V o o' _ _ _ => Keep.putObj (by omega) (by have := HW.out.1; omega))
    (fun pre V => J (pre.filter (hasB s h)) V ∧ GI lp Y B H o c s h V)
    (fun cd ys V => cd = .ret ∧ Jx (ys.filter (hasB s h)) V)
    (fun q => Turns.abides (C := Y) (turns_and (by have := HJT.out (q.filter (hasB s h)); rwa [HYZ.out] at this) GI.turns) (by have := HW.out.1; omega)) (fun cd q => Turns.abides (C := Y) (turns_and turns_const (by have := HJX.out (q.filter (hasB s h)); rwa [HYZ.out] at this)) (by have := HW.out.1; omega))
    ⟨HS0.out, HG0.out⟩
    (fun pre x a' V => (J (pre.filter (hasB s h)) V ∧ GI lp Y B H o c s h V) ∧ ∃ G, Y + 3 < G ∧ GrAt V G x ∧ a' = { tmps := #[.func (.yield lp) #[] #[], .pointer (some ⟨B, 0, none⟩), .pointer (some ⟨Y, 0, none⟩), .pointer (some ⟨G, 0, none⟩), .pointer (some ⟨B, 0, none⟩), .int .i64 s, .func (.func 74) #[] #[.pointer (some ⟨Y + 1, 0, none⟩)], .agg #[.int .i64 x.x, .int .i64 x.y, .int .i64 x.z], undef, undef, undef, undef, undef, undef, undef, undef, undef], defers := [] })
    ?ax ?assign ?body ?done ?stop
  case ax =>
    rintro pre x a' X V row ⟨hi, G, hG, hx, ha⟩ g hr
    exact ⟨Turns.abides (C := Y) (turns_and (by have := HJT.out (pre.filter (hasB s h)); rwa [HYZ.out] at this) GI.turns) (by have := HW.out.1; omega) X V row hi g hr, G, hG, GrAt.abide hx g hr (by have := HW.out.1; omega), ha⟩
  case assign =>
    rintro l2 pre ⟨gx, gy, gz⟩ V hi _ hsz
    have HI := Kp.mk hi
    clear hi
    have ez : ((#[7] : Array Tmp).zip (encG ⟨gx, gy, gz⟩)).foldl (fun tmps (q : Tmp × Value) => tmps.setIfInBounds q.1 q.2) #[.func (.yield lp) #[] #[], .pointer (some ⟨B, 0, none⟩), .pointer (some ⟨Y, 0, none⟩), undef, .pointer (some ⟨B, 0, none⟩), .int .i64 s, .func (.func 74) #[] #[.pointer (some ⟨Y + 1, 0, none⟩)], undef, undef, undef, undef, undef, undef, undef, undef, undef, undef] = #[.func (.yield lp) #[] #[], .pointer (some ⟨B, 0, none⟩), .pointer (some ⟨Y, 0, none⟩), undef, .pointer (some ⟨B, 0, none⟩), .int .i64 s, .func (.func 74) #[] #[.pointer (some ⟨Y + 1, 0, none⟩)], .agg #[.int .i64 gx, .int .i64 gy, .int .i64 gz], undef, undef, undef, undef, undef, undef, undef, undef, undef] := by simp [encG]
    rw [ez]
    clear ez
    gi_wp2
    have hzv : Y + 3 < V.heap.size := by have := HW.out.1; omega
    have hbb : Below V.heap.size V (V.alloc (.cells #[.int .i64 gx, .int .i64 gy, .int .i64 gz] 64)) := (Below.refl _ _).alloc (Nat.le_refl _) _
    refine ⟨alloc_keeps _ _ _, Keep.below hbb (fun j hj => by omega), ⟨?_, HI.out.2.on hbb⟩, V.heap.size, hzv, ⟨by go_simp, by go_simp, by go_simp⟩, rfl⟩
    exact HJT.out _ V _ none HI.out.1 (grown_below hbb none) (fun r e => by cases e)
  case body =>
    rintro l2 pre x a' V ⟨⟨hj, hg⟩, G, hG, hgr, rfl⟩ hpre hsz
    have HJV := Kp.mk hj
    have HGV := Kp.mk hg
    obtain ⟨hk, hyc, hzc⟩ := hg
    have b1 := hk.side
    have b2 := hk.has
    have b3 := hk.ltB
    obtain ⟨d0, d1, d2⟩ := hgr
    have HH : Kp (∀ W, Below V.heap.size V W → Calls Tryz.prog 76 #[.agg #[.int .i64 s, .slice (some ⟨H, o, none⟩) h.length c], .agg #[.int .i64 x.x, .int .i64 x.y, .int .i64 x.z]] W fun e w' => e = .returned (.bool (hasB s h x)) ∧ Below W.heap.size W w') := ⟨fun W hW => has_any s _ h x W hs2 hl (hk.row.below hW)⟩
    have HN := Kp.mk (grains_next (h := h) hpre)
    obtain ⟨gx, gy, gz⟩ := x
    obtain ⟨R, hR⟩ : ∃ R, hasB s h ⟨gx, gy, gz⟩ = R := ⟨_, rfl⟩
    rw [hR] at HH
    have HR := Kp.mk hR
    clear hj hk hpre hR hl
    have HD : Kp (GrAt V G ⟨gx, gy, gz⟩) := ⟨⟨d0, d1, d2⟩⟩
    have hGL : Kp (Y + 1 < V.heap.size ∧ W0.heap.size = Y + 1 + 1) := ⟨by have := HGV.out.size; omega, HW.out.1⟩
    have HYC := Kp.mk hyc
    clear hyc
    gi_wp2_with fail
    refine ⟨trivial, fun e => (by cases e), (CallsIn.inRound l2 (callsIn_wide.2 (HH.out V (Below.refl _ _)))).mono ?_⟩
    rintro en V1 ⟨rfl, hb1⟩
    have HG1 := Kp.mk (HGV.out.on hb1)
    have HB1 := Kp.mk hb1
    have hj1 : J (pre.filter (hasB s h)) V1 := HJT.out _ V V1 none HJV.out (grown_below hb1 none) (fun r e => by cases e)
    obtain ⟨d0', d1', d2'⟩ := HD.out.on hb1
    have hyc1 := HG1.out.yield_
    have hzV := hGL.out
    clear hb1 d0 d1 d2 b1 b2 b3
    cases R with
    | false =>
      have HJ1 : Kp (J ((pre ++ ([⟨gx, gy, gz⟩] : List Gr)).filter (hasB s h)) V1) := ⟨by rw [List.filter_append]; simp only [List.filter_cons, HR.out, List.filter_nil, Bool.false_eq_true, if_false, List.append_nil]; exact hj1⟩
      clear hj1 hyc1
      gi_wp2
      refine ⟨fun _ e => (by cases e), ?_⟩
      gi_wp2
      exact ⟨KeepsFrom.of_grownBy (grown_below HB1.out none) (fun j e => by cases e), Keep.below HB1.out (fun j hj => by omega), HJ1.out, HG1.out⟩
    | true =>
      obtain ⟨hN1, hN2⟩ := HN.out HR.out
      obtain ⟨fn, tmps, assign, body, hy, hRd⟩ := yield_any (n - 1 - 1 - 1) (HYY.out (pre.filter (hasB s h)) ⟨gx, gy, gz⟩ V1 hj1 hN2 (by have := HG1.out.size; have := HYZ.out; omega))
      rw [← hN1, HYZ.out] at hRd
      simp only [encG] at hy
      have HRd := Kp.mk hRd
      have HV1 : Kp (KeepsFrom W0.heap.size V V1 ∧ Keep (· = Y + 1) 0 (W0.heap.size + 2) V V1) := ⟨KeepsFrom.of_grownBy (grown_below HB1.out none) (fun j e => by cases e), Keep.below HB1.out (fun j hj => by omega)⟩
      clear hN1 hN2 hj1 hRd
      gi_wp2
      refine ⟨fun e => (by cases e), (show RoundIn (Fence.wide.inRound l2) (n - 1 - 1 - 1) Tryz.prog lp fn tmps assign body V1 _ from HRd.out).mono ?_⟩
      rintro en W3 (⟨rfl, hJ3, hk3⟩ | ⟨rfl, hx3, hf3⟩)
      · have HJ3 := Kp.mk hJ3
        have HK3 : Kp (KeepsFrom W0.heap.size V W3 ∧ Keep (· = Y + 1) 0 (W0.heap.size + 2) V W3) := ⟨HV1.out.1.trans (keeps_more hk3.from (by omega)), HV1.out.2.trans (hk3.weaken (fun j hj => .inr ⟨by omega, by omega, by have := HG1.out.size; omega⟩) (by omega) (.inr rfl))⟩
        have HG3 := Kp.mk (HG1.out.keep hk3)
        clear hJ3 hk3 hy hyc1
        gi_wp2
        exact ⟨HK3.out.1, HK3.out.2, HJ3.out, HG3.out⟩
      · have HX3 := Kp.mk hx3
        have HF3 : Kp (KeepsFrom W0.heap.size V W3) := ⟨HV1.out.1.trans (keeps_more hf3 (by omega))⟩
        clear hx3 hf3 hy hyc1
        gi_wp2
        exact ⟨HF3.out, rfl, HX3.out⟩
  case done =>
    rintro D V hD ⟨hj, hg⟩ hd
    have hgb := grownBy_putObj' V D (.deferred none)
    have hrr : ∀ r, some D = some r → V.heap.size ≤ r ∨ True := fun r e => .inr trivial
    have hJ2 : J (grainsL s h) (V.putObj D (.deferred none)) := HJT.out _ V _ (some D) hj hgb (fun r e => by cases e; exact ⟨by have := HYZ.out; have := HW.out.1; omega, .inr ⟨_, hd, rfl⟩⟩)
    have HJ2 := Kp.mk hJ2
    have HD2 := Kp.mk hd
    clear hj hg hd hJ2 hgb hrr
    gi_wp2
    refine ⟨by simp, .inl ⟨_, _, rfl, run_takeDeferred HD2.out, ?_⟩⟩
    exact ⟨_, results_none rfl _ _ _, ⟨_, rfl⟩, .inl HJ2.out⟩
  case stop =>
    rintro D cd ys V hD hys ⟨rfl, hx⟩ hd
    have hgb := grownBy_putObj' V D (.deferred none)
    have HX2 : Kp (Jx (ys.filter (hasB s h)) (V.putObj D (.deferred none))) := ⟨HJX.out _ V _ (some D) hx hgb (fun r e => by cases e; exact ⟨by have := HYZ.out; have := HW.out.1; omega, .inr ⟨_, hd, rfl⟩⟩)⟩
    have HP : Kp (ys.filter (hasB s h) <+: grainsL s h) := ⟨hys.filter _⟩
    have HD2 := Kp.mk hd
    clear hx hd hgb hys
    gi_wp2
    refine ⟨by simp, .inl ⟨_, _, rfl, run_takeDeferred HD2.out, ?_⟩⟩
    exact ⟨_, results_none rfl _ _ _, ⟨_, rfl⟩, .inr ⟨_, HP.out, HX2.out⟩⟩
end Go.Proofs.YtknggeofilfiaaaGreatDoor.Cv
