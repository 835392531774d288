/-
  WALKS (layer 5, carve): the iterator over the faces of a block.
-/
import Derived.Test.YtcjlijiifhggfaaCvAround
import Derived.Test.YtcjlijiifhggfaaCvLess
namespace Go.Proofs.Ytcjlijiifhggfaa.Cv
open Go Go.RowKit Go.Sort
attribute [local go_sem] Oper.semAt_some

/-- What an iterator asks of a round that goes on behind a yield: some blocks lie; from n on all that lay lies. -/
structure KeepA (S : Nat → Prop) (n : Nat) (A B : World) : Prop where
  size : A.heap.size ≤ B.heap.size
  same : ∀ k, S k → B.heap[k]? = A.heap[k]?
  all : ∀ k o, n ≤ k → A.heap[k]? = some o → B.heap[k]? = some o
theorem KeepA.trans {S : Nat → Prop} {n : Nat} {A B C : World} (h : KeepA S n A B) (k : KeepA S n B C) : KeepA S n A C :=
  ⟨Nat.le_trans h.size k.size, fun j hj => (k.same j hj).trans (h.same j hj), fun j o hj ho => k.all j o hj (h.all j o hj ho)⟩
theorem KeepA.of_grown {S : Nat → Prop} {n : Nat} {A B : World} {row : Option Nat} (h : A.grownBy B row) (hA : ∀ k, S k → k < A.heap.size) (hr : ∀ r, row = some r → r < n ∧ ¬ S r) : KeepA S n A B :=
  ⟨h.size, fun k hk => h.block k (hA k hk) (fun e => (hr k e.symm).2 hk), fun k o hk ho => (h.block k (Array.getElem?_eq_some_iff.1 ho).1 (fun e => by have := (hr k e.symm).1; omega)).trans ho⟩
theorem KeepA.below {S : Nat → Prop} {n : Nat} {A B : World} (h : Below A.heap.size A B) (hA : ∀ k, S k → k < A.heap.size) : KeepA S n A B := KeepA.of_grown (grown_below h none) hA (fun r e => by cases e)
theorem KeepA.putObj {S : Nat → Prop} {n : Nat} {W : World} {l : Nat} {o' : Obj} (hl : l < n) (hS : ¬ S l) : KeepA S n W (W.putObj l o') :=
  ⟨by simp, fun k hk => World.putObj_heap_other (fun e => hS (e ▸ hk)), fun k p hk hp => (World.putObj_heap_other (by omega)).trans hp⟩
theorem KeepA.keep {S T : Nat → Prop} {n p q : Nat} {A B : World} (h : KeepA S n A B) (hT : ∀ k, T k → S k ∨ (n ≤ k ∧ k < A.heap.size)) (hn : n ≤ q) : Keep T p q A B :=
  ⟨h.size, fun k hk => by
    rcases hT k hk with h1 | ⟨h1, h3⟩
    · exact h.same k h1
    · have ha : A.heap[k]? = some A.heap[k] := Array.getElem?_eq_getElem h3
      rw [h.all k _ h1 ha, ha], fun k o hk ho _ => h.all k o (by omega) ho, fun k o hk _ ho => h.all k o (by omega) ho⟩
theorem KeepA.block {S : Nat → Prop} {n k : Nat} {A B : World} (h : KeepA S n A B) (hn : n ≤ k) (hk : k < A.heap.size) : B.heap[k]? = A.heap[k]? := by
  have ha : A.heap[k]? = some A.heap[k] := Array.getElem?_eq_getElem hk
  rw [h.all k _ hn ha, ha]
theorem KeepA.from {S : Nat → Prop} {n : Nat} {A B : World} (h : KeepA S n A B) : KeepsFrom n A B := ⟨h.size, fun k o hk ho _ => h.all k o hk ho⟩
theorem GI.keepA {lp Y B H o c s : Nat} {h : List Bool} {V X : World} (k : GI lp Y B H o c s h V) (hk : KeepA (SB B H) Y V X) : GI lp Y B H o c s h X :=
  k.keep (hk.keep (fun _ hj => .inl hj) (Nat.le_refl _))
theorem faces_any (s : Int) (v : Value) (w : World) :
    Calls Try.prog 42 #[.agg #[.int .i64 s, v]] w fun en w' => en = .returned (.func (.func 74) #[] #[.pointer (some ⟨w.heap.size, 0, none⟩)]) ∧ w.alloc (.cells #[.int .i64 s, v] 24) = w' := by
  go_enter Try.func42, Try.ntmps42
  go_wp2
  go_ret
  exact ⟨rfl, rfl⟩
/-- A block once more, in cells of its own. -/
theorem BK.copy {B H o c s : Nat} {h : List Bool} {W : World} {t : TypeId} (k : BK B H o c s h W) : BK W.heap.size H o c s h (W.alloc (.cells #[.int .i64 s, .slice (some ⟨H, o, none⟩) h.length c] t)) := by
  have hb : Below W.heap.size W (W.alloc (.cells #[.int .i64 s, .slice (some ⟨H, o, none⟩) h.length c] t)) := (Below.refl _ _).alloc (Nat.le_refl _) _
  have k2 := k.on hb
  exact ⟨by go_simp, by go_simp, k2.row, k2.first⟩
theorem faces_start {lp Y B H o c s : Nat} {h : List Bool} {W W0 : World} {t t' : TypeId} (hk : BK B H o c s h W) (hY : W.heap.size = Y) (h0 : (W.alloc (.cells #[.func (.yield lp) #[] #[]] t)).alloc (.cells #[.int .i64 s, .slice (some ⟨H, o, none⟩) h.length c] t') = W0) :
    W0.heap.size = Y + 2 ∧ Below W.heap.size W W0 ∧ BK (Y + 1) H o c s h W0 ∧ GI lp Y B H o c s h W0 := by
  subst h0
  subst hY
  have b1 : Below W.heap.size W (W.alloc (.cells #[.func (.yield lp) #[] #[]] t)) := (Below.refl _ _).alloc (Nat.le_refl _) _
  have b2 := (Below.refl _ (W.alloc (.cells #[.func (.yield lp) #[] #[]] t))).alloc (Nat.le_refl _) (.cells #[.int .i64 s, .slice (some ⟨H, o, none⟩) h.length c] t')
  have k1 := hk.on b1
  have k2 := k1.copy (t := t')
  rw [World.size_alloc] at k2
  refine ⟨by simp, b1.trans (b2.mono (by simp)), k2, k1.on b2, ?_, by simp⟩
  exact (b2.cell (p := ⟨W.heap.size, 0, none⟩) (by simp)).trans (by go_simp)
theorem ix_0 (v0 v1 v2 v3 v4 v5 v6 v7 v8 v9 v10 v11 v12 v13 v14 v15 v16 v17 : Value) (W : World) : (Instr.index 71 (.agg #[v0, v1, v2, v3, v4, v5, v6, v7, v8, v9, v10, v11, v12, v13, v14, v15, v16, v17]) (.int .i64 0)).run Try.prog W = .ok (Value.agg #[v0, v1, v2]) W := by kernel_rfl
theorem ix_1 (v0 v1 v2 v3 v4 v5 v6 v7 v8 v9 v10 v11 v12 v13 v14 v15 v16 v17 : Value) (W : World) : (Instr.index 71 (.agg #[v0, v1, v2, v3, v4, v5, v6, v7, v8, v9, v10, v11, v12, v13, v14, v15, v16, v17]) (.int .i64 1)).run Try.prog W = .ok (Value.agg #[v3, v4, v5]) W := by kernel_rfl
theorem ix_2 (v0 v1 v2 v3 v4 v5 v6 v7 v8 v9 v10 v11 v12 v13 v14 v15 v16 v17 : Value) (W : World) : (Instr.index 71 (.agg #[v0, v1, v2, v3, v4, v5, v6, v7, v8, v9, v10, v11, v12, v13, v14, v15, v16, v17]) (.int .i64 2)).run Try.prog W = .ok (Value.agg #[v6, v7, v8]) W := by kernel_rfl
theorem ix_3 (v0 v1 v2 v3 v4 v5 v6 v7 v8 v9 v10 v11 v12 v13 v14 v15 v16 v17 : Value) (W : World) : (Instr.index 71 (.agg #[v0, v1, v2, v3, v4, v5, v6, v7, v8, v9, v10, v11, v12, v13, v14, v15, v16, v17]) (.int .i64 3)).run Try.prog W = .ok (Value.agg #[v9, v10, v11]) W := by kernel_rfl
theorem ix_4 (v0 v1 v2 v3 v4 v5 v6 v7 v8 v9 v10 v11 v12 v13 v14 v15 v16 v17 : Value) (W : World) : (Instr.index 71 (.agg #[v0, v1, v2, v3, v4, v5, v6, v7, v8, v9, v10, v11, v12, v13, v14, v15, v16, v17]) (.int .i64 4)).run Try.prog W = .ok (Value.agg #[v12, v13, v14]) W := by kernel_rfl
theorem ix_5 (v0 v1 v2 v3 v4 v5 v6 v7 v8 v9 v10 v11 v12 v13 v14 v15 v16 v17 : Value) (W : World) : (Instr.index 71 (.agg #[v0, v1, v2, v3, v4, v5, v6, v7, v8, v9, v10, v11, v12, v13, v14, v15, v16, v17]) (.int .i64 5)).run Try.prog W = .ok (Value.agg #[v15, v16, v17]) W := by kernel_rfl
theorem around_ix {g n : Gr} {k : Nat} (hn : (aroundL g)[k]? = some n) (W : World) : (Instr.index 71 (.agg (aroundV g)) (.int .i64 k)).run Try.prog W = .ok (Value.agg #[.int .i64 n.x, .int .i64 n.y, .int .i64 n.z]) W := by
  obtain ⟨x, y, z⟩ := g
  have hk : k < 6 := by have := (List.getElem?_eq_some_iff.1 hn).1; simpa [around_len] using this
  have hc : k = 0 ∨ k = 1 ∨ k = 2 ∨ k = 3 ∨ k = 4 ∨ k = 5 := by omega
  rcases hc with rfl | rfl | rfl | rfl | rfl | rfl <;> (simp only [aroundL, List.getElem?_cons_zero, List.getElem?_cons_succ, Option.some.injEq] at hn; subst hn)
  · exact ix_0 _ _ _ _ _ _ _ _ _ _ _ _ _ _ _ _ _ _ W
  · exact ix_1 _ _ _ _ _ _ _ _ _ _ _ _ _ _ _ _ _ _ W
  · exact ix_2 _ _ _ _ _ _ _ _ _ _ _ _ _ _ _ _ _ _ W
  · exact ix_3 _ _ _ _ _ _ _ _ _ _ _ _ _ _ _ _ _ _ W
  · exact ix_4 _ _ _ _ _ _ _ _ _ _ _ _ _ _ _ _ _ _ W
  · exact ix_5 _ _ _ _ _ _ _ _ _ _ _ _ _ _ _ _ _ _ W
set_option maxRecDepth 100000 in
set_option maxHeartbeats 2000000 in
theorem faces_yields (n : Nat) (hn : 4 ≤ n) (B H o c s : Nat) (h : List Bool) (hs : 1 ≤ s) (hs2 : s ≤ 10) (hl : h.length = s * s * s) (w : World) (hk : BK B H o c s h w) :
    YieldsS 0 encF Fence.wide n Try.prog 74 #[.pointer (some ⟨B, 0, none⟩)] (KeepA (SB B H)) (facesL s h) w := by
  intro lp J Jx W hW hsz hJ hJx hY h0
  have kW := hk.on hW
  obtain ⟨Y, hYz⟩ : ∃ Y, W.heap.size = Y := ⟨_, rfl⟩
  have HYZ := Kp.mk hYz
  have HK := Kp.mk kW
  have HJ0 := Kp.mk h0
  have HYY := Kp.mk hY
  have HJT := Kp.mk hJ
  have HJX := Kp.mk hJx
  have cS := kW.side
  have cH := kW.has
  have hBl := kW.ltB
  have HHL : Kp (H < Y) := ⟨by have := kW.ltH; omega⟩
  have HLN := Kp.mk hl
  clear hl h0 hY hJ hJx hW hsz hk kW hYz
  refine callsIn_of_wp_marks Try.func74 rfl trivial ?_ rfl
  simp only [Try.ntmps74, List.size_toArray, List.length_cons, List.length_nil, Nat.reduceAdd, Nat.reduceSub, Array.replicate_succ, Array.replicate_zero, List.push_toArray, List.append_toArray, List.nil_append, List.cons_append]
  gi_wp2_with fail
  refine ⟨trivial, fun e => (by cases e), (callsIn_wide.2 (grains_any _ _ _)).mono ?_⟩
  rintro en W0 ⟨rfl, hW0⟩
  obtain ⟨z0, hb0, hk0, hg0⟩ := faces_start HK.out HYZ.out hW0
  have HW : Kp (W0.heap.size = Y + 2 ∧ B < Y) := ⟨z0, by have := HK.out.ltB; have := HYZ.out; omega⟩
  have HK0 := Kp.mk hk0
  have HG0 := Kp.mk hg0
  have HS0 : Kp (J (facesO s h []) W0) := ⟨HJT.out _ W W0 none HJ0.out (grown_below hb0 none) (fun r e => by cases e)⟩
  clear hW0 z0 hb0 hk0 hg0
  gi_wp2
  simp only [HYZ.out]
  refine wpIn_yieldsS (k := 0) (enc := encG) (xs := grainsL s h) rfl (by omega) (gf := 79) (lb := #[.pointer (some ⟨Y + 1, 0, none⟩)]) rfl trivial (enters_of Try.func79 (by kernel_rfl) rfl) (fun _ => rfl)
    (grains_yields (n - 1) (by omega) (Y + 1) H o c s h hs hs2 HLN.out W0 HK0.out) Keep.trans (fun V o o' _ _ _ => Keep.putObj (by omega) (by have := HW.out; have := HHL.out; rintro (e | e) <;> omega))
    (fun pre V => J (facesO s h pre) V ∧ GI lp Y B H o c s h V)
    (fun cd ys V => cd = .ret ∧ ∃ zs, zs <+: facesL s h ∧ Jx zs V)
    (fun q => Turns.abides (C := Y) (turns_and (by have := HJT.out (facesO s h q); rwa [HYZ.out] at this) GI.turns) (by have := HW.out.1; omega)) (fun cd q => Turns.abides (C := Y) (turns_and turns_const (fun X Z row ⟨zs, h1, h2⟩ g hr => ⟨zs, h1, by have := HJX.out zs; rw [HYZ.out] at this; exact this X Z row h2 g hr⟩)) (by have := HW.out.1; omega))
    ⟨HS0.out, HG0.out⟩
    (fun pre x a' V => (J (facesO s h pre) V ∧ GI lp Y B H o c s h V) ∧ ∃ G, Y + 3 < G ∧ GrAt V G x ∧ a' = { tmps := #[.func (.yield lp) #[] #[], .pointer (some ⟨B, 0, none⟩), .pointer (some ⟨Y, 0, none⟩), .pointer (some ⟨G, 0, none⟩), undef, undef, .agg #[.int .i64 s, .slice (some ⟨H, o, none⟩) h.length c], .func (.func 79) #[] #[.pointer (some ⟨Y + 1, 0, none⟩)], .agg #[.int .i64 x.x, .int .i64 x.y, .int .i64 x.z], undef, undef, undef, undef, undef, undef, undef, undef, undef, undef, undef, undef, undef, undef, undef, undef, undef], defers := [] })
    ?ax ?assign ?body ?done ?stop
  case ax =>
    rintro pre x a' X V row ⟨hi, G, hG, hx, ha⟩ g hr
    exact ⟨Turns.abides (C := Y) (turns_and (by have := HJT.out (facesO s h pre); rwa [HYZ.out] at this) GI.turns) (by have := HW.out.1; omega) X V row hi g hr, G, hG, GrAt.abide hx g hr (by have := HW.out.1; omega), ha⟩
  case assign =>
    rintro l2 pre ⟨gx, gy, gz⟩ V hi _ hsz
    have HI := Kp.mk hi
    clear hi
    have ez : ((#[8] : Array Tmp).zip (encG ⟨gx, gy, gz⟩)).foldl (fun tmps (q : Tmp × Value) => tmps.setIfInBounds q.1 q.2) #[.func (.yield lp) #[] #[], .pointer (some ⟨B, 0, none⟩), .pointer (some ⟨Y, 0, none⟩), undef, undef, undef, .agg #[.int .i64 s, .slice (some ⟨H, o, none⟩) h.length c], .func (.func 79) #[] #[.pointer (some ⟨Y + 1, 0, none⟩)], undef, undef, undef, undef, undef, undef, undef, undef, undef, undef, undef, undef, undef, undef, undef, undef, undef, undef] = #[.func (.yield lp) #[] #[], .pointer (some ⟨B, 0, none⟩), .pointer (some ⟨Y, 0, none⟩), undef, undef, undef, .agg #[.int .i64 s, .slice (some ⟨H, o, none⟩) h.length c], .func (.func 79) #[] #[.pointer (some ⟨Y + 1, 0, none⟩)], .agg #[.int .i64 gx, .int .i64 gy, .int .i64 gz], undef, undef, undef, undef, undef, undef, undef, undef, undef, undef, undef, undef, undef, undef, undef, undef, undef] := by simp [encG]
    rw [ez]
    clear ez
    gi_wp2
    have hzv : Y + 3 < V.heap.size := by have := HW.out.1; omega
    have hbb : Below V.heap.size V (V.alloc (.cells #[.int .i64 gx, .int .i64 gy, .int .i64 gz] 48)) := (Below.refl _ _).alloc (Nat.le_refl _) _
    refine ⟨alloc_keeps _ _ _, Keep.below hbb (fun j hj => by have := HW.out; have := HHL.out; rcases hj with rfl | rfl <;> omega), ⟨?_, HI.out.2.on hbb⟩, V.heap.size, hzv, ⟨by go_simp, by go_simp, by go_simp⟩, rfl⟩
    exact HJT.out _ V _ none HI.out.1 (grown_below hbb none) (fun r e => by cases e)
  case body =>
    rintro l2 pre x a' V ⟨⟨hj, hg⟩, G, hG, hgr, rfl⟩ hpre hsz
    have HIX : Kp (∀ (k : Nat) (n : Gr), (aroundL x)[k]? = some n → ∀ W, (Instr.index 71 (.agg (aroundV x)) (.int .i64 k)).run Try.prog W = .ok (Value.agg #[.int .i64 n.x, .int .i64 n.y, .int .i64 n.z]) W) := ⟨fun k n hn W => around_ix hn W⟩
    have hsm : small x := by
      have h1 : x ∈ grainsL s h := hpre.subset (by simp)
      unfold grainsL at h1
      exact mem_small hs2 (mem_ins (List.mem_filter.1 h1).1)
    have HAR : Kp (∀ W, Calls Try.prog 75 #[.agg #[.int .i64 x.x, .int .i64 x.y, .int .i64 x.z]] W fun e w' => e = .returned (.agg (aroundV x)) ∧ Below W.heap.size W w') := ⟨fun W => around_any x hsm W⟩
    obtain ⟨A, hA⟩ : ∃ A, aroundV x = A := ⟨_, rfl⟩
    rw [hA] at HIX HAR
    have HPRE := Kp.mk hpre
    have HJ0 : Kp (J (facesO s h pre ++ facesG s h x ((aroundL x).take 0)) V) := ⟨by simpa [facesG] using hj⟩
    have HGV := Kp.mk hg
    have HD := Kp.mk hgr
    have hGl := World.block_lt_of_cell? _ _ hgr.c0
    have HSZ : Kp (W0.heap.size = Y + 2 ∧ W0.heap.size + 2 ≤ V.heap.size ∧ Y + 3 < G ∧ G < V.heap.size ∧ B < Y ∧ H < Y) := ⟨HW.out.1, by omega, hG, hGl, HW.out.2, HHL.out⟩
    have HLEN := HLN
    obtain ⟨d0, d1, d2⟩ := hgr
    clear hj hg hpre hA hsm hG hsz hGl
    gi_wp2_with fail
    refine ⟨trivial, fun e => (by cases e), (CallsIn.inRound l2 (callsIn_wide.2 (HAR.out V))).mono ?_⟩
    rintro en V1 ⟨rfl, hb1⟩
    have HV1 : Kp (KeepsFrom W0.heap.size V V1 ∧ Keep (SB (Y + 1) H) 2 (W0.heap.size + 2) V V1) := ⟨KeepsFrom.of_grownBy (grown_below hb1 none) (fun j e => by cases e), Keep.below hb1 (fun j hj => by have := HSZ.out; rcases hj with rfl | rfl <;> omega)⟩
    have HG1 := Kp.mk (HGV.out.on hb1)
    have HD1 := Kp.mk (HD.out.on hb1)
    have HJ1 : Kp (J (facesO s h pre ++ facesG s h x ((aroundL x).take 0)) V1) := ⟨HJT.out _ V V1 none HJ0.out (grown_below hb1 none) (fun r e => by cases e)⟩
    have HZ1 : Kp (V.heap.size ≤ V1.heap.size) := ⟨hb1.size⟩
    clear hb1 d0 d1 d2
    gi_wp2
    gi_loopw [11] (fun a wr => ∃ k : Nat, k ≤ 6 ∧ a = .int .i64 (k : Int) ∧ Kp (KeepsFrom W0.heap.size V wr ∧ Keep (SB (Y + 1) H) 2 (W0.heap.size + 2) V wr ∧ V.heap.size ≤ wr.heap.size) ∧ Kp (GI lp Y B H o c s h wr) ∧ Kp (GrAt wr G x) ∧ J (facesO s h pre ++ facesG s h x ((aroundL x).take k)) wr) (fun a _ => 6 - (intOf a).toNat)
    case atStart => exact ⟨0, by omega, rfl, ⟨HV1.out.1, HV1.out.2, HZ1.out⟩, HG1, HD1, HJ1.out⟩
    case round =>
      clear HV1 HG1 HD1 HJ1 HZ1 HGV HD HJ0
      obtain ⟨k, hk, rfl, HV2, HG2, HD2, hJk⟩ := hrel
      have HJk := Kp.mk hJk
      clear hJk
      by_cases hlt : k < 6
      · obtain ⟨m, hm⟩ : ∃ m, (aroundL x)[k]? = some m := ⟨_, List.getElem?_eq_getElem (by rw [around_len]; exact hlt)⟩
        have hix := HIX.out k m hm
        have o1 : (k : Int) < 6 := by omega
        have b1 := HG2.out.block.side
        have b2 := HG2.out.block.has
        have b3 := HG2.out.block.ltB
        have HH : Kp (∀ W, Below wr.heap.size wr W → Calls Try.prog 62 #[.agg #[.int .i64 s, .slice (some ⟨H, o, none⟩) h.length c], .agg #[.int .i64 m.x, .int .i64 m.y, .int .i64 m.z]] W fun e w' => e = .returned (.bool (hasB s h m)) ∧ Below W.heap.size W w') := ⟨fun W hW => has_any s _ h m W hs2 HLEN.out (HG2.out.block.row.below hW)⟩
        have HPF : Kp (facesO s h pre ++ facesG s h x ((aroundL x).take (k + 1)) <+: facesL s h) := ⟨faces_prefix HPRE.out⟩
        have hfs := facesG_succ (s := s) (h := h) hm
        obtain ⟨R, hR⟩ : ∃ R, hasB s h m = R := ⟨_, rfl⟩
        rw [hR] at HH hfs
        have HFS := Kp.mk hfs
        obtain ⟨mx, my, mz⟩ := m
        clear hm hR hfs
        gi_wp2_with fail
        refine ⟨trivial, fun e => (by cases e), (CallsIn.inRound l2 (callsIn_wide.2 (HH.out _ ((Below.refl _ _).alloc (Nat.le_refl _) _)))).mono ?_⟩
        rintro en V2 ⟨rfl, hb2⟩
        have hbw : Below wr.heap.size wr V2 := ((Below.refl _ wr).alloc (Nat.le_refl _) _).trans (hb2.mono (by simp))
        have p0 : V2.cell? ⟨wr.heap.size, 0, none⟩ = some (.int .i64 mx) := (hb2.cell (p := ⟨wr.heap.size, 0, none⟩) (by simp)).trans (by go_simp)
        have p1 : V2.cell? ⟨wr.heap.size, 1, none⟩ = some (.int .i64 my) := (hb2.cell (p := ⟨wr.heap.size, 1, none⟩) (by simp)).trans (by go_simp)
        have p2 : V2.cell? ⟨wr.heap.size, 2, none⟩ = some (.int .i64 mz) := (hb2.cell (p := ⟨wr.heap.size, 2, none⟩) (by simp)).trans (by go_simp)
        have HG3 := Kp.mk (HG2.out.on hbw)
        have HD3 := Kp.mk (HD2.out.on hbw)
        have HV3 : Kp (KeepsFrom W0.heap.size V V2 ∧ Keep (SB (Y + 1) H) 2 (W0.heap.size + 2) V V2 ∧ V.heap.size ≤ V2.heap.size) := ⟨HV2.out.1.trans (KeepsFrom.of_grownBy (grown_below hbw none) (fun j e => by cases e)), HV2.out.2.1.trans (Keep.below hbw (fun j hj => by have := HSZ.out; have := HV2.out.2.2; rcases hj with rfl | rfl <;> omega)), Nat.le_trans HV2.out.2.2 hbw.size⟩
        have hj3 : J (facesO s h pre ++ facesG s h x ((aroundL x).take k)) V2 := HJT.out _ wr V2 none HJk.out (grown_below hbw none) (fun r e => by cases e)
        clear hb2 hbw b1 b2 b3 HV2 HG2 HD2 HJk hix HH
        cases R with
        | true =>
          have HJ3 : Kp (J (facesO s h pre ++ facesG s h x ((aroundL x).take (k + 1))) V2) := ⟨by rw [HFS.out, if_pos rfl, List.append_nil]; exact hj3⟩
          clear hj3 p0 p1 p2
          gi_wp2
          refine ⟨fun _ e => (by cases e), ?_⟩
          gi_wp2
          go_roundw
          case rel => exact ⟨k + 1, by omega, by go_num, HV3, HG3, HD3, HJ3.out⟩
          case measure => simp [intOf]; omega
        | false =>
          have hfs : facesG s h x ((aroundL x).take (k + 1)) = facesG s h x ((aroundL x).take k) ++ [(x, ⟨mx, my, mz⟩)] := by rw [HFS.out, if_neg (by decide)]
          obtain ⟨fn, tmps, assign, body, hy, hRd⟩ := yield_any (n - 1 - 1 - 1) (HYY.out (facesO s h pre ++ facesG s h x ((aroundL x).take k)) (x, ⟨mx, my, mz⟩) V2 hj3 (by rw [List.append_assoc, ← hfs]; exact HPF.out) (by have := HG3.out.size; have := HYZ.out; omega))
          rw [List.append_assoc, ← hfs, HYZ.out] at hRd
          simp only [encF] at hy
          have HRd := Kp.mk hRd
          obtain ⟨d0, d1, d2⟩ := HD3.out
          have hyc := HG3.out.yield_
          clear hj3 hRd hfs
          gi_wp2
          refine ⟨fun e => (by cases e), (show RoundIn (Fence.wide.inRound l2) (n - 1 - 1 - 1) Try.prog lp fn tmps assign body V2 _ from HRd.out).mono ?_⟩
          rintro en W3 (⟨rfl, hJ3, hk3⟩ | ⟨rfl, hx3, hf3⟩)
          · have HJ3 := Kp.mk hJ3
            have HK3 : Kp (KeepsFrom W0.heap.size V W3 ∧ Keep (SB (Y + 1) H) 2 (W0.heap.size + 2) V W3 ∧ V.heap.size ≤ W3.heap.size) := ⟨HV3.out.1.trans (keeps_more hk3.from (by have := HSZ.out; omega)), HV3.out.2.1.trans (hk3.keep (fun j hj => by have := HSZ.out; have := HV3.out.2.2; rcases hj with rfl | rfl; exact .inr ⟨by omega, by omega⟩; exact .inl (.inr rfl)) (by have := HSZ.out; omega)), Nat.le_trans HV3.out.2.2 hk3.size⟩
            have HG4 := Kp.mk (HG3.out.keepA hk3)
            have HD4 := Kp.mk (HD3.out.same (hk3.block (by have := HSZ.out; omega) (World.block_lt_of_cell? _ _ HD3.out.c0)))
            clear hJ3 hk3 hy hyc d0 d1 d2 p0 p1 p2
            gi_wp2
            go_roundw
            case rel => exact ⟨k + 1, by omega, by go_num, HK3, HG4, HD4, HJ3.out⟩
            case measure => simp [intOf]; omega
          · have HX3 := Kp.mk hx3
            have HF3 : Kp (KeepsFrom W0.heap.size V W3) := ⟨HV3.out.1.trans (keeps_more hf3 (by have := HSZ.out; omega))⟩
            clear hx3 hf3 hy hyc d0 d1 d2 p0 p1 p2
            gi_wp2
            exact ⟨HF3.out, rfl, _, HPF.out, HX3.out⟩
      · obtain rfl : k = 6 := by omega
        have HJF : Kp (J (facesO s h (pre ++ [x])) wr) := ⟨by rw [facesO_snoc]; exact HJk.out⟩
        clear HJk
        gi_wp2
        exact ⟨HV2.out.1, HV2.out.2.1, HJF.out, HG2.out⟩
  case done =>
    rintro D V hD ⟨hj, hg⟩ hd
    have hgb := grownBy_putObj' V D (.deferred none)
    have HJ2 : Kp (J (facesL s h) (V.putObj D (.deferred none))) := ⟨HJT.out _ V _ (some D) hj hgb (fun r e => by cases e; exact ⟨by have := HYZ.out; have := HW.out.1; omega, .inr ⟨_, hd, rfl⟩⟩)⟩
    have HD2 := Kp.mk hd
    clear hj hg hd hgb
    gi_wp2
    refine ⟨by simp, .inl ⟨_, _, rfl, run_takeDeferred HD2.out, ?_⟩⟩
    exact ⟨_, results_none rfl _ _ _, ⟨_, rfl⟩, .inl HJ2.out⟩
  case stop =>
    rintro D cd ys V hD hys ⟨rfl, zs, hz, hx⟩ hd
    have hgb := grownBy_putObj' V D (.deferred none)
    have HX2 : Kp (Jx zs (V.putObj D (.deferred none))) := ⟨HJX.out _ V _ (some D) hx hgb (fun r e => by cases e; exact ⟨by have := HYZ.out; have := HW.out.1; omega, .inr ⟨_, hd, rfl⟩⟩)⟩
    have HP := Kp.mk hz
    have HD2 := Kp.mk hd
    clear hx hd hgb hys hz
    gi_wp2
    refine ⟨by simp, .inl ⟨_, _, rfl, run_takeDeferred HD2.out, ?_⟩⟩
    exact ⟨_, results_none rfl _ _ _, ⟨_, rfl⟩, .inr ⟨_, HP.out, HX2.out⟩⟩
end Go.Proofs.Ytcjlijiifhggfaa.Cv
