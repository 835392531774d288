/-
  WALKS (layer 5, carve): how many faces a block has.
-/
import Derived.Test.YtcjlijiifhggfaaCvFaces
namespace Go.Proofs.Ytcjlijiifhggfaa.Cv
open Go Go.RowKit Go.Sort
attribute [local go_sem] Oper.semAt_some

theorem facesO_len (s : Nat) (h : List Bool) (l : List Gr) : (facesO s h l).length ≤ 6 * l.length := by
  induction l with
  | nil => simp [facesO]
  | cons g l ih =>
    have h1 : (facesG s h g (aroundL g)).length ≤ 6 := by
      unfold facesG
      rw [List.length_map]
      exact List.length_filter_le _ _
    unfold facesO at *
    rw [List.flatMap_cons, List.length_append, List.length_cons]
    omega
theorem facesL_len {s : Nat} (hs : s ≤ 10) (h : List Bool) : (facesL s h).length ≤ 6000 := by
  have h1 := facesO_len s h (grainsL s h)
  have h2 : (grainsL s h).length ≤ 1000 := by
    unfold grainsL
    refine Nat.le_trans (List.length_filter_le _ _) ?_
    rw [places_len]
    exact (cube_bd hs).2
  unfold facesL
  omega
theorem count_start {B H o c s : Nat} {h : List Bool} {w w1 W0 : World} {t t' : TypeId} (hb : Below w.heap.size w w1) (hk : BK B H o c s h w1) (h0 : (w1.alloc (.cells #[.int .i64 0] t)).alloc (.cells #[.int .i64 s, .slice (some ⟨H, o, none⟩) h.length c] t') = W0) :
    W0.heap.size = w1.heap.size + 2 ∧ BK (w1.heap.size + 1) H o c s h W0 ∧ Hd w [(w1.heap.size, 0, .int .i64 0)] W0 := by
  subst h0
  have b1 : Below w1.heap.size w1 (w1.alloc (.cells #[.int .i64 0] t)) := (Below.refl _ _).alloc (Nat.le_refl _) _
  have k2 := (hk.on b1).copy (t := t')
  rw [World.size_alloc] at k2
  refine ⟨by simp, k2, (hb.alloc hb.size _).alloc (by simp; have := hb.size; omega) _, fun p hp => ?_⟩
  rw [List.mem_singleton.1 hp]
  exact ⟨by go_simp, by go_simp⟩
set_option maxRecDepth 100000 in
set_option maxHeartbeats 2000000 in
theorem Faces_bk (H o c s : Nat) (h : List Bool) (w : World) (hs : 1 ≤ s) (hs2 : s ≤ 10) (hl : h.length = s * s * s) (hv : LB w (.slice (some ⟨H, o, none⟩) h.length c) h) (hq : ∃ q, w.cell? ⟨H, o, none⟩ = some (.bool q)) :
    Calls Try.prog 15 #[.agg #[.int .i64 s, .slice (some ⟨H, o, none⟩) h.length c]] w fun e w' => e = .returned (.tuple #[.int .i64 ((facesL s h).length : Nat), .int .i64 0]) ∧ Below w.heap.size w w' := by
  have hb : blockB s h.length = true := by
    unfold blockB
    rw [side_iff.2 (by omega), decide_eq_true (by rw [hl, Int.natCast_mul, Int.natCast_mul])]; rfl
  have HB : Kp (∀ W, Calls Try.prog 32 #[.agg #[.int .i64 s, .slice (some ⟨H, o, none⟩) h.length c]] W fun e w' => e = .returned (.bool true) ∧ Below W.heap.size W w') := ⟨fun W => hb ▸ ValidBlock_any s (some ⟨H, o, none⟩) h.length c W⟩
  have HLN := Kp.mk hl
  have HV := Kp.mk hv
  have HQ := Kp.mk hq
  have HHL : Kp (H < w.heap.size) := ⟨by obtain ⟨q, hq⟩ := hq; exact World.block_lt_of_cell? _ _ hq⟩
  have HFL := Kp.mk (facesL_len hs2 h)
  clear hl hv hb hq
  refine (callsIn_wide (n := 7)).1 ?_
  refine callsIn_of_wp_marks Try.func15 rfl trivial ?_ rfl
  simp only [Try.ntmps15, List.size_toArray, List.length_cons, List.length_nil, Nat.reduceAdd, Nat.reduceSub, Array.replicate_succ, Array.replicate_zero, List.push_toArray, List.append_toArray, List.nil_append, List.cons_append]
  gi_wp2_with fail
  refine ⟨trivial, (callsIn_wide.2 (HB.out _)).mono ?_⟩
  rintro en w1 ⟨rfl, hb1⟩
  have HB1 : Kp (Below w.heap.size w w1) := ⟨Below.trans (by repeat (first | refine Below.alloc ?_ (by (try simp) <;> omega) _ | refine bDrewN ?_ _ | refine Below.drew ?_ | refine Below.setCell ?_ (by (try simp) <;> omega) _ | exact Below.refl _ _)) (hb1.mono (by (try simp) <;> omega))⟩
  have hz1_0 : w.heap.size < w1.heap.size := by have := hb1.size; (try simp at this); omega
  obtain ⟨hc, hf⟩ := bcell hb1
  have c1_0_0 : w1.cell? ⟨w.heap.size, 0, none⟩ = some (.int .i64 s) := (hc _ _ (by (try simp) <;> omega)).trans (by go_simp)
  have c1_0_1 : w1.cell? ⟨w.heap.size, 1, none⟩ = some ((.slice (some ⟨H, o, none⟩) h.length c)) := (hc _ _ (by (try simp) <;> omega)).trans (by go_simp)
  have z1_0 : ∀ j, w1.frozen? ⟨w.heap.size, j, none⟩ = false := fun j => (hf _ _ (by (try simp) <;> omega)).trans (by go_simp)
  clear hc hf hb1
  have HK1 : Kp (BK w.heap.size H o c s h w1) := ⟨⟨c1_0_0, c1_0_1, HV.out.below HB1.out, by obtain ⟨q, hq⟩ := HQ.out; exact ⟨q, (HB1.out.cell (p := ⟨H, o, none⟩) HHL.out).trans hq⟩⟩⟩
  gi_wp2_with fail
  refine ⟨trivial, (callsIn_wide.2 (faces_any _ _ _)).mono ?_⟩
  rintro en W0 ⟨rfl, hW0⟩
  obtain ⟨z0, k0, d0⟩ := count_start HB1.out HK1.out hW0
  rw [World.size_alloc] at *
  obtain ⟨Z, hZ⟩ : ∃ Z, w1.heap.size = Z := ⟨_, rfl⟩
  have HZ : Kp (W0.heap.size = Z + 2 ∧ w.heap.size < Z) := ⟨by rw [z0, hZ], by rw [← hZ]; exact hz1_0⟩
  rw [hZ] at k0 d0
  have HK0 := Kp.mk k0
  have HD0 := Kp.mk d0
  clear c1_0_0 c1_0_1 z1_0 hz1_0 z0 k0 d0 hW0
  gi_wp2
  try simp only [hZ]
  clear hZ
  refine wpIn_yieldsS (k := 0) (enc := encF) (xs := facesL s h) rfl (by omega) (gf := 74) (lb := #[.pointer (some ⟨Z + 1, 0, none⟩)]) rfl trivial (enters_of Try.func74 (by kernel_rfl) rfl) (fun _ => rfl)
    (faces_yields 6 (by omega) (Z + 1) H o c s h hs hs2 HLN.out W0 HK0.out) KeepA.trans (fun V o o' _ _ _ => KeepA.putObj (by omega) (by have := HZ.out; have := HHL.out; rintro (e | e) <;> omega))
    (fun pre V => Hd w [(Z, 0, .int .i64 (pre.length : Nat))] V)
    (fun _ _ _ => False)
    (fun q => Turns.abides (C := Z + 1) (Hd.turns (by have := HZ.out; omega) (fun p hp => .inl (by rw [List.mem_singleton.1 hp]; omega))) (by have := HZ.out.1; omega)) (fun _ _ => Turns.abides (C := Z) turns_const (by have := HZ.out.1; omega))
    HD0.out
    (fun pre x a' V => Hd w [(Z, 0, .int .i64 (pre.length : Nat))] V ∧ a' = { tmps := #[.agg #[.int .i64 s, .slice (some ⟨H, o, none⟩) h.length c], .pointer (some ⟨w.heap.size, 0, none⟩), .int .i64 0, .int .i64 0, .pointer (some ⟨Z, 0, none⟩), .agg #[.int .i64 s, .slice (some ⟨H, o, none⟩) h.length c], .bool true, .bool false, .agg #[.int .i64 s, .slice (some ⟨H, o, none⟩) h.length c], .func (.func 74) #[] #[.pointer (some ⟨Z + 1, 0, none⟩)], .agg #[.int .i64 x.1.x, .int .i64 x.1.y, .int .i64 x.1.z], .agg #[.int .i64 x.2.x, .int .i64 x.2.y, .int .i64 x.2.z], undef, undef, undef], defers := [] })
    ?ax ?assign ?body ?done ?stop
  case ax =>
    rintro pre x a' X V row ⟨hi, ha⟩ g hr
    exact ⟨Turns.abides (C := Z + 1) (Hd.turns (by have := HZ.out; omega) (fun p hp => .inl (by rw [List.mem_singleton.1 hp]; omega))) (by have := HZ.out.1; omega) X V row hi g hr, ha⟩
  case assign =>
    rintro l2 pre ⟨⟨gx, gy, gz⟩, ⟨nx, ny, nz⟩⟩ V hi _ hsz
    have HI := Kp.mk hi
    clear hi
    have ez : ((#[10, 11] : Array Tmp).zip (encF (⟨gx, gy, gz⟩, ⟨nx, ny, nz⟩))).foldl (fun tmps (q : Tmp × Value) => tmps.setIfInBounds q.1 q.2) #[.agg #[.int .i64 s, .slice (some ⟨H, o, none⟩) h.length c], .pointer (some ⟨w.heap.size, 0, none⟩), .int .i64 0, .int .i64 0, .pointer (some ⟨Z, 0, none⟩), .agg #[.int .i64 s, .slice (some ⟨H, o, none⟩) h.length c], .bool true, .bool false, .agg #[.int .i64 s, .slice (some ⟨H, o, none⟩) h.length c], .func (.func 74) #[] #[.pointer (some ⟨Z + 1, 0, none⟩)], undef, undef, undef, undef, undef] = #[.agg #[.int .i64 s, .slice (some ⟨H, o, none⟩) h.length c], .pointer (some ⟨w.heap.size, 0, none⟩), .int .i64 0, .int .i64 0, .pointer (some ⟨Z, 0, none⟩), .agg #[.int .i64 s, .slice (some ⟨H, o, none⟩) h.length c], .bool true, .bool false, .agg #[.int .i64 s, .slice (some ⟨H, o, none⟩) h.length c], .func (.func 74) #[] #[.pointer (some ⟨Z + 1, 0, none⟩)], .agg #[.int .i64 gx, .int .i64 gy, .int .i64 gz], .agg #[.int .i64 nx, .int .i64 ny, .int .i64 nz], undef, undef, undef] := by simp [encF]
    rw [ez]
    clear ez
    gi_wp2
    exact ⟨KeepsFrom.refl _ _, ⟨Nat.le_refl _, fun _ _ => rfl, fun _ _ _ h => h⟩, HI.out, trivial⟩
  case body =>
    rintro l2 pre x a' V ⟨hi, rfl⟩ hpre hsz
    have hpl : pre.length < 6000 := by
      have h2 := hpre.length_le
      have := HFL.out
      rw [List.length_append, List.length_singleton] at h2
      omega
    obtain ⟨c1, z1⟩ := hi.cells _ (List.mem_singleton.2 rfl)
    simp only at c1 z1
    obtain ⟨m, hm⟩ : ∃ m, pre.length = m := ⟨_, rfl⟩
    rw [hm] at c1 hpl
    have HM := Kp.mk hm
    have e1 : IntKind.i64.wrap ((m : Int) + 1) = (m : Int) + 1 := IntWalk.i64_in _ (by omega)
    have HI := Kp.mk hi
    have hZV := World.block_lt_of_cell? _ _ c1
    have HK : Kp (KeepsFrom W0.heap.size V (V.setCell ⟨Z, 0, none⟩ (.int .i64 ((m : Int) + 1))) ∧ KeepA (SB (Z + 1) H) (W0.heap.size + 2) V (V.setCell ⟨Z, 0, none⟩ (.int .i64 ((m : Int) + 1))) ∧ Hd w [(Z, 0, .int .i64 ((m : Int) + 1))] (V.setCell ⟨Z, 0, none⟩ (.int .i64 ((m : Int) + 1)))) := by
      have hz := HZ.out
      have hh := HHL.out
      have hg := setCell_grown V Z 0 (.int .i64 ((m : Int) + 1))
      refine ⟨KeepsFrom.of_grownBy hg (fun j e => by simp only [Option.some.injEq] at e; omega), KeepA.of_grown hg (fun j hj => by simp only at hZV; rcases hj with rfl | rfl <;> omega) (fun r e => by simp only [Option.some.injEq] at e; subst e; exact ⟨by omega, by rintro (e | e) <;> omega⟩), HI.out.below.setCell (by simp only; omega) _, fun p hp => ?_⟩
      rw [List.mem_singleton.1 hp]
      exact ⟨by simp [go_sem, c1], by simp [go_sem, z1]⟩
    clear hi hpre hm hZV hsz
    gi_wp2
    refine ⟨HK.out.1, HK.out.2.1, ?_⟩
    show Hd w [(Z, 0, .int .i64 ((pre ++ [x]).length : Nat))] _
    rw [List.length_append, List.length_singleton, HM.out, Int.natCast_add]
    exact HK.out.2.2
  case done =>
    rintro D V hD hi hd
    have hgb := grownBy_putObj' V D (.deferred none)
    have hi2 := Hd.turns (k := 0) (B := Z + 1) (by have := HZ.out; omega) (fun p hp => .inl (by rw [List.mem_singleton.1 hp]; omega)) _ _ (some D) hi hgb (fun r e => by cases e; exact ⟨by have := HZ.out.1; omega, .inr ⟨_, hd, rfl⟩⟩)
    have HD2 := Kp.mk hd
    have HI2 := Kp.mk hi2
    obtain ⟨c1, z1⟩ := hi2.cells _ (List.mem_singleton.2 rfl)
    obtain ⟨c0, -⟩ := hi.cells _ (List.mem_singleton.2 rfl)
    simp only at c1 z1 c0
    obtain ⟨m, hm⟩ : ∃ m, (facesL s h).length = m := ⟨_, rfl⟩
    rw [hm] at c0 c1
    clear hd hgb hi hi2
    gi_wp2
    refine ⟨by simp, .inl ⟨_, _, rfl, run_takeDeferred HD2.out, ?_⟩⟩
    exact ⟨.tuple #[.int .i64 m, .int .i64 0], by simp [results, Try.results15, go_sem], by rw [hm], HI2.out.below⟩
  case stop =>
    rintro D cd ys V hD hys hi hd
    exact hi.elim
theorem Faces_in (s : Nat) (u : Value) (h : List Bool) (w : World) (hu : LB w u h) (hs : 1 ≤ s) (hs2 : s ≤ 10) (hl : h.length = s * s * s) :
    Calls Try.prog 15 #[.agg #[.int .i64 s, u]] w fun e w' => e = .returned (.tuple #[.int .i64 ((facesL s h).length : Nat), .int .i64 0]) ∧ Below w.heap.size w w' := by
  obtain ⟨g1, c1, rfl⟩ := hu.shape
  have h0 : 0 < h.length := by
    rw [hl]
    exact Nat.mul_pos (Nat.mul_pos (by omega) (by omega)) (by omega)
  obtain ⟨H, o, rfl, q, hq⟩ : ∃ H o, g1 = some ⟨H, o, none⟩ ∧ ∃ q, w.cell? ⟨H, o, none⟩ = some (.bool q) := by
    obtain ⟨g, c, e, -, hi⟩ := hu
    obtain ⟨b, o, hg, -, hc⟩ := hi 0 _ (List.getElem?_eq_getElem h0)
    simp only [Value.slice.injEq] at e
    exact ⟨b, o, by rw [e.1, hg], _, hc⟩
  exact Faces_bk H o c1 s h w hs hs2 hl hu ⟨q, hq⟩
end Go.Proofs.Ytcjlijiifhggfaa.Cv
