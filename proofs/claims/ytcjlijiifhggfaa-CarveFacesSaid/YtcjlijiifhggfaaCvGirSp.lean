/-
  WALKS (layer 5, carve): the grains that can be taken away alone.
-/
import Derived.Test.YtcjlijiifhggfaaCvFaceP
import Derived.Test.YtcjlijiifhggfaaCvColl
/-
  WALKS (layer 5, carve): how many faces of a layer look to the sides.
-/
namespace Go.Proofs.Ytcjlijiifhggfaa.Cv
open Go Go.RowKit Go.Sort
attribute [local go_sem] Oper.semAt_some

theorem girth_start {B H o c s Y : Nat} {z : Int} {h : List Bool} {w w1 W0 : World} {t t' : TypeId} (hb : Below w.heap.size w w1) (hk : BK B H o c s h w1) (hz : w1.cell? ⟨Y, 0, none⟩ = some (.int .i64 z)) (hf : w1.frozen? ⟨Y, 0, none⟩ = false) (h0 : (w1.alloc (.cells #[.int .i64 0] t)).alloc (.cells #[.int .i64 s, .slice (some ⟨H, o, none⟩) h.length c] t') = W0) :
    W0.heap.size = w1.heap.size + 2 ∧ BK (w1.heap.size + 1) H o c s h W0 ∧ Hd w [(w1.heap.size, 0, .int .i64 0), (Y, 0, .int .i64 z)] W0 := by
  obtain ⟨h1, h2, h3⟩ := count_start hb hk h0
  refine ⟨h1, h2, h3.below, fun p hp => ?_⟩
  rcases List.mem_cons.1 hp with rfl | hp
  · exact h3.cells _ (List.mem_singleton.2 rfl)
  · rw [List.mem_singleton.1 hp]
    subst h0
    have hl := World.block_lt_of_cell? _ _ hz
    have b2 : Below w1.heap.size w1 ((w1.alloc (.cells #[.int .i64 0] t)).alloc (.cells #[.int .i64 s, .slice (some ⟨H, o, none⟩) h.length c] t')) := ((Below.refl _ _).alloc (Nat.le_refl _) _).alloc (by simp) _
    exact ⟨(b2.cell (p := ⟨Y, 0, none⟩) hl).trans hz, (World.frozen?_of_block (a := ⟨Y, 0, none⟩) (b2.block Y hl)).trans hf⟩
theorem Girth_inv (n z : Int) (g1 : Option Addr) (m c1 : Nat) (w : World) (h : blockB n m = false) : Calls Try.prog 17 #[.agg #[.int .i64 n, .slice g1 m c1], .int .i64 z] w fun e w' => e = .returned (.tuple #[.int .i64 0, .int .i64 1]) ∧ Below w.heap.size w w' := by
  have HB : Kp (∀ W, Calls Try.prog 32 #[.agg #[.int .i64 n, .slice g1 m c1]] W fun e w' => e = .returned (.bool false) ∧ Below W.heap.size W w') := ⟨fun W => h ▸ ValidBlock_any n g1 m c1 W⟩
  clear h
  go_enter Try.func17, Try.ntmps17
  go_wp2_with fail
  refine (HB.out _).mono ?_
  rintro en w1 ⟨rfl, hb1⟩
  have HB1 : Kp (Below w.heap.size w w1) := ⟨Below.trans (by repeat (first | refine Below.alloc ?_ (by (try simp) <;> omega) _ | refine bDrewN ?_ _ | refine Below.drew ?_ | refine Below.setCell ?_ (by (try simp) <;> omega) _ | exact Below.refl _ _)) (hb1.mono (by (try simp) <;> omega))⟩
  have hz1_0 : w.heap.size < w1.heap.size := by have := hb1.size; (try simp at this); omega
  have hz1_1 : w.heap.size + 1 < w1.heap.size := by have := hb1.size; (try simp at this); omega
  obtain ⟨hc, hf⟩ := bcell hb1
  have c1_0_0 : w1.cell? ⟨w.heap.size, 0, none⟩ = some (.int .i64 n) := (hc _ _ (by (try simp) <;> omega)).trans (by go_simp)
  have c1_0_1 : w1.cell? ⟨w.heap.size, 1, none⟩ = some ((.slice g1 m c1)) := (hc _ _ (by (try simp) <;> omega)).trans (by go_simp)
  have z1_0 : ∀ j, w1.frozen? ⟨w.heap.size, j, none⟩ = false := fun j => (hf _ _ (by (try simp) <;> omega)).trans (by go_simp)
  have c1_1_0 : w1.cell? ⟨w.heap.size + 1, 0, none⟩ = some (.int .i64 z) := (hc _ _ (by (try simp) <;> omega)).trans (by go_simp)
  have z1_1 : ∀ j, w1.frozen? ⟨w.heap.size + 1, j, none⟩ = false := fun j => (hf _ _ (by (try simp) <;> omega)).trans (by go_simp)
  clear hc hf hb1
  go_wp2
  go_ret2
  exact ⟨rfl, HB1.out⟩
theorem Girth_out (n z : Int) (g1 : Option Addr) (m c1 : Nat) (w : World) (h : blockB n m = true) (hz : ixB z n = false) : Calls Try.prog 17 #[.agg #[.int .i64 n, .slice g1 m c1], .int .i64 z] w fun e w' => e = .returned (.tuple #[.int .i64 0, .int .i64 7]) ∧ Below w.heap.size w w' := by
  have HB : Kp (∀ W, Calls Try.prog 32 #[.agg #[.int .i64 n, .slice g1 m c1]] W fun e w' => e = .returned (.bool true) ∧ Below W.heap.size W w') := ⟨fun W => h ▸ ValidBlock_any n g1 m c1 W⟩
  have HI : Kp (∀ W, Calls Try.prog 46 #[.int .i64 z, .int .i64 n] W fun e w' => e = .returned (.bool false) ∧ W = w') := ⟨fun W => hz ▸ isIndex_any z n W⟩
  clear h hz
  go_enter Try.func17, Try.ntmps17
  go_wp2_with fail
  refine (HB.out _).mono ?_
  rintro en w1 ⟨rfl, hb1⟩
  have HB1 : Kp (Below w.heap.size w w1) := ⟨Below.trans (by repeat (first | refine Below.alloc ?_ (by (try simp) <;> omega) _ | refine bDrewN ?_ _ | refine Below.drew ?_ | refine Below.setCell ?_ (by (try simp) <;> omega) _ | exact Below.refl _ _)) (hb1.mono (by (try simp) <;> omega))⟩
  have hz1_0 : w.heap.size < w1.heap.size := by have := hb1.size; (try simp at this); omega
  have hz1_1 : w.heap.size + 1 < w1.heap.size := by have := hb1.size; (try simp at this); omega
  obtain ⟨hc, hf⟩ := bcell hb1
  have c1_0_0 : w1.cell? ⟨w.heap.size, 0, none⟩ = some (.int .i64 n) := (hc _ _ (by (try simp) <;> omega)).trans (by go_simp)
  have c1_0_1 : w1.cell? ⟨w.heap.size, 1, none⟩ = some ((.slice g1 m c1)) := (hc _ _ (by (try simp) <;> omega)).trans (by go_simp)
  have z1_0 : ∀ j, w1.frozen? ⟨w.heap.size, j, none⟩ = false := fun j => (hf _ _ (by (try simp) <;> omega)).trans (by go_simp)
  have c1_1_0 : w1.cell? ⟨w.heap.size + 1, 0, none⟩ = some (.int .i64 z) := (hc _ _ (by (try simp) <;> omega)).trans (by go_simp)
  have z1_1 : ∀ j, w1.frozen? ⟨w.heap.size + 1, j, none⟩ = false := fun j => (hf _ _ (by (try simp) <;> omega)).trans (by go_simp)
  clear hc hf hb1
  go_wp2_with fail
  refine (HI.out _).mono ?_
  rintro en w1' ⟨rfl, rfl⟩
  go_wp2
  go_ret2
  exact ⟨rfl, HB1.out⟩
set_option maxRecDepth 100000 in
set_option maxHeartbeats 2000000 in
theorem Girth_bk (H o c s : Nat) (z : Int) (h : List Bool) (w : World) (hs : 1 ≤ s) (hs2 : s ≤ 10) (hl : h.length = s * s * s) (hz : ixB z s = true) (hv : LB w (.slice (some ⟨H, o, none⟩) h.length c) h) (hq : ∃ q, w.cell? ⟨H, o, none⟩ = some (.bool q)) :
    Calls Try.prog 17 #[.agg #[.int .i64 s, .slice (some ⟨H, o, none⟩) h.length c], .int .i64 z] w fun e w' => e = .returned (.tuple #[.int .i64 (girO s h z (grainsL s h) : Nat), .int .i64 0]) ∧ Below w.heap.size w w' := by
  have hb : blockB s h.length = true := by
    unfold blockB
    rw [side_iff.2 (by omega), decide_eq_true (by rw [hl, Int.natCast_mul, Int.natCast_mul])]; rfl
  have HB : Kp (∀ W, Calls Try.prog 32 #[.agg #[.int .i64 s, .slice (some ⟨H, o, none⟩) h.length c]] W fun e w' => e = .returned (.bool true) ∧ Below W.heap.size W w') := ⟨fun W => hb ▸ ValidBlock_any s (some ⟨H, o, none⟩) h.length c W⟩
  have HI : Kp (∀ W, Calls Try.prog 46 #[.int .i64 z, .int .i64 s] W fun e w' => e = .returned (.bool true) ∧ W = w') := ⟨fun W => hz ▸ isIndex_any z s W⟩
  have HLN := Kp.mk hl
  have HV := Kp.mk hv
  have HQ := Kp.mk hq
  have HHL : Kp (H < w.heap.size) := ⟨by obtain ⟨q, hq⟩ := hq; exact World.block_lt_of_cell? _ _ hq⟩
  have HFL := Kp.mk (facesL_len hs2 h)
  clear hl hv hb hq hz
  refine (callsIn_wide (n := 7)).1 ?_
  refine callsIn_of_wp_marks Try.func17 rfl trivial ?_ rfl
  simp only [Try.ntmps17, List.size_toArray, List.length_cons, List.length_nil, Nat.reduceAdd, Nat.reduceSub, Array.replicate_succ, Array.replicate_zero, List.push_toArray, List.append_toArray, List.nil_append, List.cons_append]
  gi_wp2_with fail
  refine ⟨trivial, (callsIn_wide.2 (HB.out _)).mono ?_⟩
  rintro en w1 ⟨rfl, hb1⟩
  have HB1 : Kp (Below w.heap.size w w1) := ⟨Below.trans (by repeat (first | refine Below.alloc ?_ (by (try simp) <;> omega) _ | refine bDrewN ?_ _ | refine Below.drew ?_ | refine Below.setCell ?_ (by (try simp) <;> omega) _ | exact Below.refl _ _)) (hb1.mono (by (try simp) <;> omega))⟩
  have hz1_0 : w.heap.size < w1.heap.size := by have := hb1.size; (try simp at this); omega
  have hz1_1 : w.heap.size + 1 < w1.heap.size := by have := hb1.size; (try simp at this); omega
  obtain ⟨hc, hf⟩ := bcell hb1
  have c1_0_0 : w1.cell? ⟨w.heap.size, 0, none⟩ = some (.int .i64 s) := (hc _ _ (by (try simp) <;> omega)).trans (by go_simp)
  have c1_0_1 : w1.cell? ⟨w.heap.size, 1, none⟩ = some ((.slice (some ⟨H, o, none⟩) h.length c)) := (hc _ _ (by (try simp) <;> omega)).trans (by go_simp)
  have z1_0 : ∀ j, w1.frozen? ⟨w.heap.size, j, none⟩ = false := fun j => (hf _ _ (by (try simp) <;> omega)).trans (by go_simp)
  have c1_1_0 : w1.cell? ⟨w.heap.size + 1, 0, none⟩ = some (.int .i64 z) := (hc _ _ (by (try simp) <;> omega)).trans (by go_simp)
  have z1_1 : ∀ j, w1.frozen? ⟨w.heap.size + 1, j, none⟩ = false := fun j => (hf _ _ (by (try simp) <;> omega)).trans (by go_simp)
  clear hc hf hb1
  have HK1 : Kp (BK w.heap.size H o c s h w1) := ⟨⟨c1_0_0, c1_0_1, HV.out.below HB1.out, by obtain ⟨q, hq⟩ := HQ.out; exact ⟨q, (HB1.out.cell (p := ⟨H, o, none⟩) HHL.out).trans hq⟩⟩⟩
  gi_wp2_with fail
  refine ⟨trivial, (callsIn_wide.2 (HI.out _)).mono ?_⟩
  rintro en w1' ⟨rfl, rfl⟩
  gi_wp2_with fail
  refine ⟨trivial, (callsIn_wide.2 (faces_any _ _ _)).mono ?_⟩
  rintro en W0 ⟨rfl, hW0⟩
  obtain ⟨z0, k0, d0⟩ := girth_start HB1.out HK1.out c1_1_0 (z1_1 0) hW0
  rw [World.size_alloc] at *
  obtain ⟨Z, hZ⟩ : ∃ Z, w1.heap.size = Z := ⟨_, rfl⟩
  have HZ : Kp (W0.heap.size = Z + 2 ∧ w.heap.size + 1 < Z) := ⟨by rw [z0, hZ], by rw [← hZ]; exact hz1_1⟩
  rw [hZ] at k0 d0
  have HK0 := Kp.mk k0
  have HD0 := Kp.mk d0
  clear c1_0_0 c1_0_1 z1_0 hz1_0 c1_1_0 z1_1 hz1_1 z0 k0 d0 hW0
  gi_wp2
  try simp only [hZ]
  clear hZ
  refine wpIn_yieldsS (k := 0) (enc := encF) (xs := facesL s h) rfl (by omega) (gf := 74) (lb := #[.pointer (some ⟨Z + 1, 0, none⟩)]) rfl trivial (enters_of Try.func74 (by kernel_rfl) rfl) (fun _ => rfl)
    (faces_yields 6 (by omega) (Z + 1) H o c s h hs hs2 HLN.out W0 HK0.out) KeepA.trans (fun V o o' _ _ _ => KeepA.putObj (by omega) (by have := HZ.out; have := HHL.out; rintro (e | e) <;> omega))
    (fun pre V => Hd w [(Z, 0, .int .i64 ((pre.filter (lyB z)).length : Nat)), (w.heap.size + 1, 0, .int .i64 z)] V)
    (fun _ _ _ => False)
    (fun q => Turns.abides (C := Z + 1) (Hd.turns (by have := HZ.out; omega) (fun p hp => .inl (by have := HZ.out; rcases List.mem_cons.1 hp with rfl | hp; omega; rw [List.mem_singleton.1 hp]; simp only; omega))) (by have := HZ.out.1; omega)) (fun _ _ => Turns.abides (C := Z) turns_const (by have := HZ.out.1; omega))
    HD0.out
    (fun pre x a' V => Hd w [(Z, 0, .int .i64 ((pre.filter (lyB z)).length : Nat)), (w.heap.size + 1, 0, .int .i64 z)] V ∧ ∃ G1 G2, Z + 4 ≤ G1 ∧ Z + 4 ≤ G2 ∧ GrAt V G1 x.1 ∧ GrAt V G2 x.2 ∧ a' = { tmps := #[.agg #[.int .i64 s, .slice (some ⟨H, o, none⟩) h.length c], .int .i64 z, .pointer (some ⟨w.heap.size, 0, none⟩), .pointer (some ⟨w.heap.size + 1, 0, none⟩), .int .i64 0, .int .i64 0, .pointer (some ⟨Z, 0, none⟩), .pointer (some ⟨G1, 0, none⟩), .pointer (some ⟨G2, 0, none⟩), .agg #[.int .i64 s, .slice (some ⟨H, o, none⟩) h.length c], .bool true, .bool false, .int .i64 z, .pointer (some ⟨w.heap.size, 0, none⟩), .int .i64 s, .bool true, .bool false, .agg #[.int .i64 s, .slice (some ⟨H, o, none⟩) h.length c], .func (.func 74) #[] #[.pointer (some ⟨Z + 1, 0, none⟩)], .agg #[.int .i64 x.1.x, .int .i64 x.1.y, .int .i64 x.1.z], .agg #[.int .i64 x.2.x, .int .i64 x.2.y, .int .i64 x.2.z], undef, undef, undef, undef, undef, undef, undef, undef, undef, undef, undef, undef, undef], defers := [] })
    ?ax ?assign ?body ?done ?stop
  case ax =>
    rintro pre x a' X V row ⟨hi, G1, G2, hG1, hG2, hx1, hx2, ha⟩ g hr
    exact ⟨Turns.abides (C := Z + 1) (Hd.turns (by have := HZ.out; omega) (fun p hp => .inl (by have := HZ.out; rcases List.mem_cons.1 hp with rfl | hp; omega; rw [List.mem_singleton.1 hp]; simp only; omega))) (by have := HZ.out.1; omega) X V row hi g hr, G1, G2, hG1, hG2, GrAt.abide hx1 g hr (by have := HZ.out.1; omega), GrAt.abide hx2 g hr (by have := HZ.out.1; omega), ha⟩
  case assign =>
    rintro l2 pre ⟨⟨gx, gy, gz⟩, ⟨nx, ny, nz⟩⟩ V hi _ hsz
    have HI := Kp.mk hi
    clear hi
    have ez : ((#[19, 20] : Array Tmp).zip (encF (⟨gx, gy, gz⟩, ⟨nx, ny, nz⟩))).foldl (fun tmps (q : Tmp × Value) => tmps.setIfInBounds q.1 q.2) #[.agg #[.int .i64 s, .slice (some ⟨H, o, none⟩) h.length c], .int .i64 z, .pointer (some ⟨w.heap.size, 0, none⟩), .pointer (some ⟨w.heap.size + 1, 0, none⟩), .int .i64 0, .int .i64 0, .pointer (some ⟨Z, 0, none⟩), undef, undef, .agg #[.int .i64 s, .slice (some ⟨H, o, none⟩) h.length c], .bool true, .bool false, .int .i64 z, .pointer (some ⟨w.heap.size, 0, none⟩), .int .i64 s, .bool true, .bool false, .agg #[.int .i64 s, .slice (some ⟨H, o, none⟩) h.length c], .func (.func 74) #[] #[.pointer (some ⟨Z + 1, 0, none⟩)], undef, undef, undef, undef, undef, undef, undef, undef, undef, undef, undef, undef, undef, undef, undef] = #[.agg #[.int .i64 s, .slice (some ⟨H, o, none⟩) h.length c], .int .i64 z, .pointer (some ⟨w.heap.size, 0, none⟩), .pointer (some ⟨w.heap.size + 1, 0, none⟩), .int .i64 0, .int .i64 0, .pointer (some ⟨Z, 0, none⟩), undef, undef, .agg #[.int .i64 s, .slice (some ⟨H, o, none⟩) h.length c], .bool true, .bool false, .int .i64 z, .pointer (some ⟨w.heap.size, 0, none⟩), .int .i64 s, .bool true, .bool false, .agg #[.int .i64 s, .slice (some ⟨H, o, none⟩) h.length c], .func (.func 74) #[] #[.pointer (some ⟨Z + 1, 0, none⟩)], .agg #[.int .i64 gx, .int .i64 gy, .int .i64 gz], .agg #[.int .i64 nx, .int .i64 ny, .int .i64 nz], undef, undef, undef, undef, undef, undef, undef, undef, undef, undef, undef, undef, undef] := by simp [encF]
    rw [ez]
    clear ez
    gi_wp2
    have hzv : Z + 4 ≤ V.heap.size := by have := HZ.out.1; omega
    have hbb : Below V.heap.size V ((V.alloc (.cells #[.int .i64 gx, .int .i64 gy, .int .i64 gz] 48)).alloc (.cells #[.int .i64 nx, .int .i64 ny, .int .i64 nz] 48)) := ((Below.refl _ _).alloc (Nat.le_refl _) _).alloc (by simp) _
    exact ⟨KeepsFrom.of_grownBy (grown_below hbb none) (fun j e => by cases e), KeepA.below hbb (fun j hj => by have := HZ.out; have := HHL.out; rcases hj with rfl | rfl <;> omega), HI.out.on hbb, V.heap.size, V.heap.size + 1, hzv, Nat.le_succ_of_le hzv, ⟨by go_simp, by go_simp, by go_simp⟩, ⟨by go_simp, by go_simp, by go_simp⟩, rfl⟩
  case body =>
    rintro l2 pre ⟨⟨gx, gy, gz⟩, ⟨nx, ny, nz⟩⟩ a' V ⟨hi, G1, G2, hG1, hG2, ⟨p0, p1, p2⟩, ⟨q0, q1, q2⟩, rfl⟩ hpre hsz
    have hpl : (pre.filter (lyB z)).length < 6000 := by
      have h2 := hpre.length_le
      have := HFL.out
      have := List.length_filter_le (lyB z) pre
      rw [List.length_append, List.length_singleton] at h2
      omega
    obtain ⟨c1, z1⟩ := hi.cells _ (List.mem_cons_self ..)
    obtain ⟨c2, -⟩ := hi.cells _ (List.mem_cons_of_mem _ (List.mem_singleton.2 rfl))
    simp only at c1 z1 c2 p0 p1 p2 q0 q1 q2
    have HNO : Kp (((pre ++ [((⟨gx, gy, gz⟩ : Gr), (⟨nx, ny, nz⟩ : Gr))]).filter (lyB z)).length = (pre.filter (lyB z)).length + if gz = z ∧ nz = z then 1 else 0) := ⟨by
      rw [List.filter_append, List.length_append]
      by_cases h1 : gz = z <;> by_cases h2 : nz = z <;> simp [lyB, h1, h2]⟩
    obtain ⟨m, hm⟩ : ∃ m, (pre.filter (lyB z)).length = m := ⟨_, rfl⟩
    rw [hm] at c1 hpl HNO hi
    have e1 : IntKind.i64.wrap ((m : Int) + 1) = (m : Int) + 1 := IntWalk.i64_in _ (by omega)
    have HI := Kp.mk hi
    have hZV := World.block_lt_of_cell? _ _ c1
    have HK : Kp (KeepsFrom W0.heap.size V (V.setCell ⟨Z, 0, none⟩ (.int .i64 ((m : Int) + 1))) ∧ KeepA (SB (Z + 1) H) (W0.heap.size + 2) V (V.setCell ⟨Z, 0, none⟩ (.int .i64 ((m : Int) + 1))) ∧ Hd w [(Z, 0, .int .i64 ((m : Int) + 1)), (w.heap.size + 1, 0, .int .i64 z)] (V.setCell ⟨Z, 0, none⟩ (.int .i64 ((m : Int) + 1)))) := by
      have hz := HZ.out
      have hh := HHL.out
      have hg := setCell_grown V Z 0 (.int .i64 ((m : Int) + 1))
      have eY : (V.setCell ⟨Z, 0, none⟩ (.int .i64 ((m : Int) + 1))).heap[w.heap.size + 1]? = V.heap[w.heap.size + 1]? := Below.heap_setCell _ _ _ _ (by simp only; omega)
      refine ⟨KeepsFrom.of_grownBy hg (fun j e => by simp only [Option.some.injEq] at e; omega), KeepA.of_grown hg (fun j hj => by simp only at hZV; rcases hj with rfl | rfl <;> omega) (fun r e => by simp only [Option.some.injEq] at e; subst e; exact ⟨by omega, by rintro (e | e) <;> omega⟩), HI.out.below.setCell (by simp only; omega) _, fun p hp => ?_⟩
      rcases List.mem_cons.1 hp with rfl | hp
      · exact ⟨by simp [go_sem, c1], by simp [go_sem, z1]⟩
      · rw [List.mem_singleton.1 hp]
        obtain ⟨c3, z3⟩ := HI.out.cells _ (List.mem_cons_of_mem _ (List.mem_singleton.2 rfl))
        exact ⟨(World.cell?_of_block (a := ⟨w.heap.size + 1, 0, none⟩) eY).trans c3, (World.frozen?_of_block (a := ⟨w.heap.size + 1, 0, none⟩) eY).trans z3⟩
    have HKN : Kp (KeepsFrom W0.heap.size V V ∧ KeepA (SB (Z + 1) H) (W0.heap.size + 2) V V) := ⟨KeepsFrom.refl _ _, ⟨Nat.le_refl _, fun _ _ => rfl, fun _ _ _ h => h⟩⟩
    clear hi hpre hm hZV hsz hpl
    by_cases hgz : gz = z
    · by_cases hnz : nz = z
      · have i1 : (gz == z) = true := by simp [hgz]
        have i2 : (nz == z) = true := by simp [hnz]
        have HNX : Kp ((((pre ++ [((⟨gx, gy, gz⟩ : Gr), (⟨nx, ny, nz⟩ : Gr))]).filter (lyB z)).length : Int) = (m : Int) + 1) := ⟨by rw [HNO.out, if_pos ⟨hgz, hnz⟩]; rfl⟩
        clear HNO hgz hnz
        gi_wp2
        refine ⟨HK.out.1, HK.out.2.1, ?_⟩
        show Hd w [(Z, 0, .int .i64 (((pre ++ [((⟨gx, gy, gz⟩ : Gr), (⟨nx, ny, nz⟩ : Gr))]).filter (lyB z)).length : Nat)), _] _
        rw [HNX.out]
        exact HK.out.2.2
      · have i1 : (gz == z) = true := by simp [hgz]
        have i2 : (nz == z) = false := by simp [hnz]
        have HNX : Kp (((pre ++ [((⟨gx, gy, gz⟩ : Gr), (⟨nx, ny, nz⟩ : Gr))]).filter (lyB z)).length = m) := ⟨by rw [HNO.out, if_neg (fun e => hnz e.2)]; rfl⟩
        clear HNO hgz hnz HK
        gi_wp2
        refine ⟨HKN.out.1, HKN.out.2, ?_⟩
        show Hd w [(Z, 0, .int .i64 (((pre ++ [((⟨gx, gy, gz⟩ : Gr), (⟨nx, ny, nz⟩ : Gr))]).filter (lyB z)).length : Nat)), _] _
        rw [HNX.out]
        exact HI.out
    · have i1 : (gz == z) = false := by simp [hgz]
      have HNX : Kp (((pre ++ [((⟨gx, gy, gz⟩ : Gr), (⟨nx, ny, nz⟩ : Gr))]).filter (lyB z)).length = m) := ⟨by rw [HNO.out, if_neg (fun e => hgz e.1)]; rfl⟩
      clear HNO hgz HK
      gi_wp2
      refine ⟨HKN.out.1, HKN.out.2, ?_⟩
      show Hd w [(Z, 0, .int .i64 (((pre ++ [((⟨gx, gy, gz⟩ : Gr), (⟨nx, ny, nz⟩ : Gr))]).filter (lyB z)).length : Nat)), _] _
      rw [HNX.out]
      exact HI.out
  case done =>
    rintro D V hD hi hd
    have hgb := grownBy_putObj' V D (.deferred none)
    have hi2 := Hd.turns (k := 0) (B := Z + 1) (by have := HZ.out; omega) (fun p hp => .inl (by have := HZ.out; rcases List.mem_cons.1 hp with rfl | hp; omega; rw [List.mem_singleton.1 hp]; simp only; omega)) _ _ (some D) hi hgb (fun r e => by cases e; exact ⟨by have := HZ.out.1; omega, .inr ⟨_, hd, rfl⟩⟩)
    have HD2 := Kp.mk hd
    have HI2 := Kp.mk hi2
    obtain ⟨c1, z1⟩ := hi2.cells _ (List.mem_cons_self ..)
    obtain ⟨c0, -⟩ := hi.cells _ (List.mem_cons_self ..)
    simp only at c1 z1 c0
    have HGO : Kp (girO s h z (grainsL s h) = ((facesL s h).filter (lyB z)).length) := ⟨rfl⟩
    obtain ⟨m, hm⟩ : ∃ m, ((facesL s h).filter (lyB z)).length = m := ⟨_, rfl⟩
    rw [hm] at c0 c1 HGO
    clear hd hgb hi hi2 hm
    gi_wp2
    refine ⟨by simp, .inl ⟨_, _, rfl, run_takeDeferred HD2.out, ?_⟩⟩
    exact ⟨.tuple #[.int .i64 m, .int .i64 0], by simp [results, Try.results17, go_sem], by rw [HGO.out], HI2.out.below⟩
  case stop =>
    rintro D cd ys V hD hys hi hd
    exact hi.elim
theorem Girth_in (s : Nat) (z : Int) (u : Value) (h : List Bool) (w : World) (hu : LB w u h) (hs : 1 ≤ s) (hs2 : s ≤ 10) (hl : h.length = s * s * s) (hz : ixB z s = true) :
    Calls Try.prog 17 #[.agg #[.int .i64 s, u], .int .i64 z] w fun e w' => e = .returned (.tuple #[.int .i64 (girO s h z (grainsL s h) : Nat), .int .i64 0]) ∧ Below w.heap.size w w' := by
  obtain ⟨g1, c1, rfl⟩ := hu.shape
  have h0 : 0 < h.length := by
    rw [hl]
    exact Nat.mul_pos (Nat.mul_pos (by omega) (by omega)) (by omega)
  obtain ⟨H, o, rfl, q, hq⟩ : ∃ H o, g1 = some ⟨H, o, none⟩ ∧ ∃ q, w.cell? ⟨H, o, none⟩ = some (.bool q) := by
    obtain ⟨g, c, e, -, hi⟩ := hu
    obtain ⟨b, o, hg, -, hc⟩ := hi 0 _ (List.getElem?_eq_getElem h0)
    simp only [Value.slice.injEq] at e
    exact ⟨b, o, by rw [e.1, hg], _, hc⟩
  exact Girth_bk H o c1 s z h w hs hs2 hl hz hu ⟨q, hq⟩
end Go.Proofs.Ytcjlijiifhggfaa.Cv
namespace Go.Proofs.Ytcjlijiifhggfaa.Cv
open Go Go.RowKit Go.Sort
attribute [local go_sem] Oper.semAt_some

/-- The counts behind the squares, of the first k axes. -/
structure DB (w : World) (C s M : Nat) (L : List Gr) (k : Nat) (W : World) : Prop where
  below : Below w.heap.size w W
  row : ∀ j, j < k → ∃ U, C < U ∧ W.cell? ⟨C, j, none⟩ = some (.slice (some ⟨U, 0, none⟩) M M) ∧ IR U W (cnts s M (axSq j) L)
  free : ∀ j, k ≤ j → j < 3 → ∃ v, W.cell? ⟨C, j, none⟩ = some v
  z : ∀ j, W.frozen? ⟨C, j, none⟩ = false
  lt : C < W.heap.size
theorem DB.on {w W V : World} {C s M k : Nat} {L : List Gr} (h : DB w C s M L k W) (hb : Below W.heap.size W V) : DB w C s M L k V :=
  have e : V.heap[C]? = W.heap[C]? := hb.block _ h.lt
  ⟨h.below.trans (hb.mono h.below.size), fun j hj => by
    obtain ⟨U, h1, h2, h3⟩ := h.row j hj
    exact ⟨U, h1, (World.cell?_of_block (a := ⟨C, j, none⟩) e).trans h2, h3.on hb⟩, fun j h1 h2 => by
    obtain ⟨v, hv⟩ := h.free j h1 h2
    exact ⟨v, (World.cell?_of_block (a := ⟨C, j, none⟩) e).trans hv⟩, fun j => (World.frozen?_of_block (a := ⟨C, j, none⟩) e).trans (h.z j), Nat.lt_of_lt_of_le h.lt hb.size⟩
theorem DB.put {w W : World} {C s M k U : Nat} {L : List Gr} (h : DB w C s M L k W) (hk : k < 3) (hC : w.heap.size ≤ C) (hU : C < U) (hr : IR U W (cnts s M (axSq k) L)) : DB w C s M L (k + 1) (W.setCell ⟨C, k, none⟩ (.slice (some ⟨U, 0, none⟩) M M)) := by
  obtain ⟨v, hv⟩ := h.free k (Nat.le_refl _) hk
  have hg := setCell_grown W C k (.slice (some ⟨U, 0, none⟩) M M)
  have hoth : ∀ j, C < j → (W.setCell ⟨C, k, none⟩ (.slice (some ⟨U, 0, none⟩) M M)).heap[j]? = W.heap[j]? := fun j hj => Below.heap_setCell _ _ _ _ (by simp only; omega)
  refine ⟨h.below.setCell (by simp only; omega) _, fun j hj => ?_, fun j h1 h2 => ?_, fun j => by simp [go_sem, h.z j], Nat.lt_of_lt_of_le h.lt hg.size⟩
  · by_cases e : j = k
    · subst e
      exact ⟨U, hU, by simp [go_sem, hv], hr.same (hoth U hU)⟩
    · obtain ⟨U2, a1, a2, a3⟩ := h.row j (by omega)
      exact ⟨U2, a1, by simp [go_sem, a2], a3.same (hoth U2 a1)⟩
  · obtain ⟨v2, hv2⟩ := h.free j (by omega) h2
    exact ⟨v2, by simp [go_sem, hv2]⟩
theorem spare1_any (w : World) (C s M : Nat) (L : List Gr) (k i : Nat) (W : World) (h : DB w C s M L 3 W) (hL : ∀ g ∈ L, sqIx s (axSq k) g < M) (hk : k < 3) (hi : i < M) :
    Calls Try.prog 51 (#[.int .i64 k, .int .i64 i] ++ #[.pointer (some ⟨C, 0, none⟩)]) W fun e w' => e = .returned (.bool (decide (1 < numK s k L i))) ∧ Below W.heap.size W w' := by
  obtain ⟨U, -, h1, h2⟩ := h.row k hk
  have c2 := h2.cell (cnts_num hL hi)
  have HX : Kp (decide ((1 : Int) < (numK s k L i : Nat)) = decide (1 < numK s k L i)) := ⟨decide_eq_decide.2 (by omega)⟩
  have o1 : (k : Int) < 3 := by omega
  have o2 : (i : Int) < (M : Int) := by omega
  obtain ⟨y, hy⟩ : ∃ y, ((numK s k L i : Nat) : Int) = y := ⟨_, rfl⟩
  rw [hy] at c2 HX
  clear h h2 hy hL hk hi
  go_enter Try.func51, Try.ntmps51
  go_wp2
  go_ret
  exact ⟨ret_bool HX.out, by repeat (first | exact Below.refl _ _ | refine Below.alloc ?_ (by simp <;> omega) _ | refine bDrewN ?_ _ | refine Below.drew ?_)⟩
theorem Spare_inv (n : Int) (g1 : Option Addr) (m c1 : Nat) (w : World) (h : blockB n m = false) : Calls Try.prog 19 #[.agg #[.int .i64 n, .slice g1 m c1]] w fun e w' => e = .returned (.tuple #[.slice none 0 0, .int .i64 1]) ∧ Below w.heap.size w w' := by
  have HB : Kp (∀ W, Calls Try.prog 32 #[.agg #[.int .i64 n, .slice g1 m c1]] W fun e w' => e = .returned (.bool false) ∧ Below W.heap.size W w') := ⟨fun W => h ▸ ValidBlock_any n g1 m c1 W⟩
  clear h
  go_enter Try.func19, Try.ntmps19
  go_wp2_with fail
  refine (HB.out _).mono ?_
  rintro en w1 ⟨rfl, hb1⟩
  have HB1 : Kp (Below w.heap.size w w1) := ⟨Below.trans (by repeat (first | refine Below.alloc ?_ (by (try simp) <;> omega) _ | refine bDrewN ?_ _ | refine Below.drew ?_ | refine Below.setCell ?_ (by (try simp) <;> omega) _ | exact Below.refl _ _)) (hb1.mono (by (try simp) <;> omega))⟩
  have hz1_0 : w.heap.size < w1.heap.size := by have := hb1.size; (try simp at this); omega
  obtain ⟨hc, hf⟩ := bcell hb1
  have c1_0_0 : w1.cell? ⟨w.heap.size, 0, none⟩ = some (.int .i64 n) := (hc _ _ (by (try simp) <;> omega)).trans (by go_simp)
  have c1_0_1 : w1.cell? ⟨w.heap.size, 1, none⟩ = some ((.slice g1 m c1)) := (hc _ _ (by (try simp) <;> omega)).trans (by go_simp)
  have z1_0 : ∀ j, w1.frozen? ⟨w.heap.size, j, none⟩ = false := fun j => (hf _ _ (by (try simp) <;> omega)).trans (by go_simp)
  clear hc hf hb1
  go_wp2
  go_ret2
  exact ⟨rfl, HB1.out⟩
theorem db_start {w1 W : World} {s M : Nat} {L : List Gr} {t : TypeId} (h : w1.alloc (.cells #[.slice none 0 0, .slice none 0 0, .slice none 0 0] t) = W) : DB w1 w1.heap.size s M L 0 W := by
  subst h
  refine ⟨by repeat (first | exact Below.refl _ _ | refine Below.alloc ?_ (by simp <;> omega) _ | refine bDrewN ?_ _ | refine Below.drew ?_), fun j hj => by omega, fun j _ hj => ?_, fun j => by go_simp, by simp⟩
  match j, hj with
  | 0, _ => exact ⟨.slice none 0 0, by go_simp⟩
  | 1, _ => exact ⟨.slice none 0 0, by go_simp⟩
  | 2, _ => exact ⟨.slice none 0 0, by go_simp⟩
def CJ (w : World) (Z : Nat) (l : List Gr) (V : World) : Prop := Below w.heap.size w V ∧ ∃ u, V.cell? ⟨Z, 0, none⟩ = some u ∧ (∀ j, V.frozen? ⟨Z, j, none⟩ = false) ∧ OwnG V (Z + 6) u l
theorem CJ.on {w V X : World} {Z : Nat} {l : List Gr} (h : CJ w Z l V) (hb : Below V.heap.size V X) : CJ w Z l X := by
  obtain ⟨h1, u, h2, h3, h4⟩ := h
  have hz := World.block_lt_of_cell? _ _ h2
  exact ⟨h1.trans (hb.mono h1.size), u, (hb.cell (p := ⟨Z, 0, none⟩) hz).trans h2, fun j => (World.frozen?_of_block (a := ⟨Z, j, none⟩) (hb.block _ hz)).trans (h3 j), h4.on hb⟩
theorem CJ.turns {w : World} {Z C : Nat} {l : List Gr} (hC : w.heap.size ≤ C) (hz : Z < C) : Turns 0 C (CJ w Z l) := by
  intro X Y row ⟨h1, u, h2, h3, h4⟩ g hr
  have eZ : Y.heap[Z]? = X.heap[Z]? := g.block Z (World.block_lt_of_cell? _ _ h2) (fun e => by have := (hr Z e.symm).1; omega)
  refine ⟨⟨g.os.trans h1.os, g.tape.trans h1.tape, g.output.trans h1.output, Nat.le_trans h1.size g.size, fun j hj => ?_⟩, u, (World.cell?_of_block (a := ⟨Z, 0, none⟩) eZ).trans h2, fun j => (World.frozen?_of_block (a := ⟨Z, j, none⟩) eZ).trans (h3 j), ?_⟩
  · exact (g.block j (Nat.lt_of_lt_of_le hj h1.size) (fun e => by have := (hr j e.symm).1; omega)).trans (h1.block j hj)
  · refine World.ownsRow.kept h4 g ?_
    cases e : u.ownBlock with
    | none => exact .inl rfl
    | some j =>
      refine .inr (fun e2 => ?_)
      obtain ⟨-, -, o, ho, hc⟩ := h4.block e
      obtain ⟨-, h5 | ⟨p, hp, hpc⟩⟩ := hr j e2.symm
      · have := (hr j e2.symm).1
        omega
      · rw [ho] at hp
        cases hp
        rw [hc] at hpc
        cases hpc
/-- A round: one grain more. -/
theorem cj_next {w V : World} {Z : Nat} {l : List Gr} {x : Gr} (h : CJ w Z l V) (hw : w.heap.size ≤ Z) (hn : l.length ≤ 100000) (hV : Z + 5 ≤ V.heap.size) :
    ∃ g0 c0 g c W', V.cell? ⟨Z, 0, none⟩ = some (.slice g0 l.length c0) ∧ (Builtin.append_ #[39, 39] 39 #[.slice g0 l.length c0, .slice (some ⟨V.heap.size, 0, none⟩) 1 1]).run Try.prog (V.alloc (.cells #[.int .i64 x.x, .int .i64 x.y, .int .i64 x.z] 48)) = .ok (.slice g (l.length + 1) c) W' ∧ (∃ v, W'.cell? ⟨Z, 0, none⟩ = some v) ∧ (∀ j, W'.frozen? ⟨Z, j, none⟩ = false) ∧
    CJ w Z (l ++ [x]) (W'.setCell ⟨Z, 0, none⟩ (.slice g (l.length + 1) c)) ∧ (∀ (S : Nat → Prop) m n, n + m ≤ Z + 6 → Z < n → ¬ S Z → (∀ k, S k → k < Z + 6 ∧ k < V.heap.size) → Keep S m n V (W'.setCell ⟨Z, 0, none⟩ (.slice g (l.length + 1) c))) := by
  obtain ⟨h1, u, h2, h3, h4⟩ := h
  obtain ⟨g0, c0, rfl⟩ := h4.gs.shape
  have hzV := World.block_lt_of_cell? _ _ h2
  have hb : Below V.heap.size V (V.alloc (.cells #[.int .i64 x.x, .int .i64 x.y, .int .i64 x.z] 48)) := (Below.refl _ _).alloc (Nat.le_refl _) _
  have hX : GrAt (V.alloc (.cells #[.int .i64 x.x, .int .i64 x.y, .int .i64 x.z] 48)) V.heap.size x := ⟨by go_simp, by go_simp, by go_simp⟩
  have ho := h4.on hb
  obtain ⟨g, c, W', hrun, hown, hgr, hat⟩ := ho.next hX hn (by rw [World.size_alloc]; omega)
  have eZ : W'.heap[Z]? = V.heap[Z]? := (hgr.block Z (by rw [World.size_alloc]; omega) (fun e => by have := (ho.block e.symm).1; omega)).trans (hb.block Z hzV)
  have hc : W'.cell? ⟨Z, 0, none⟩ = some (.slice g0 l.length c0) := (World.cell?_of_block (a := ⟨Z, 0, none⟩) eZ).trans h2
  have hf : ∀ j, W'.frozen? ⟨Z, j, none⟩ = false := fun j => (World.frozen?_of_block (a := ⟨Z, j, none⟩) eZ).trans (h3 j)
  have hB : Below w.heap.size w W' := (h1.trans (hb.mono h1.size)).grown hgr (by have := h1.size; rw [World.size_alloc]; omega) (fun j hj => by have := (ho.block hj).1; omega)
  refine ⟨g0, c0, g, c, W', h2, hrun, ⟨_, hc⟩, hf, ⟨hB.setCell (by simp only; omega) _, .slice g (l.length + 1) c, by simp [go_sem, hc], fun j => by simp [go_sem, hf], ?_⟩, ?_⟩
  · refine World.ownsRow.kept (row := some Z) hown (setCell_grown _ _ _ _) ?_
    cases e : (Value.slice g (l.length + 1) c).ownBlock with
    | none => exact .inl rfl
    | some j => exact .inr (fun e2 => by have := (hown.block e).1; simp only [Option.some.injEq] at e2; omega)
  · intro S m n hm hZn hS hSw
    have k1 : Keep S m n V (V.alloc (.cells #[.int .i64 x.x, .int .i64 x.y, .int .i64 x.z] 48)) := Keep.below hb (fun k hk => (hSw k hk).2)
    have k2 : Keep S m n (V.alloc (.cells #[.int .i64 x.x, .int .i64 x.y, .int .i64 x.z] 48)) W' := Keep.of_row hgr (fun k hk => by have := hSw k hk; rw [World.size_alloc]; omega) (fun r e => by
      obtain ⟨a1, -, a3⟩ := ho.block e
      exact ⟨by omega, fun hSr => by have := hSw r hSr; omega, a3⟩)
    have k3 : Keep S m n W' (W'.setCell ⟨Z, 0, none⟩ (.slice g (l.length + 1) c)) := Keep.of_grown (setCell_grown W' Z 0 _) (fun k hk => by have := hSw k hk; have := hgr.size; rw [World.size_alloc] at this; omega) (fun r e => by
      simp only [Option.some.injEq] at e
      subst e
      exact ⟨hZn, hS⟩)
    exact (k1.trans k2).trans k3
/-- What lies ahead of the range. -/
theorem sp_start {B H o c s : Nat} {h : List Bool} {wr W0 : World} {t t' : TypeId} (hk : BK B H o c s h wr) (h0 : (wr.alloc (.cells #[.slice none 0 0] t)).alloc (.cells #[.int .i64 s, .slice (some ⟨H, o, none⟩) h.length c] t') = W0) :
    W0.heap.size = wr.heap.size + 2 ∧ BK (wr.heap.size + 1) H o c s h W0 ∧ CJ wr wr.heap.size [] W0 := by
  subst h0
  have b1 : Below wr.heap.size wr (wr.alloc (.cells #[.slice none 0 0] t)) := (Below.refl _ _).alloc (Nat.le_refl _) _
  have k2 := (hk.on b1).copy (t := t')
  rw [World.size_alloc] at k2
  exact ⟨by simp, k2, (b1.alloc b1.size _), .slice none 0 0, by go_simp, fun j => by go_simp, OwnG.nil _ _⟩
attribute [-go_sem] Builtin.append_
set_option maxRecDepth 100000 in
set_option maxHeartbeats 2000000 in
theorem Spare_bk (H o c s : Nat) (h : List Bool) (w : World) (hs : 1 ≤ s) (hs2 : s ≤ 10) (hl : h.length = s * s * s) (hv : LB w (.slice (some ⟨H, o, none⟩) h.length c) h) (hq : ∃ q, w.cell? ⟨H, o, none⟩ = some (.bool q)) :
    Calls Try.prog 19 #[.agg #[.int .i64 s, .slice (some ⟨H, o, none⟩) h.length c]] w fun e w' => ∃ r, e = .returned (.tuple #[r, .int .i64 0]) ∧ (∃ B0, w.heap.size ≤ B0 ∧ OwnG w' B0 r (spareG s h)) ∧ Below w.heap.size w w' := by
  have hb : blockB s h.length = true := by
    unfold blockB
    rw [side_iff.2 (by omega), decide_eq_true (by rw [hl, Int.natCast_mul, Int.natCast_mul])]; rfl
  have HB : Kp (∀ W, Calls Try.prog 32 #[.agg #[.int .i64 s, .slice (some ⟨H, o, none⟩) h.length c]] W fun e w' => e = .returned (.bool true) ∧ Below W.heap.size W w') := ⟨fun W => hb ▸ ValidBlock_any s (some ⟨H, o, none⟩) h.length c W⟩
  have HDE : Kp (∀ W (k : Nat), Below w.heap.size w W → k < 3 → Calls Try.prog 48 #[.agg #[.int .i64 s, .slice (some ⟨H, o, none⟩) h.length c], .int .i64 k] W fun e w' => ∃ U, e = .returned (.slice (some ⟨U, 0, none⟩) (s * s) (s * s)) ∧ W.heap.size ≤ U ∧ IR U w' (cnts s (s * s) (axSq k) (grainsL s h)) ∧ Below W.heap.size W w') := ⟨fun W k hW hk => by
    obtain ⟨f, hf⟩ := axFs k hk
    exact depths_any s _ h k f (axSq k) hf W hs hs2 hl (hv.below hW)⟩
  have HO : Kp (∀ (w1 V : World) (C : Nat) (x : Gr), insB s x = true → DB w1 C s (s * s) (grainsL s h) 3 V → Calls Try.prog 50 #[.agg #[.int .i64 x.x, .int .i64 x.y, .int .i64 x.z], .int .i64 s, .func (.func 51) #[] #[.pointer (some ⟨C, 0, none⟩)]] V fun e w' => e = .returned (.bool (onB s (spQ s h) x)) ∧ Below V.heap.size V w') := ⟨fun w1 V C x hx hd => onAll_any s x 51 #[.pointer (some ⟨C, 0, none⟩)] (spQ s h) V hs2 hx (enters_of Try.func51 (by kernel_rfl) rfl) ⟨fun W k i hW hk hi => spare1_any w1 C s (s * s) (grainsL s h) k i W (hd.on hW) (fun g hg => axSq_lt (grains_in hg).1) hk hi⟩⟩
  have HIN : Kp (∀ x ∈ grainsL s h, insB s x = true) := ⟨fun x hx => (grains_in hx).1⟩
  have HSP : Kp (spareG s h = (grainsL s h).filter (onB s (spQ s h))) := ⟨rfl⟩
  have HLEN : Kp ((grainsL s h).length ≤ 1000) := ⟨by
    unfold grainsL
    refine Nat.le_trans (List.length_filter_le _ _) ?_
    rw [places_len]
    exact (cube_bd hs2).2⟩
  obtain ⟨q, hqq⟩ : ∃ q, onB s (spQ s h) = q := ⟨_, rfl⟩
  rw [hqq] at HSP
  obtain ⟨M, hM⟩ : ∃ M, s * s = M := ⟨_, rfl⟩
  rw [hM] at HDE HO
  rw [hqq] at HO
  have HLN := Kp.mk hl
  have HV := Kp.mk hv
  have HQ := Kp.mk hq
  have HHL : Kp (H < w.heap.size) := ⟨by obtain ⟨q, hq⟩ := hq; exact World.block_lt_of_cell? _ _ hq⟩
  rw [HSP.out]
  clear hl hv hb hq hqq hM HSP
  refine (callsIn_wide (n := 7)).1 ?_
  refine callsIn_of_wp_marks Try.func19 rfl trivial ?_ rfl
  simp only [Try.ntmps19, List.size_toArray, List.length_cons, List.length_nil, Nat.reduceAdd, Nat.reduceSub, Array.replicate_succ, Array.replicate_zero, List.push_toArray, List.append_toArray, List.nil_append, List.cons_append]
  gi_wp2_with fail
  refine ⟨trivial, (callsIn_wide.2 (HB.out _)).mono ?_⟩
  rintro en w1 ⟨rfl, hb1⟩
  have HB1 : Kp (Below w.heap.size w w1) := ⟨Below.trans (by repeat (first | refine Below.alloc ?_ (by (try simp) <;> omega) _ | refine bDrewN ?_ _ | refine Below.drew ?_ | refine Below.setCell ?_ (by (try simp) <;> omega) _ | exact Below.refl _ _)) (hb1.mono (by (try simp) <;> omega))⟩
  have hz1_0 : w.heap.size < w1.heap.size := by have := hb1.size; (try simp at this); omega
  obtain ⟨hc, hf⟩ := bcell hb1
  have c1_0_0 : w1.cell? ⟨w.heap.size, 0, none⟩ = some (.int .i64 s) := (hc _ _ (by (try simp) <;> omega)).trans (by go_simp)
  have c1_0_1 : w1.cell? ⟨w.heap.size, 1, none⟩ = some ((.slice (some ⟨H, o, none⟩) h.length c)) := (hc _ _ (by (try simp) <;> omega)).trans (by go_simp)
  have z1_0 : ∀ j, w1.frozen? ⟨w.heap.size, j, none⟩ = false := fun j => (hf _ _ (by (try simp) <;> omega)).trans (by go_simp)
  clear hc hf hb1
  have HC1 : Kp (w1.cell? ⟨w.heap.size, 0, none⟩ = some (.int .i64 s) ∧ w1.cell? ⟨w.heap.size, 1, none⟩ = some (.slice (some ⟨H, o, none⟩) h.length c) ∧ w.heap.size < w1.heap.size) := ⟨c1_0_0, c1_0_1, hz1_0⟩
  clear c1_0_0 c1_0_1 hz1_0 z1_0
  gi_wp2
  obtain ⟨WA, hWA⟩ : ∃ WA, w1.alloc (.cells #[.slice none 0 0, .slice none 0 0, .slice none 0 0] 76) = WA := ⟨_, rfl⟩
  have HDA : Kp (DB w1 w1.heap.size s M (grainsL s h) 0 WA) := ⟨db_start hWA⟩
  rw [hWA]
  clear hWA
  obtain ⟨C, hC⟩ : ∃ C, w1.heap.size = C := ⟨_, rfl⟩
  have HCC := Kp.mk hC
  rw [hC] at HDA
  simp only [hC]
  clear hC
  gi_loopw [11] (fun a wr => ∃ k : Nat, k ≤ 3 ∧ a = .int .i64 (k : Int) ∧ Kp (DB w1 C s M (grainsL s h) k wr)) (fun a _ => 3 - (intOf a).toNat)
  case atStart => exact ⟨0, by omega, rfl, HDA⟩
  case round =>
    clear HDA
    obtain ⟨k, hk, rfl, HD⟩ := hrel
    have q0 : wr.cell? ⟨w.heap.size, 0, none⟩ = some (.int .i64 s) := (HD.out.below.cell (p := ⟨w.heap.size, 0, none⟩) HC1.out.2.2).trans HC1.out.1
    have q1 : wr.cell? ⟨w.heap.size, 1, none⟩ = some (.slice (some ⟨H, o, none⟩) h.length c) := (HD.out.below.cell (p := ⟨w.heap.size, 1, none⟩) HC1.out.2.2).trans HC1.out.2.1
    by_cases hlt : k < 3
    · have o1 : (k : Int) < 3 := by omega
      gi_wp2_with fail
      refine ⟨trivial, (callsIn_wide.2 (HDE.out wr k (HB1.out.trans (HD.out.below.mono HB1.out.size)) hlt)).mono ?_⟩
      rintro en w3 ⟨U, rfl, hU, hr, hb3⟩
      have hd3 := HD.out.on hb3
      obtain ⟨v, hv⟩ := hd3.free k (Nat.le_refl _) hlt
      have hz3 := hd3.z k
      have HD4 := Kp.mk (hd3.put hlt (by have := HCC.out; omega) (Nat.lt_of_lt_of_le HD.out.lt hU) hr)
      clear hU hr hb3 hd3 HD q0 q1
      gi_wp2
      go_roundw
      case rel => exact ⟨k + 1, by omega, by go_num, HD4⟩
      case measure => simp [intOf]; omega
    · obtain rfl : k = 3 := by omega
      clear hlt
      have hbr : Below w.heap.size w wr := HB1.out.trans (HD.out.below.mono HB1.out.size)
      have HKR : Kp (BK w.heap.size H o c s h wr) := ⟨⟨q0, q1, HV.out.below hbr, by obtain ⟨q, hq⟩ := HQ.out; exact ⟨q, (hbr.cell (p := ⟨H, o, none⟩) HHL.out).trans hq⟩⟩⟩
      have HBR := Kp.mk hbr
      have hwr : w.heap.size < wr.heap.size := Nat.lt_of_lt_of_le HC1.out.2.2 HD.out.below.size
      have HWR := Kp.mk hwr
      clear hbr
      gi_wp2_with fail
      refine ⟨trivial, (callsIn_wide.2 (grains_any _ _ _)).mono ?_⟩
      rintro en W0 ⟨rfl, hW0⟩
      obtain ⟨z0, k0, ci0⟩ := sp_start HKR.out hW0
      rw [World.size_alloc] at *
      obtain ⟨Z, hZ⟩ : ∃ Z, wr.heap.size = Z := ⟨_, rfl⟩
      have HZ : Kp (W0.heap.size = Z + 2 ∧ w.heap.size < Z ∧ H < Z ∧ wr.heap.size = Z) := ⟨by rw [z0, hZ], by rw [← hZ]; exact hwr, by have := HHL.out; omega, hZ⟩
      rw [hZ] at k0 ci0
      have HK0 := Kp.mk k0
      have HCI0 := Kp.mk ci0
      clear q0 q1 z0 k0 ci0 hW0 hwr
      gi_wp2
      try simp only [hZ]
      clear hZ
      refine wpIn_yieldsS (k := 0) (enc := encG) (xs := grainsL s h) rfl (by omega) (gf := 79) (lb := #[.pointer (some ⟨Z + 1, 0, none⟩)]) rfl trivial (enters_of Try.func79 (by kernel_rfl) rfl) (fun _ => rfl)
        (grains_yields 6 (by omega) (Z + 1) H o c s h hs hs2 HLN.out W0 HK0.out) Keep.trans (fun V o o' _ _ _ => Keep.putObj (by omega) (by have := HZ.out; rintro (e | e) <;> omega))
        (fun pre V => CJ wr Z (pre.filter q) V)
        (fun _ _ _ => False)
        (fun p => Turns.abides (C := Z + 1) (CJ.turns (by have := HZ.out; omega) (by omega)) (by have := HZ.out; omega)) (fun _ _ => Turns.abides (C := Z) turns_const (by have := HZ.out; omega))
        HCI0.out
        (fun pre x a' V => CJ wr Z (pre.filter q) V ∧ ∃ G, Z + 4 ≤ G ∧ GrAt V G x ∧ a' = { tmps := #[.agg #[.int .i64 s, .slice (some ⟨H, o, none⟩) h.length c], .pointer (some ⟨w.heap.size, 0, none⟩), .slice none 0 0, .int .i64 0, .pointer (some ⟨C, 0, none⟩), u5, .pointer (some ⟨Z, 0, none⟩), .pointer (some ⟨G, 0, none⟩), .agg #[.int .i64 s, .slice (some ⟨H, o, none⟩) h.length c], .bool true, .bool false, .int .i64 3, .bool false, u13, u14, u15, u16, u17, u18, u19, .agg #[.int .i64 s, .slice (some ⟨H, o, none⟩) h.length c], .func (.func 79) #[] #[.pointer (some ⟨Z + 1, 0, none⟩)], .agg #[.int .i64 x.x, .int .i64 x.y, .int .i64 x.z], undef, undef, undef, undef, undef, undef, undef, undef, undef, undef], defers := [] })
        ?ax ?assign ?body ?done ?stop
      case ax =>
        rintro pre x a' X V row ⟨hi, G, hG, hx, ha⟩ g hr
        exact ⟨Turns.abides (C := Z + 1) (CJ.turns (by have := HZ.out; omega) (by omega)) (by have := HZ.out; omega) X V row hi g hr, G, hG, GrAt.abide hx g hr (by have := HZ.out; omega), ha⟩
      case assign =>
        rintro l2 pre ⟨gx, gy, gz⟩ V hi _ hsz
        have HI := Kp.mk hi
        clear hi
        have ez : ((#[22] : Array Tmp).zip (encG ⟨gx, gy, gz⟩)).foldl (fun tmps (q : Tmp × Value) => tmps.setIfInBounds q.1 q.2) #[.agg #[.int .i64 s, .slice (some ⟨H, o, none⟩) h.length c], .pointer (some ⟨w.heap.size, 0, none⟩), .slice none 0 0, .int .i64 0, .pointer (some ⟨C, 0, none⟩), u5, .pointer (some ⟨Z, 0, none⟩), undef, .agg #[.int .i64 s, .slice (some ⟨H, o, none⟩) h.length c], .bool true, .bool false, .int .i64 3, .bool false, u13, u14, u15, u16, u17, u18, u19, .agg #[.int .i64 s, .slice (some ⟨H, o, none⟩) h.length c], .func (.func 79) #[] #[.pointer (some ⟨Z + 1, 0, none⟩)], undef, undef, undef, undef, undef, undef, undef, undef, undef, undef, undef] = #[.agg #[.int .i64 s, .slice (some ⟨H, o, none⟩) h.length c], .pointer (some ⟨w.heap.size, 0, none⟩), .slice none 0 0, .int .i64 0, .pointer (some ⟨C, 0, none⟩), u5, .pointer (some ⟨Z, 0, none⟩), undef, .agg #[.int .i64 s, .slice (some ⟨H, o, none⟩) h.length c], .bool true, .bool false, .int .i64 3, .bool false, u13, u14, u15, u16, u17, u18, u19, .agg #[.int .i64 s, .slice (some ⟨H, o, none⟩) h.length c], .func (.func 79) #[] #[.pointer (some ⟨Z + 1, 0, none⟩)], .agg #[.int .i64 gx, .int .i64 gy, .int .i64 gz], undef, undef, undef, undef, undef, undef, undef, undef, undef, undef] := by simp [encG]
        rw [ez]
        clear ez
        gi_wp2
        have hzv : Z + 4 ≤ V.heap.size := by have := HZ.out; omega
        have hbb : Below V.heap.size V (V.alloc (.cells #[.int .i64 gx, .int .i64 gy, .int .i64 gz] 48)) := (Below.refl _ _).alloc (Nat.le_refl _) _
        exact ⟨alloc_keeps _ _ _, Keep.below hbb (fun j hj => by have := HZ.out; rcases hj with rfl | rfl <;> omega), HI.out.on hbb, V.heap.size, hzv, ⟨by go_simp, by go_simp, by go_simp⟩, rfl⟩
      case body =>
        rintro l2 pre x a' V ⟨hi, G, hG, hgr, rfl⟩ hpre hsz
        have hin := HIN.out x (hpre.subset (by simp))
        have hd := HD.out.on (by rw [HZ.out.2.2.2]; have := hi.1; rwa [HZ.out.2.2.2] at this)
        have HOX := Kp.mk (HO.out w1 V C x hin hd)
        have q0 : V.cell? ⟨w.heap.size, 0, none⟩ = some (.int .i64 s) := (hd.below.cell (p := ⟨w.heap.size, 0, none⟩) HC1.out.2.2).trans HC1.out.1
        have HPL : Kp ((pre.filter q).length ≤ 100000) := ⟨by
          have h2 := hpre.length_le
          have := HLEN.out
          have := List.length_filter_le q pre
          rw [List.length_append] at h2
          omega⟩
        have HGR := Kp.mk hgr
        have HI := Kp.mk hi
        have HSZ : Kp (W0.heap.size = Z + 2 ∧ W0.heap.size + 2 ≤ V.heap.size) := ⟨HZ.out.1, hsz⟩
        have HFL : Kp ((pre ++ [x]).filter q = pre.filter q ++ if q x = true then [x] else []) := ⟨by rw [List.filter_append]; cases h : q x <;> simp [h]⟩
        obtain ⟨R, hR⟩ : ∃ R, q x = R := ⟨_, rfl⟩
        rw [hR] at HOX HFL
        obtain ⟨gx, gy, gz⟩ := x
        obtain ⟨d0, d1, d2⟩ := hgr
        clear hin hd hi hpre hR
        gi_wp2_with fail
        refine ⟨trivial, (CallsIn.inRound l2 (callsIn_wide.2 HOX.out)).mono ?_⟩
        rintro en V1 ⟨rfl, hb1⟩
        have HI1 := Kp.mk (HI.out.on hb1)
        have HG1 := Kp.mk (HGR.out.on hb1)
        have HS1 : Kp (V.heap.size ≤ V1.heap.size) := ⟨hb1.size⟩
        have HK1 : Kp (KeepsFrom W0.heap.size V V1 ∧ Keep (SB (Z + 1) H) 2 (W0.heap.size + 2) V V1) := ⟨KeepsFrom.of_grownBy (grown_below hb1 none) (fun j e => by cases e), Keep.below hb1 (fun j hj => by have := HZ.out; have := HSZ.out; rcases hj with rfl | rfl <;> omega)⟩
        clear hb1 d0 d1 d2 q0
        cases R with
        | false =>
          have HNX : Kp (CJ wr Z ((pre ++ [(⟨gx, gy, gz⟩ : Gr)]).filter q) V1) := ⟨by rw [HFL.out, if_neg (by decide), List.append_nil]; exact HI1.out⟩
          gi_wp2
          exact ⟨HK1.out.1, HK1.out.2, HNX.out⟩
        | true =>
          have hgr := HG1.out
          have hGV : G < V1.heap.size := World.block_lt_of_cell? _ _ hgr.c0
          have HR := cj_next (x := ⟨gx, gy, gz⟩) HI1.out (by have := HZ.out; omega) HPL.out (by have := HSZ.out; have := HS1.out; omega)
          obtain ⟨g0, c0, g2, cc, W', hcu, hrun, ⟨vz, hcz⟩, hfz, hci, hkeep⟩ := HR
          have HCJ : Kp (CJ wr Z ((pre ++ [(⟨gx, gy, gz⟩ : Gr)]).filter q) (W'.setCell ⟨Z, 0, none⟩ (.slice g2 ((pre.filter q).length + 1) cc))) := ⟨by rw [HFL.out, if_pos rfl]; exact hci⟩
          have HKP := Lib.hid hkeep
          have hfz0 := hfz 0
          obtain ⟨d0, d1, d2⟩ := hgr
          simp only at d0 d1 d2 hrun
          obtain ⟨m, hm⟩ : ∃ m, (pre.filter q).length = m := ⟨_, rfl⟩
          rw [hm] at hcu hrun HCJ HKP
          clear hci hkeep hfz hm
          gi_wp2
          exact ⟨HK1.out.1.trans (HKP.out (SB (Z + 1) H) 0 W0.heap.size (by have := HSZ.out; omega) (by have := HSZ.out; omega) (by have := HZ.out; rintro (e | e) <;> omega) (fun j hj => by have := HZ.out; have := HSZ.out; have := HS1.out; rcases hj with rfl | rfl <;> omega)).from, HK1.out.2.trans (HKP.out (SB (Z + 1) H) 2 (W0.heap.size + 2) (by have := HSZ.out; omega) (by have := HSZ.out; omega) (by have := HZ.out; rintro (e | e) <;> omega) (fun j hj => by have := HZ.out; have := HSZ.out; have := HS1.out; rcases hj with rfl | rfl <;> omega)), HCJ.out⟩
      case done =>
        rintro D V hD hi hd
        have hgb := grownBy_putObj' V D (.deferred none)
        have hi2 := CJ.turns (C := Z + 1) (by have := HZ.out; omega) (by omega) _ _ (some D) hi hgb (fun r e => by cases e; exact ⟨by have := HZ.out; omega, .inr ⟨_, hd, rfl⟩⟩)
        have HD2 := Kp.mk hd
        obtain ⟨-, u, hcu, -, -⟩ := hi
        obtain ⟨hbl, u2, hcu2, -, ho2⟩ := hi2
        have hu : u2 = u := by
          rw [World.cell?_of_block (a := ⟨Z, 0, none⟩) (World.putObj_heap_other (show Z ≠ D by have := HZ.out; omega)), hcu] at hcu2
          exact (Option.some.inj hcu2).symm
        subst hu
        have HO2 := Kp.mk ho2
        have HBL := Kp.mk (HBR.out.trans (hbl.mono HBR.out.size))
        clear hd hgb ho2 hbl
        gi_wp2
        refine ⟨by simp, .inl ⟨_, _, rfl, run_takeDeferred HD2.out, ?_⟩⟩
        refine ⟨.tuple #[u2, .int .i64 0], by simp [results, Try.results19, go_sem], u2, rfl, ⟨Z + 6, by have := HZ.out; omega, HO2.out⟩, HBL.out⟩
      case stop =>
        rintro D cd ys V hD hys hi hd
        exact hi.elim
theorem Spare_in (s : Nat) (u : Value) (h : List Bool) (w : World) (hu : LB w u h) (hs : 1 ≤ s) (hs2 : s ≤ 10) (hl : h.length = s * s * s) :
    Calls Try.prog 19 #[.agg #[.int .i64 s, u]] w fun e w' => ∃ r, e = .returned (.tuple #[r, .int .i64 0]) ∧ (∃ B0, w.heap.size ≤ B0 ∧ OwnG w' B0 r (spareG s h)) ∧ Below w.heap.size w w' := by
  obtain ⟨g1, c1, rfl⟩ := hu.shape
  have h0 : 0 < h.length := by
    rw [hl]
    exact Nat.mul_pos (Nat.mul_pos (by omega) (by omega)) (by omega)
  obtain ⟨H, o, rfl, q, hq⟩ : ∃ H o, g1 = some ⟨H, o, none⟩ ∧ ∃ q, w.cell? ⟨H, o, none⟩ = some (.bool q) := by
    obtain ⟨g, c, e, -, hi⟩ := hu
    obtain ⟨b, o, hg, -, hc⟩ := hi 0 _ (List.getElem?_eq_getElem h0)
    simp only [Value.slice.injEq] at e
    exact ⟨b, o, by rw [e.1, hg], _, hc⟩
  exact Spare_bk H o c1 s h w hs hs2 hl hu ⟨q, hq⟩
end Go.Proofs.Ytcjlijiifhggfaa.Cv
