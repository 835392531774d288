/-
  WALKS (layer 7, scene): the program's Mirrored.
-/
import Derived.Test.YtjnggchljilooaaScMirP
import Derived.Test.YtjnggchljilooaaScRais
namespace Go.Proofs.Ytjnggchljilooaa.Sc
open Go Go.RowKit Go.Sort
attribute [local go_sem] Oper.semAt_some

def MC (Z : Nat) (wd dp : Int) (v : Value) : List (Nat × Nat × Value) := [(Z, 0, .int .i64 wd), (Z, 1, .int .i64 dp), (Z, 2, v), (Z + 1, 0, .int .i64 0), (Z + 1, 1, .int .i64 0), (Z + 1, 2, .slice none 0 0)]
theorem MC.lt {Z : Nat} {wd dp : Int} {v : Value} : ∀ p ∈ MC Z wd dp v, p.1 < Z + 2 := by
  intro p hp
  simp only [MC, List.mem_cons, List.not_mem_nil, or_false] at hp
  rcases hp with rfl | rfl | rfl | rfl | rfl | rfl <;> simp
theorem RI.lt1 {w : World} {G : Nat} {v : Value} {L : List Int} (h : RI w G v L) (h0 : 0 < L.length) : G < w.heap.size := by
  obtain ⟨c, -, -, -, hl⟩ := h
  exact World.block_lt_of_cell? _ _ (hl 0 _ (List.getElem?_eq_getElem h0))
theorem RI.turns {G C : Nat} {v : Value} {L : List Int} (hG : G < C) (h0 : 0 < L.length) : Turns 0 C (fun V => RI V G v L) := by
  intro X Y row h gr hr
  refine h.same (gr.block G (h.lt1 h0) (fun e => ?_))
  have := (hr G e.symm).1
  omega
set_option maxRecDepth 100000 in
set_option maxHeartbeats 4000000 in
theorem Mirrored_in (N D : Nat) (L : List Int) (g : Option Addr) (M c : Nat) (w : World)
    (HV : Kp (∀ W, Below w.heap.size w W → Calls Try.prog 16 #[.agg #[.int .i64 N, .int .i64 D, .slice g M c]] W fun e w' => e = .returned (.bool true) ∧ Below W.heap.size W w'))
    (HCL : Kp (∀ W, Below w.heap.size w W → Calls Try.prog 58 #[.slice g M c] W fun e w' => ∃ u, e = .returned u ∧ (∃ G, W.heap.size ≤ G ∧ G < w'.heap.size ∧ RI w' G u L) ∧ Below W.heap.size W w'))
    (HLM : Kp (L.length = M ∧ M = N * D ∧ M ≤ 1000 ∧ 0 < N ∧ 0 < M)) :
    Calls Try.prog 23 #[.agg #[.int .i64 N, .int .i64 D, .slice g M c]] w fun e w' => (∃ u G, e = .returned (.tuple #[.agg #[.int .i64 N, .int .i64 D, u], .int .i64 0]) ∧ RI w' G u (mirL N D L)) ∧ Below w.heap.size w w' := by
  refine (callsIn_wide (n := 7)).1 ?_
  refine callsIn_of_wp_marks Try.func23 rfl trivial ?_ rfl
  simp only [Try.ntmps23, List.size_toArray, List.length_cons, List.length_nil, Nat.reduceAdd, Nat.reduceSub, Array.replicate_succ, Array.replicate_zero, List.push_toArray, List.append_toArray, List.nil_append, List.cons_append]
  gi_wp2_with fail
  try simp only [Nat.add_assoc, Nat.reduceAdd]
  obtain ⟨W1, hW1⟩ : ∃ W, (w.alloc (.cells #[.int .i64 N, .int .i64 D, .slice g M c] 24)).alloc (.cells #[.int .i64 0, .int .i64 0, .slice none 0 0] 24) = W := ⟨_, rfl⟩
  obtain ⟨hb1, hall⟩ := boxesG_start hW1
  have HSZ : Kp (w.heap.size + 2 ≤ W1.heap.size) := ⟨by rw [← hW1]; simp⟩
  rw [hW1]
  obtain ⟨B, hB⟩ : ∃ B, w.heap.size = B := ⟨_, rfl⟩
  have HBB := Kp.mk hB
  have HVX := Kp.mk (HV.out W1 hb1)
  rw [hB] at hall HSZ
  have HB1 := Kp.mk hb1
  have HALL := Kp.mk hall
  try simp only [hB]
  clear hW1 hb1 hall hB HV
  refine ⟨trivial, (callsIn_wide.2 HVX.out).mono ?_⟩
  rintro en w2 ⟨rfl, hb2⟩
  obtain ⟨q0, q1, q2, r0, r1, r2, qz, rz⟩ := HALL.out w2 hb2
  have HW2 := Kp.mk hb2
  have HB2 := Kp.mk (HB1.out.trans (hb2.mono HB1.out.size))
  clear hb2 qz rz HVX
  gi_wp2_with fail
  refine ⟨trivial, (callsIn_wide.2 (HCL.out _ HB2.out)).mono ?_⟩
  rintro en w5 ⟨u, rfl, ⟨G, hG1, hG2, hR⟩, hb5⟩
  clear q0 q1 q2 r0 r1 r2
  obtain ⟨q0, q1, q2, r0, r1, r2, qz, rz⟩ := HALL.out w5 (HW2.out.trans (hb5.mono HW2.out.size))
  have HB5 := Kp.mk (HB2.out.trans (hb5.mono HB2.out.size))
  have y2 := qz 2
  obtain ⟨cap, rfl, hcap, hfz, hcells⟩ := hR
  obtain ⟨hLM, hMN, hM, hN, hM0⟩ := HLM.out
  rw [hLM] at hcap
  rw [hLM]
  have HC5 := Kp.mk (And.intro hcells hfz)
  have HRZ := Kp.mk (And.intro qz rz)
  have HNE : Kp (B + 1 < G ∧ G < w5.heap.size ∧ M ≤ cap) := ⟨by have := HSZ.out; have := HW2.out.size; omega, hG2, hcap⟩
  clear hcells hfz qz rz hb5 hG1 hG2 hcap hMN hM hM0
  gi_wp2_with fail
  obtain ⟨w6, hw6⟩ : ∃ w6, w5.setCell ⟨B, 2, none⟩ (.slice (some ⟨G, 0, none⟩) M cap) = w6 := ⟨_, rfl⟩
  have H6 : Kp (Hd w (MC B N D (.slice (some ⟨G, 0, none⟩) M cap)) w6 ∧ RI w6 G (.slice (some ⟨G, 0, none⟩) M cap) (mirL N 0 L) ∧ w6.heap.size = w5.heap.size) := by
    have h1 := HNE.out
    have h2 := HBB.out
    subst hw6
    refine ⟨⟨HB5.out.setCell (by simp only; omega) _, fun p hp => ?_⟩, ?_, by simp⟩
    · simp only [MC, List.mem_cons, List.not_mem_nil, or_false] at hp
      have z0 := HRZ.out.1 0
      have z1 := HRZ.out.1 1
      have x0 := HRZ.out.2 0
      have x1 := HRZ.out.2 1
      have x2 := HRZ.out.2 2
      rcases hp with rfl | rfl | rfl | rfl | rfl | rfl <;> exact ⟨by simp [go_sem, *], by simp [go_sem, *]⟩
    · rw [mirL_zero]
      exact ⟨cap, by rw [hLM], by rw [hLM]; exact h1.2.2, fun j => by simp [go_sem, HC5.out.2 j], fun i y hy => (World.cell?_setCell_other _ _ _ _ (by simp only [ne_eq, Addr.mk.injEq, not_and]; intros; omega)).trans (HC5.out.1 i y hy)⟩
  rw [hw6]
  clear hw6 q0 q1 q2 r0 r1 r2 y2 HC5 HRZ HB5 HALL HB1 HB2 HW2 HSZ HCL
  have hmc := H6.out.1.cells
  simp only [MC, List.mem_cons, List.not_mem_nil, or_false, forall_eq_or_imp, forall_eq] at hmc
  obtain ⟨⟨q0, -⟩, ⟨q1, -⟩, ⟨q2, -⟩, ⟨r0, -⟩, ⟨r1, -⟩, r2, -⟩ := hmc
  refine ⟨trivial, (callsIn_wide.2 (Chunk_any _ _ _ _ _ hN)).mono ?_⟩
  rintro en w7 ⟨rfl, hw7⟩
  gi_wp2
  obtain ⟨C, hC⟩ : ∃ C, w6.heap.size = C := ⟨_, rfl⟩
  have H7 : Kp (w7.heap.size = C + 2 ∧ Hd w (MC B N D (.slice (some ⟨G, 0, none⟩) M cap)) w7 ∧ RI w7 G (.slice (some ⟨G, 0, none⟩) M cap) (mirL N 0 L) ∧ w7.cell? ⟨C, 0, none⟩ = some (.slice (some ⟨G, 0, none⟩) M cap) ∧ w7.cell? ⟨C + 1, 0, none⟩ = some (.int .i64 N) ∧ G < C ∧ B + 1 < G ∧ M ≤ cap) := by
    have hb7 : Below w6.heap.size w6 w7 := by rw [← hw7]; exact ((Below.refl _ _).alloc (Nat.le_refl _) _).alloc (by simp) _
    have h0 : 0 < (mirL N 0 L).length := by rw [mirL_len, HLM.out.1]; exact HLM.out.2.2.2.2
    have h1 := H6.out.1.on hb7
    have h2 := H6.out.2.1.on (H6.out.2.1.lt1 h0) hb7
    have h3 := H6.out.2.1.lt1 h0
    subst hC hw7
    exact ⟨⟨by simp, h1, h2, by go_simp, by go_simp, h3, HNE.out.1, HNE.out.2.2⟩⟩
  try simp only [hC]
  clear hw7 hC H6 HNE q0 q1 q2 r0 r1 r2 hN hLM
  refine wpIn_yieldsS (k := 0) (enc := encC G N) (xs := List.range D) rfl (by omega) (gf := 77) (lb := #[.pointer (some ⟨C, 0, none⟩), .pointer (some ⟨C + 1, 0, none⟩)]) rfl trivial (enters_of Try.func77 (by kernel_rfl) rfl) (fun _ => rfl)
    (chunk_yields 6 (by omega) C G N D M cap w7 HLM.out.2.2.2.1 HLM.out.2.1 HLM.out.2.2.1 H7.out.2.2.2.2.2.2.2 H7.out.2.2.2.1 H7.out.2.2.2.2.1) Keep.trans (fun V o o' _ _ _ => Keep.putObj (by omega) (by have := H7.out.1; rintro (e | e) <;> omega))
    (fun pre V => Hd w (MC B N D (.slice (some ⟨G, 0, none⟩) M cap)) V ∧ RI V G (.slice (some ⟨G, 0, none⟩) M cap) (mirL N pre.length L))
    (fun _ _ _ => False)
    (fun q => Turns.abides (C := C) (turns_and (Hd.turns (by have := HBB.out; have := H7.out; omega) (fun p hp => .inl (by have := MC.lt p hp; have := H7.out; omega))) (RI.turns H7.out.2.2.2.2.2.1 (by rw [mirL_len, HLM.out.1]; exact HLM.out.2.2.2.2))) (by have := H7.out.1; omega)) (fun _ _ X Y row h _ _ => h)
    ⟨H7.out.2.1, H7.out.2.2.1⟩
    (fun pre r a' V => (Hd w (MC B N D (.slice (some ⟨G, 0, none⟩) M cap)) V ∧ RI V G (.slice (some ⟨G, 0, none⟩) M cap) (mirL N pre.length L)) ∧ a' = { tmps := #[.agg #[.int .i64 N, .int .i64 D, .slice g M c], .pointer (some ⟨B, 0, none⟩), .pointer (some ⟨B + 1, 0, none⟩), .int .i64 0, .slice (some ⟨G, r * N, none⟩) N N, .agg #[.int .i64 N, .int .i64 D, .slice g M c], .bool true, .bool false, undef, .pointer (some ⟨B, 2, none⟩), .slice g M c, .slice (some ⟨G, 0, none⟩) M cap, .pointer (some ⟨B, 2, none⟩), .pointer (some ⟨B, 2, none⟩), .slice (some ⟨G, 0, none⟩) M cap, .pointer (some ⟨B, 0, none⟩), .int .i64 N, .func (.func 77) #[] #[.pointer (some ⟨C, 0, none⟩), .pointer (some ⟨C + 1, 0, none⟩)], .slice (some ⟨G, r * N, none⟩) N N, undef, undef, undef], defers := [] })
    ?ax ?assign ?body ?done ?stop
  case ax =>
    rintro pre r a' X V row ⟨hi, ha⟩ gr hr
    exact ⟨Turns.abides (C := C) (turns_and (Hd.turns (by have := HBB.out; have := H7.out; omega) (fun p hp => .inl (by have := MC.lt p hp; have := H7.out; omega))) (RI.turns H7.out.2.2.2.2.2.1 (by rw [mirL_len, HLM.out.1]; exact HLM.out.2.2.2.2))) (by have := H7.out.1; omega) X V row hi gr hr, ha⟩
  case assign =>
    rintro l2 pre r V hi _ hsz
    have HI := Kp.mk hi
    clear hi
    have ez : ((#[18] : Array Tmp).zip (encC G N r)).foldl (fun tmps (q : Tmp × Value) => tmps.setIfInBounds q.1 q.2) #[.agg #[.int .i64 N, .int .i64 D, .slice g M c], .pointer (some ⟨B, 0, none⟩), .pointer (some ⟨B + 1, 0, none⟩), .int .i64 0, undef, .agg #[.int .i64 N, .int .i64 D, .slice g M c], .bool true, .bool false, undef, .pointer (some ⟨B, 2, none⟩), .slice g M c, .slice (some ⟨G, 0, none⟩) M cap, .pointer (some ⟨B, 2, none⟩), .pointer (some ⟨B, 2, none⟩), .slice (some ⟨G, 0, none⟩) M cap, .pointer (some ⟨B, 0, none⟩), .int .i64 N, .func (.func 77) #[] #[.pointer (some ⟨C, 0, none⟩), .pointer (some ⟨C + 1, 0, none⟩)], undef, undef, undef, undef] = #[.agg #[.int .i64 N, .int .i64 D, .slice g M c], .pointer (some ⟨B, 0, none⟩), .pointer (some ⟨B + 1, 0, none⟩), .int .i64 0, undef, .agg #[.int .i64 N, .int .i64 D, .slice g M c], .bool true, .bool false, undef, .pointer (some ⟨B, 2, none⟩), .slice g M c, .slice (some ⟨G, 0, none⟩) M cap, .pointer (some ⟨B, 2, none⟩), .pointer (some ⟨B, 2, none⟩), .slice (some ⟨G, 0, none⟩) M cap, .pointer (some ⟨B, 0, none⟩), .int .i64 N, .func (.func 77) #[] #[.pointer (some ⟨C, 0, none⟩), .pointer (some ⟨C + 1, 0, none⟩)], .slice (some ⟨G, r * N, none⟩) N N, undef, undef, undef] := by simp [encC]
    rw [ez]
    clear ez
    gi_wp2
    exact ⟨KeepsFrom.refl _ _, Keep.refl _ _ _ _, HI.out, by first | rfl | trivial⟩
  case body =>
    rintro l2 pre r a' V ⟨⟨hi, hr⟩, rfl⟩ hpre hsz
    obtain ⟨hrD, -⟩ := range_pre hpre
    have hlen : pre.length = r := by
      have e := List.prefix_iff_eq_take.1 hpre
      rw [List.take_range, List.length_append, List.length_singleton] at e
      have hl := congrArg List.length e
      rw [List.length_append, List.length_singleton, List.length_range] at hl
      have hm : min (pre.length + 1) D = pre.length + 1 := hl.symm
      rw [hm, List.range_succ] at e
      obtain ⟨-, e2⟩ := List.append_inj' e (by simp)
      have hk : r = pre.length := by simpa using e2
      exact hk.symm
    obtain ⟨g1, g2, g3, g4, g5⟩ := HLM.out
    have hrn : r * N + N ≤ L.length := by
      have h2 : (r + 1) * N ≤ D * N := Nat.mul_le_mul_right N hrD
      rw [Nat.add_mul, Nat.one_mul] at h2
      rw [g1, g2, Nat.mul_comm N D]
      exact h2
    rw [hlen] at hr
    have HR := Kp.mk hr
    have HI := Kp.mk hi
    have HLE : Kp ((pre ++ [r]).length = r + 1) := ⟨by rw [List.length_append, hlen]; rfl⟩
    have HSZ : Kp (w7.heap.size + 2 ≤ V.heap.size) := ⟨by omega⟩
    have HRV : Kp (Calls Try.prog 60 #[.slice (some ⟨G, r * N, none⟩) N N] V fun e w' => e = .returned (.tuple #[]) ∧ ∃ q, w' = (V.drewN q).setCells G (r * N) ((((rowL N r L).take N).reverse).map (Value.int .i64))) := ⟨by
      obtain ⟨cc, -, -, hf, hl⟩ := hr
      refine Try.slices_Reverse_int_cells G (r * N) N N (rowL N r L) V (by rw [rowL_len]; exact Nat.le_refl _) (by omega) (fun j hj => ?_) (fun j _ => hf _)
      rw [rowL_len] at hj
      rw [rowL_at hj]
      obtain ⟨d1, d2⟩ := div_row (r := r) hj
      exact hl _ _ ((mirL_at (by omega)).trans (by rw [d1, if_neg (by omega)]))⟩
    have HRN := Kp.mk hrn
    clear hi hr hpre hlen hrn g1 g2 g3 g4 g5
    gi_wp2_with fail
    refine ⟨trivial, (CallsIn.inRound _ (callsIn_wide.2 HRV.out)).mono ?_⟩
    rintro en W8 ⟨rfl, qn, hW8⟩
    have hd8 : Below V.heap.size V (V.drewN qn) := bDrewN (Below.refl _ _) qn
    have hg8 := setCells_grown G ((((rowL N r L).take N).reverse).map (Value.int .i64)) (r * N) (V.drewN qn)
    rw [← hW8] at hg8
    have hR8 : RI W8 G (.slice (some ⟨G, 0, none⟩) M cap) (mirL N (r + 1) L) := by rw [hW8]; exact HR.out.turn HLM.out.2.2.2.1 HRN.out
    have h7 := H7.out
    have hz := HBB.out
    have hI8 : Hd w (MC B N D (.slice (some ⟨G, 0, none⟩) M cap)) W8 := by
      have h1 := HI.out.on hd8
      refine h1.same ((h1.below).grown hg8 (by have := h1.below.size; omega) (fun j hj => by simp only [Option.some.injEq] at hj; omega)) (fun p hp => hg8.block _ (h1.lt hp) (fun e => ?_))
      simp only [Option.some.injEq] at e
      have := MC.lt p hp
      omega
    have hK8 : KeepsFrom w7.heap.size V W8 := (KeepsFrom.of_grownBy (grown_below hd8 none) (fun j e => by cases e)).trans (KeepsFrom.of_grownBy hg8 (fun j e => by simp only [Option.some.injEq] at e; omega))
    have hKK : Keep (CK C) 0 (w7.heap.size + 2) V W8 := (Keep.below hd8 (fun j hj => by have := HSZ.out; rcases hj with rfl | rfl <;> omega)).trans (Keep.of_grown hg8 (fun j hj => by have := HSZ.out; have := hd8.size; rcases hj with rfl | rfl <;> omega) (fun j e => by simp only [Option.some.injEq] at e; exact ⟨by omega, by rintro (h | h) <;> omega⟩))
    have HFI : Kp (KeepsFrom w7.heap.size V W8 ∧ Keep (CK C) 0 (w7.heap.size + 2) V W8 ∧ Hd w (MC B N D (.slice (some ⟨G, 0, none⟩) M cap)) W8 ∧ RI W8 G (.slice (some ⟨G, 0, none⟩) M cap) (mirL N (pre ++ [r]).length L)) := ⟨hK8, hKK, hI8, by rw [HLE.out]; exact hR8⟩
    clear hd8 hg8 hR8 h7 hz hI8 hK8 hKK hW8
    gi_wp2
    exact HFI.out
  case done =>
    rintro DD V hD ⟨hi, hr⟩ hd
    rw [List.length_range] at hr
    have HC6 := hi.cells
    simp only [MC, List.mem_cons, List.not_mem_nil, or_false, forall_eq_or_imp, forall_eq] at HC6
    obtain ⟨⟨q0, z0⟩, ⟨q1, z1⟩, ⟨q2, z2⟩, ⟨r0, y0⟩, ⟨r1, y1⟩, r2, y2⟩ := HC6
    have h7 := H7.out
    have hz := HBB.out
    obtain ⟨W9, hW9⟩ : ∃ W9, ((V.setCell ⟨B + 1, 0, none⟩ (.int .i64 N)).setCell ⟨B + 1, 1, none⟩ (.int .i64 D)).setCell ⟨B + 1, 2, none⟩ (.slice (some ⟨G, 0, none⟩) M cap) = W9 := ⟨_, rfl⟩
    have hi9 : Hd w [(B + 1, 0, .int .i64 N), (B + 1, 1, .int .i64 D), (B + 1, 2, .slice (some ⟨G, 0, none⟩) M cap)] W9 := by
      subst hW9
      refine ⟨((hi.below.setCell (by simp only; omega) _).setCell (by simp only; omega) _).setCell (by simp only; omega) _, fun p hp => ?_⟩
      simp only [List.mem_cons, List.not_mem_nil, or_false] at hp
      rcases hp with rfl | rfl | rfl <;> exact ⟨by simp [go_sem, *], by simp [go_sem, *]⟩
    have hr9 : RI W9 G (.slice (some ⟨G, 0, none⟩) M cap) (mirL N D L) := by
      subst hW9
      exact ((hr.away (by omega) 0 _).away (by omega) 1 _).away (by omega) 2 _
    have hd9 : W9.heap[DD]? = some (.deferred (some [])) := by
      subst hW9
      rw [Below.heap_setCell _ _ _ _ (by simp only; omega), Below.heap_setCell _ _ _ _ (by simp only; omega), Below.heap_setCell _ _ _ _ (by simp only; omega)]
      exact hd
    have HI9 := Kp.mk hi9
    have HR9 := Kp.mk hr9
    have HD9 := Kp.mk hd9
    have HDD := Kp.mk hD
    clear hi hr hd hi9 hr9 hd9 h7 hz hD
    gi_wp2
    try simp only [Exit.noGoto_ret]
    try rw [hW9]
    clear hW9 q0 q1 q2 r0 r1 r2 z0 z1 z2 y0 y1 y2
    have hgr := grownBy_putObj' W9 DD (.deferred none)
    have h7 := H7.out
    have hz := HBB.out
    have hdd := HDD.out
    have hi2 := Hd.turns (k := 0) (B := C) (by omega) (fun p hp => .inl (by simp only [List.mem_cons, List.not_mem_nil, or_false] at hp; rcases hp with rfl | rfl | rfl <;> simp only <;> omega)) _ _ (some DD) HI9.out hgr (fun r e => by cases e; exact ⟨by omega, .inr ⟨_, HD9.out, rfl⟩⟩)
    have hr2 := RI.turns (G := G) (C := C) (by omega) (by rw [mirL_len, HLM.out.1]; exact HLM.out.2.2.2.2) _ _ (some DD) HR9.out hgr (fun r e => by cases e; exact ⟨by omega, .inr ⟨_, HD9.out, rfl⟩⟩)
    have HC9 := hi2.cells
    simp only [List.mem_cons, List.not_mem_nil, or_false, forall_eq_or_imp, forall_eq] at HC9
    obtain ⟨⟨t0, -⟩, ⟨t1, -⟩, t2, -⟩ := HC9
    refine ⟨by simp, .inl ⟨_, _, rfl, run_takeDeferred HD9.out, ?_⟩⟩
    exact ⟨.tuple #[.agg #[.int .i64 N, .int .i64 D, .slice (some ⟨G, 0, none⟩) M cap], .int .i64 0], by simp [results, Try.results23, go_sem, t0, t1, t2], ⟨⟨_, G, rfl, hr2⟩, hi2.below⟩⟩
  case stop =>
    rintro DD cd ys V hD hys hx hd
    exact hx.elim
end Go.Proofs.Ytjnggchljilooaa.Sc
