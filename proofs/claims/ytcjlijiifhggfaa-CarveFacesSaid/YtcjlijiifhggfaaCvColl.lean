/-
  WALKS (layer 5, carve): the grains that are there, collected.
-/
import Derived.Test.YtcjlijiifhggfaaCvOwnG
namespace Go.Proofs.Ytcjlijiifhggfaa.Cv
open Go Go.RowKit Go.Sort
attribute [local go_sem] Oper.semAt_some

/-- A turn of a block of cells behind the first m from n on. -/
theorem Keep.of_row {S : Nat → Prop} {m n : Nat} {A B : World} {row : Option Nat} (h : A.grownBy B row) (hA : ∀ k, S k → k < A.heap.size) (hr : ∀ r, row = some r → n + m ≤ r ∧ ¬ S r ∧ ∃ o : Obj, A.heap[r]? = some o ∧ o.isCells = true) : Keep S m n A B :=
  have hb : ∀ k o, row ≠ some k → A.heap[k]? = some o → B.heap[k]? = some o := fun k _ hk ho => (h.block k (Array.getElem?_eq_some_iff.1 ho).1 (fun e => hk e.symm)).trans ho
  ⟨h.size, fun k hk => h.block k (hA k hk) (fun e => (hr k e.symm).2.1 hk), fun k o _ ho hc => hb k o (fun e => by
    obtain ⟨-, -, p, hp, hpc⟩ := hr k e
    rw [hp] at ho
    cases ho
    rw [hpc] at hc
    cases hc) ho, fun k o _ hm ho => hb k o (fun e => by have := (hr k e).1; omega) ho⟩
theorem OwnG.block {W : World} {B0 : Nat} {v : Value} {l : List Gr} (h : OwnG W B0 v l) {j : Nat} (e : v.ownBlock = some j) : B0 ≤ j ∧ j < W.heap.size ∧ ∃ o : Obj, W.heap[j]? = some o ∧ o.isCells = true := by
  rcases h.2 with ⟨hv, -⟩ | ⟨g, cap, cur, hv, hgB, hh, -⟩
  · subst hv; cases e
  · subst hv
    simp [Value.ownBlock] at e
    subst e
    exact ⟨hgB, (Array.getElem?_eq_some_iff.1 hh).1, _, hh, rfl⟩
def CI (w : World) (Z : Nat) (l : List Gr) (V : World) : Prop := Below w.heap.size w V ∧ ∃ u, V.cell? ⟨Z, 0, none⟩ = some u ∧ (∀ j, V.frozen? ⟨Z, j, none⟩ = false) ∧ OwnG V (Z + 5) u l
theorem CI.on {w V X : World} {Z : Nat} {l : List Gr} (h : CI w Z l V) (hb : Below V.heap.size V X) : CI w Z l X := by
  obtain ⟨h1, u, h2, h3, h4⟩ := h
  have hz := World.block_lt_of_cell? _ _ h2
  exact ⟨h1.trans (hb.mono h1.size), u, (hb.cell (p := ⟨Z, 0, none⟩) hz).trans h2, fun j => (World.frozen?_of_block (a := ⟨Z, j, none⟩) (hb.block _ hz)).trans (h3 j), h4.on hb⟩
theorem CI.turns {w : World} {Z C : Nat} {l : List Gr} (hC : w.heap.size ≤ C) (hz : Z < C) : Turns 0 C (CI w Z l) := by
  intro X Y row ⟨h1, u, h2, h3, h4⟩ g hr
  have eZ : Y.heap[Z]? = X.heap[Z]? := g.block Z (World.block_lt_of_cell? _ _ h2) (fun e => by have := (hr Z e.symm).1; omega)
  refine ⟨⟨g.os.trans h1.os, g.tape.trans h1.tape, g.output.trans h1.output, Nat.le_trans h1.size g.size, fun j hj => ?_⟩, u, (World.cell?_of_block (a := ⟨Z, 0, none⟩) eZ).trans h2, fun j => (World.frozen?_of_block (a := ⟨Z, j, none⟩) eZ).trans (h3 j), ?_⟩
  · exact (g.block j (Nat.lt_of_lt_of_le hj h1.size) (fun e => by have := (hr j e.symm).1; omega)).trans (h1.block j hj)
  · refine World.ownsRow.kept h4 g ?_
    cases e : u.ownBlock with
    | none => exact .inl rfl
    | some j =>
      refine .inr (fun e2 => ?_)
      obtain ⟨-, -, o, ho, hc⟩ := h4.block e
      obtain ⟨-, h5 | ⟨p, hp, hpc⟩⟩ := hr j e2.symm
      · have := (hr j e2.symm).1
        omega
      · rw [ho] at hp
        cases hp
        rw [hc] at hpc
        cases hpc
/-- A round: one grain more. -/
theorem ci_next {w V : World} {Z : Nat} {l : List Gr} {x : Gr} (h : CI w Z l V) (hw : w.heap.size ≤ Z) (hn : l.length ≤ 100000) (hV : Z + 4 ≤ V.heap.size) :
    ∃ g0 c0 g c W', V.cell? ⟨Z, 0, none⟩ = some (.slice g0 l.length c0) ∧ (Builtin.append_ #[39, 39] 39 #[.slice g0 l.length c0, .slice (some ⟨V.heap.size, 0, none⟩) 1 1]).run Try.prog (V.alloc (.cells #[.int .i64 x.x, .int .i64 x.y, .int .i64 x.z] 48)) = .ok (.slice g (l.length + 1) c) W' ∧ (∃ v, W'.cell? ⟨Z, 0, none⟩ = some v) ∧ (∀ j, W'.frozen? ⟨Z, j, none⟩ = false) ∧
    CI w Z (l ++ [x]) (W'.setCell ⟨Z, 0, none⟩ (.slice g (l.length + 1) c)) ∧ (∀ (S : Nat → Prop) m n, n + m ≤ Z + 5 → Z < n → ¬ S Z → (∀ k, S k → k < w.heap.size) → Keep S m n V (W'.setCell ⟨Z, 0, none⟩ (.slice g (l.length + 1) c))) := by
  obtain ⟨h1, u, h2, h3, h4⟩ := h
  obtain ⟨g0, c0, rfl⟩ := h4.gs.shape
  have hzV := World.block_lt_of_cell? _ _ h2
  have hb : Below V.heap.size V (V.alloc (.cells #[.int .i64 x.x, .int .i64 x.y, .int .i64 x.z] 48)) := (Below.refl _ _).alloc (Nat.le_refl _) _
  have hX : GrAt (V.alloc (.cells #[.int .i64 x.x, .int .i64 x.y, .int .i64 x.z] 48)) V.heap.size x := ⟨by go_simp, by go_simp, by go_simp⟩
  have ho := h4.on hb
  obtain ⟨g, c, W', hrun, hown, hgr, hat⟩ := ho.next hX hn (by rw [World.size_alloc]; omega)
  have eZ : W'.heap[Z]? = V.heap[Z]? := (hgr.block Z (by rw [World.size_alloc]; omega) (fun e => by have := (ho.block e.symm).1; omega)).trans (hb.block Z hzV)
  have hc : W'.cell? ⟨Z, 0, none⟩ = some (.slice g0 l.length c0) := (World.cell?_of_block (a := ⟨Z, 0, none⟩) eZ).trans h2
  have hf : ∀ j, W'.frozen? ⟨Z, j, none⟩ = false := fun j => (World.frozen?_of_block (a := ⟨Z, j, none⟩) eZ).trans (h3 j)
  have hB : Below w.heap.size w W' := (h1.trans (hb.mono h1.size)).grown hgr (by have := h1.size; rw [World.size_alloc]; omega) (fun j hj => by have := (ho.block hj).1; omega)
  refine ⟨g0, c0, g, c, W', h2, hrun, ⟨_, hc⟩, hf, ⟨hB.setCell (by simp only; omega) _, .slice g (l.length + 1) c, by simp [go_sem, hc], fun j => by simp [go_sem, hf], ?_⟩, ?_⟩
  · refine World.ownsRow.kept (row := some Z) hown (setCell_grown _ _ _ _) ?_
    cases e : (Value.slice g (l.length + 1) c).ownBlock with
    | none => exact .inl rfl
    | some j => exact .inr (fun e2 => by have := (hown.block e).1; simp only [Option.some.injEq] at e2; omega)
  · intro S m n hm hZn hS hSw
    have k1 : Keep S m n V (V.alloc (.cells #[.int .i64 x.x, .int .i64 x.y, .int .i64 x.z] 48)) := Keep.below hb (fun k hk => Nat.lt_of_lt_of_le (hSw k hk) h1.size)
    have k2 : Keep S m n (V.alloc (.cells #[.int .i64 x.x, .int .i64 x.y, .int .i64 x.z] 48)) W' := Keep.of_row hgr (fun k hk => by have := h1.size; have := hSw k hk; rw [World.size_alloc]; omega) (fun r e => by
      obtain ⟨a1, -, a3⟩ := ho.block e
      exact ⟨by omega, fun hSr => by have := hSw r hSr; omega, a3⟩)
    have k3 : Keep S m n W' (W'.setCell ⟨Z, 0, none⟩ (.slice g (l.length + 1) c)) := Keep.of_grown (setCell_grown W' Z 0 _) (fun k hk => by have := hB.size; have := hSw k hk; omega) (fun r e => by
      simp only [Option.some.injEq] at e
      subst e
      exact ⟨hZn, hS⟩)
    exact (k1.trans k2).trans k3
attribute [-go_sem] Builtin.append_
set_option maxRecDepth 100000 in
set_option maxHeartbeats 2000000 in
theorem append_any (B H o c s : Nat) (h : List Bool) (w : World) (hs : 1 ≤ s) (hs2 : s ≤ 10) (hl : h.length = s * s * s) (hk : BK B H o c s h w) :
    Calls Try.prog 84 #[.slice none 0 0, .func (.func 79) #[] #[.pointer (some ⟨B, 0, none⟩)]] w fun e w' => ∃ u, e = .returned u ∧ (∃ B0, w.heap.size ≤ B0 ∧ OwnG w' B0 u (grainsL s h)) ∧ Below w.heap.size w w' := by
  refine (callsIn_wide (n := 6)).1 ?_
  refine callsIn_of_wp_marks Try.func84 rfl trivial ?_ rfl
  simp only [Try.ntmps84, List.size_toArray, List.length_cons, List.length_nil, Nat.reduceAdd, Nat.reduceSub, Array.replicate_succ, Array.replicate_zero, List.push_toArray, List.append_toArray, List.nil_append, List.cons_append]
  have q0 : (w.alloc (.cells #[.slice none 0 0] 39)).cell? ⟨w.heap.size, 0, none⟩ = some (.slice none 0 0) := by go_simp
  have q1 : ∀ j, (w.alloc (.cells #[.slice none 0 0] 39)).frozen? ⟨w.heap.size, j, none⟩ = false := fun j => by go_simp
  obtain ⟨Z, hZ⟩ : ∃ Z, w.heap.size = Z := ⟨_, rfl⟩
  have HZ := Kp.mk hZ
  rw [hZ] at q0 q1
  have HLT : Kp (B < Z ∧ H < Z) := ⟨by have := hk.ltB; have := hk.ltH; omega⟩
  have HLEN : Kp ((grainsL s h).length ≤ 1000) := ⟨by
    unfold grainsL
    refine Nat.le_trans (List.length_filter_le _ _) ?_
    rw [places_len]
    exact (cube_bd hs2).2⟩
  obtain ⟨W0, hW0⟩ : ∃ W0, w.alloc (.cells #[.slice none 0 0] 39) = W0 := ⟨_, rfl⟩
  have hb0 : Below w.heap.size w W0 := by rw [← hW0]; exact (Below.refl _ _).alloc (Nat.le_refl _) _
  have HS0 : Kp (W0.heap.size = Z + 1) := ⟨by rw [← hW0, World.size_alloc, hZ]⟩
  have HK0 : Kp (BK B H o c s h W0) := ⟨hk.on hb0⟩
  have HI0 : Kp (CI w Z [] W0) := ⟨hb0, .slice none 0 0, by rw [← hW0]; exact q0, fun j => by rw [← hW0]; exact q1 j, OwnG.nil _ _⟩
  clear q0 q1
  gi_wp2_with fail
  try simp only [hW0, hZ]
  clear hW0 hb0 hk hZ
  refine wpIn_yieldsS (k := 0) (enc := encG) (xs := grainsL s h) rfl (by omega) (gf := 79) (lb := #[.pointer (some ⟨B, 0, none⟩)]) rfl trivial (enters_of Try.func79 (by kernel_rfl) rfl) (fun _ => rfl)
    (grains_yields 5 (by omega) B H o c s h hs hs2 hl W0 HK0.out) Keep.trans (fun V o o' _ _ _ => Keep.putObj (by omega) (by have := HS0.out; have := HLT.out; rintro (e | e) <;> omega))
    (fun pre V => CI w Z pre V)
    (fun _ _ _ => False)
    (fun p => Turns.abides (C := Z + 1) (CI.turns (by have := HZ.out; omega) (by omega)) (by have := HS0.out; omega)) (fun _ _ => Turns.abides (C := Z) turns_const (by have := HS0.out; omega))
    HI0.out
    (fun pre x a' V => CI w Z pre V ∧ ∃ G, Z + 3 ≤ G ∧ GrAt V G x ∧ a' = { tmps := #[.slice none 0 0, .func (.func 79) #[] #[.pointer (some ⟨B, 0, none⟩)], .pointer (some ⟨Z, 0, none⟩), undef, .slice none 0 0, .pointer (some ⟨G, 0, none⟩), .func (.func 79) #[] #[.pointer (some ⟨B, 0, none⟩)], .agg #[.int .i64 x.x, .int .i64 x.y, .int .i64 x.z], undef, undef, undef, undef, undef], defers := [] })
    ?ax ?assign ?body ?done ?stop
  case ax =>
    rintro pre x a' X V row ⟨hi, G, hG, hx, ha⟩ g hr
    exact ⟨Turns.abides (C := Z + 1) (CI.turns (by have := HZ.out; omega) (by omega)) (by have := HS0.out; omega) X V row hi g hr, G, hG, GrAt.abide hx g hr (by have := HS0.out; omega), ha⟩
  case assign =>
    rintro l2 pre ⟨gx, gy, gz⟩ V hi _ hsz
    have HI := Kp.mk hi
    clear hi
    have ez : ((#[7] : Array Tmp).zip (encG ⟨gx, gy, gz⟩)).foldl (fun tmps (q : Tmp × Value) => tmps.setIfInBounds q.1 q.2) #[.slice none 0 0, .func (.func 79) #[] #[.pointer (some ⟨B, 0, none⟩)], .pointer (some ⟨Z, 0, none⟩), undef, .slice none 0 0, undef, .func (.func 79) #[] #[.pointer (some ⟨B, 0, none⟩)], undef, undef, undef, undef, undef, undef] = #[.slice none 0 0, .func (.func 79) #[] #[.pointer (some ⟨B, 0, none⟩)], .pointer (some ⟨Z, 0, none⟩), undef, .slice none 0 0, undef, .func (.func 79) #[] #[.pointer (some ⟨B, 0, none⟩)], .agg #[.int .i64 gx, .int .i64 gy, .int .i64 gz], undef, undef, undef, undef, undef] := by simp [encG]
    rw [ez]
    clear ez
    gi_wp2
    have hzv : Z + 3 ≤ V.heap.size := by have := HS0.out; omega
    have hbb : Below V.heap.size V (V.alloc (.cells #[.int .i64 gx, .int .i64 gy, .int .i64 gz] 48)) := (Below.refl _ _).alloc (Nat.le_refl _) _
    exact ⟨alloc_keeps _ _ _, Keep.below hbb (fun j hj => by have := HS0.out; have := HLT.out; rcases hj with rfl | rfl <;> omega), HI.out.on hbb, V.heap.size, hzv, ⟨by go_simp, by go_simp, by go_simp⟩, rfl⟩
  case body =>
    rintro l2 pre x a' V ⟨hi, G, hG, hgr, rfl⟩ hpre hsz
    have hpl : pre.length ≤ 100000 := by
      have h2 := hpre.length_le
      have := HLEN.out
      rw [List.length_append] at h2
      omega
    have HSZ : Kp (W0.heap.size = Z + 1 ∧ W0.heap.size + 2 ≤ V.heap.size) := ⟨HS0.out, by omega⟩
    have hGV := World.block_lt_of_cell? _ _ hgr.c0
    have HR := ci_next (x := x) hi (by have := HZ.out; omega) hpl (by simp only at hGV; omega)
    obtain ⟨g0, c0, g2, cc, W', hcu, hrun, ⟨vz, hcz⟩, hfz, hci, hkeep⟩ := HR
    have HCI := Kp.mk hci
    have HKP := Lib.hid hkeep
    have hfz0 := hfz 0
    obtain ⟨gx, gy, gz⟩ := x
    obtain ⟨d0, d1, d2⟩ := hgr
    simp only at d0 d1 d2 hrun
    obtain ⟨m, hm⟩ : ∃ m, pre.length = m := ⟨_, rfl⟩
    rw [hm] at hcu hrun HCI HKP
    clear hci hkeep hfz hi hpre hm hpl
    gi_wp2
    exact ⟨(HKP.out (SB B H) 0 W0.heap.size (by have := HSZ.out; omega) (by have := HSZ.out; omega) (by have := HLT.out; rintro (e | e) <;> omega) (fun j hj => by have := HLT.out; have := HZ.out; rcases hj with rfl | rfl <;> omega)).from, HKP.out (SB B H) 2 (W0.heap.size + 2) (by have := HSZ.out; omega) (by have := HSZ.out; omega) (by have := HLT.out; rintro (e | e) <;> omega) (fun j hj => by have := HLT.out; have := HZ.out; rcases hj with rfl | rfl <;> omega), HCI.out⟩
  case done =>
    rintro D V hD hi hd
    have hgb := grownBy_putObj' V D (.deferred none)
    have hi2 := CI.turns (C := Z + 1) (by have := HZ.out; omega) (by omega) _ _ (some D) hi hgb (fun r e => by cases e; exact ⟨by have := HS0.out; omega, .inr ⟨_, hd, rfl⟩⟩)
    have HD2 := Kp.mk hd
    obtain ⟨-, u, hcu, -, -⟩ := hi
    obtain ⟨hbl, u2, hcu2, -, ho2⟩ := hi2
    have hu : u2 = u := by
      rw [World.cell?_of_block (a := ⟨Z, 0, none⟩) (World.putObj_heap_other (show Z ≠ D by have := HS0.out; omega)), hcu] at hcu2
      exact (Option.some.inj hcu2).symm
    subst hu
    have HO2 := Kp.mk ho2
    have HBL := Kp.mk hbl
    clear hd hgb ho2 hbl
    gi_wp2
    refine ⟨by simp, .inl ⟨_, _, rfl, run_takeDeferred HD2.out, ?_⟩⟩
    refine ⟨u2, by simp [results, Try.results84, go_sem], u2, rfl, ⟨Z + 5, by have := HZ.out; omega, HO2.out⟩, HBL.out⟩
  case stop =>
    rintro D cd ys V hD hys hi hd
    exact hi.elim
end Go.Proofs.Ytcjlijiifhggfaa.Cv
