/-
  WALKS (layer 5, carve): the sizes of the pieces of a block of two grains that are no neighbours.
-/
import Derived.Test.YtcjlijiifhggfaaCvPieces1
import Derived.Test.YtcjlijiifhggfaaCvSortF
namespace Go.Proofs.Ytcjlijiifhggfaa.Cv
open Go Go.RowKit Go.Sort
attribute [local go_sem] Oper.semAt_some

def ones (n : Nat) : List Int := List.replicate n 1
theorem ones_len (n : Nat) : (ones n).length = n := List.length_replicate
theorem ones_succ (n : Nat) : ones n ++ [1] = ones (n + 1) := by
  unfold ones
  exact (List.replicate_succ' (n := n) (a := (1 : Int))).symm
theorem OwnI.block {W : World} {B0 j : Nat} {v : Value} {l : List Int} (h : OwnI W B0 v l) (e : v.ownBlock = some j) : B0 ≤ j ∧ j < W.heap.size ∧ ∃ o, W.heap[j]? = some o ∧ o.isCells = true := by
  rcases h.2 with ⟨hv, -⟩ | ⟨g, cap, cur, hv, hgB, hh, -⟩
  · subst hv; cases e
  · subst hv
    simp [Value.ownBlock] at e
    subst e
    exact ⟨hgB, (Array.getElem?_eq_some_iff.1 hh).1, _, hh, rfl⟩
/-- What the loop keeps: the sizes so far, in a row of its own. -/
def SI (w : World) (Z n : Nat) (V : World) : Prop := Below w.heap.size w V ∧ ∃ u, V.cell? ⟨Z, 0, none⟩ = some u ∧ (∀ j, V.frozen? ⟨Z, j, none⟩ = false) ∧ OwnI V (Z + 12) u (ones n)
theorem SI.abides {w : World} {Z n : Nat} (hw : w.heap.size ≤ Z) : Abides 7 (Z + 2) (SI w Z n) := by
  intro X Y row ⟨h1, u, h2, h3, h4⟩ g hr
  have eZ : Y.heap[Z]? = X.heap[Z]? := g.block Z (World.block_lt_of_cell? _ _ h2) (fun e => by have := (hr Z e.symm).1; omega)
  refine ⟨⟨g.os.trans h1.os, g.tape.trans h1.tape, g.output.trans h1.output, Nat.le_trans h1.size g.size, fun j hj => ?_⟩, u, (World.cell?_of_block (a := ⟨Z, 0, none⟩) eZ).trans h2, fun j => (World.frozen?_of_block (a := ⟨Z, j, none⟩) eZ).trans (h3 j), ?_⟩
  · exact (g.block j (Nat.lt_of_lt_of_le hj h1.size) (fun e => by have := (hr j e.symm).1; omega)).trans (h1.block j hj)
  · refine World.ownsRow.kept h4 g ?_
    cases e : u.ownBlock with
    | none => exact .inl rfl
    | some j =>
      refine .inr (fun e2 => ?_)
      obtain ⟨h0, -, o, ho, hc⟩ := h4.block e
      obtain ⟨-, h5 | ⟨p, hp, hpc⟩⟩ := hr j e2.symm
      · omega
      · rw [ho] at hp
        cases hp
        rw [hc] at hpc
        cases hpc
/-- A round: one size more. -/
theorem si_next {w V : World} {Z n : Nat} (h : SI w Z n V) (hw : w.heap.size ≤ Z) (hn : n ≤ 1000) (hV : Z + 11 ≤ V.heap.size) :
    ∃ g0 c0 g c W', V.cell? ⟨Z, 0, none⟩ = some (.slice g0 n c0) ∧ (Builtin.append_ #[27, 27] 27 #[.slice g0 n c0, .slice (some ⟨V.heap.size, 0, none⟩) 1 1]).run Try.prog (V.alloc (.cells #[.int .i64 1] 3)) = .ok (.slice g (n + 1) c) W' ∧ (∃ v, W'.cell? ⟨Z, 0, none⟩ = some v) ∧ (∀ j, W'.frozen? ⟨Z, j, none⟩ = false) ∧
    SI w Z (n + 1) (W'.setCell ⟨Z, 0, none⟩ (.slice g (n + 1) c)) ∧ (∀ (S : Nat → Prop) m k, k + m ≤ Z + 12 → Z < k → ¬ S Z → (∀ j, S j → j < Z + 12 ∧ j < V.heap.size) → Keep S m k V (W'.setCell ⟨Z, 0, none⟩ (.slice g (n + 1) c))) := by
  obtain ⟨h1, u, h2, h3, h4⟩ := h
  obtain ⟨g0, c0, rfl⟩ := h4.shape
  rw [ones_len] at h2 h4
  have hzV := World.block_lt_of_cell? _ _ h2
  have hb : Below V.heap.size V (V.alloc (.cells #[.int .i64 1] 3)) := (Below.refl _ _).alloc (Nat.le_refl _) _
  have ho := h4.on hb
  obtain ⟨g, c, W', hrun, hown, hgr, hat⟩ := ho.next (Y := V.heap.size) (x := 1) (by go_simp) (by rw [ones_len]; omega) (by rw [World.size_alloc]; omega)
  rw [ones_len] at hrun hown
  rw [ones_succ] at hown
  have eZ : W'.heap[Z]? = V.heap[Z]? := (hgr.block Z (by rw [World.size_alloc]; omega) (fun e => by have := (ho.block e.symm).1; omega)).trans (hb.block Z hzV)
  have hc : W'.cell? ⟨Z, 0, none⟩ = some (.slice g0 n c0) := (World.cell?_of_block (a := ⟨Z, 0, none⟩) eZ).trans h2
  have hf : ∀ j, W'.frozen? ⟨Z, j, none⟩ = false := fun j => (World.frozen?_of_block (a := ⟨Z, j, none⟩) eZ).trans (h3 j)
  have hB : Below w.heap.size w W' := (h1.trans (hb.mono h1.size)).grown hgr (by have := h1.size; rw [World.size_alloc]; omega) (fun j hj => by have := (ho.block hj).1; omega)
  refine ⟨g0, c0, g, c, W', h2, hrun, ⟨_, hc⟩, hf, ⟨hB.setCell (by simp only; omega) _, .slice g (n + 1) c, by simp [go_sem, hc], fun j => by simp [go_sem, hf], ?_⟩, ?_⟩
  · refine World.ownsRow.kept (row := some Z) hown (setCell_grown _ _ _ _) ?_
    cases e : (Value.slice g (n + 1) c).ownBlock with
    | none => exact .inl rfl
    | some j => exact .inr (fun e2 => by have := (OwnI.block hown e).1; simp only [Option.some.injEq] at e2; omega)
  · intro S m k hm hZn hS hSw
    have k1 : Keep S m k V (V.alloc (.cells #[.int .i64 1] 3)) := Keep.below hb (fun j hj => (hSw j hj).2)
    have k2 : Keep S m k (V.alloc (.cells #[.int .i64 1] 3)) W' := Keep.of_row hgr (fun j hj => by have := (hSw j hj).2; rw [World.size_alloc]; omega) (fun r e => by
      obtain ⟨a1, -, a3⟩ := ho.block e
      exact ⟨by omega, fun hSr => by have := (hSw r hSr).1; omega, a3⟩)
    have k3 : Keep S m k W' (W'.setCell ⟨Z, 0, none⟩ (.slice g (n + 1) c)) := Keep.of_grown (setCell_grown W' Z 0 _) (fun j hj => by have := (hSw j hj).2; have := hgr.size; rw [World.size_alloc] at this; omega) (fun r e => by
      simp only [Option.some.injEq] at e
      subst e
      exact ⟨hZn, hS⟩)
    exact (k1.trans k2).trans k3
theorem sizes_start {B H o c s : Nat} {h : List Bool} {w w1 W0 : World} {t t' : TypeId} (hb : Below w.heap.size w w1) (hk : BK B H o c s h w1) (h0 : (w1.alloc (.cells #[.slice none 0 0] t)).alloc (.cells #[.int .i64 s, .slice (some ⟨H, o, none⟩) h.length c] t') = W0) :
    W0.heap.size = w1.heap.size + 2 ∧ BK (w1.heap.size + 1) H o c s h W0 ∧ SI w w1.heap.size 0 W0 := by
  subst h0
  have b1 : Below w1.heap.size w1 (w1.alloc (.cells #[.slice none 0 0] t)) := (Below.refl _ _).alloc (Nat.le_refl _) _
  have k2 := (hk.on b1).copy (t := t')
  rw [World.size_alloc] at k2
  exact ⟨by simp, k2, (hb.alloc hb.size _).alloc (by simp; have := hb.size; omega) _, _, by go_simp, fun j => by go_simp, OwnI.nil _ _⟩
attribute [-go_sem] Builtin.append_
set_option maxRecDepth 100000 in
set_option maxHeartbeats 2000000 in
theorem Pieces_bk (H o c s : Nat) (h : List Bool) (w : World) (hs : 1 ≤ s) (hs2 : s ≤ 10) (hl : h.length = s * s * s) (hlo : lone s h) (h2 : (grainsL s h).length = 2) (hv : LB w (.slice (some ⟨H, o, none⟩) h.length c) h) (hq : ∃ q, w.cell? ⟨H, o, none⟩ = some (.bool q)) :
    Calls Try.prog 9 #[.agg #[.int .i64 s, .slice (some ⟨H, o, none⟩) h.length c]] w fun e w' => ∃ u, e = .returned (.tuple #[u, .int .i64 0]) ∧ (∃ B0, OwnI w' B0 u [1, 1]) ∧ Below w.heap.size w w' := by
  have hb : blockB s h.length = true := by
    unfold blockB
    rw [side_iff.2 (by omega), decide_eq_true (by rw [hl, Int.natCast_mul, Int.natCast_mul])]; rfl
  have HB : Kp (∀ W, Calls Try.prog 32 #[.agg #[.int .i64 s, .slice (some ⟨H, o, none⟩) h.length c]] W fun e w' => e = .returned (.bool true) ∧ Below W.heap.size W w') := ⟨fun W => hb ▸ ValidBlock_any s (some ⟨H, o, none⟩) h.length c W⟩
  have HLN := Kp.mk hl
  have HLO := Kp.mk hlo
  have HV := Kp.mk hv
  have HQ := Kp.mk hq
  have HH2 := Kp.mk h2
  have HHL : Kp (H < w.heap.size) := ⟨by obtain ⟨q, hq⟩ := hq; exact World.block_lt_of_cell? _ _ hq⟩
  clear hl hv hb hq hlo h2
  refine (callsIn_wide (n := 7)).1 ?_
  refine callsIn_of_wp_marks Try.func9 rfl trivial ?_ rfl
  simp only [Try.ntmps9, List.size_toArray, List.length_cons, List.length_nil, Nat.reduceAdd, Nat.reduceSub, Array.replicate_succ, Array.replicate_zero, List.push_toArray, List.append_toArray, List.nil_append, List.cons_append]
  gi_wp2_with fail
  refine ⟨trivial, (callsIn_wide.2 (HB.out _)).mono ?_⟩
  rintro en w1 ⟨rfl, hb1⟩
  have HB1 : Kp (Below w.heap.size w w1) := ⟨Below.trans (by repeat (first | refine Below.alloc ?_ (by (try simp) <;> omega) _ | refine bDrewN ?_ _ | refine Below.drew ?_ | refine Below.setCell ?_ (by (try simp) <;> omega) _ | exact Below.refl _ _)) (hb1.mono (by (try simp) <;> omega))⟩
  have hz1_0 : w.heap.size < w1.heap.size := by have := hb1.size; (try simp at this); omega
  obtain ⟨hc, hf⟩ := bcell hb1
  have c1_0_0 : w1.cell? ⟨w.heap.size, 0, none⟩ = some (.int .i64 s) := (hc _ _ (by (try simp) <;> omega)).trans (by go_simp)
  have c1_0_1 : w1.cell? ⟨w.heap.size, 1, none⟩ = some ((.slice (some ⟨H, o, none⟩) h.length c)) := (hc _ _ (by (try simp) <;> omega)).trans (by go_simp)
  have z1_0 : ∀ j, w1.frozen? ⟨w.heap.size, j, none⟩ = false := fun j => (hf _ _ (by (try simp) <;> omega)).trans (by go_simp)
  clear hc hf hb1
  have HK1 : Kp (BK w.heap.size H o c s h w1) := ⟨⟨c1_0_0, c1_0_1, HV.out.below HB1.out, by obtain ⟨q, hq⟩ := HQ.out; exact ⟨q, (HB1.out.cell (p := ⟨H, o, none⟩) HHL.out).trans hq⟩⟩⟩
  gi_wp2_with fail
  refine ⟨trivial, (callsIn_wide.2 (pieces_any _ _ _)).mono ?_⟩
  rintro en W0 ⟨rfl, hW0⟩
  obtain ⟨z0, k0, d0⟩ := sizes_start HB1.out HK1.out hW0
  rw [World.size_alloc] at *
  obtain ⟨Z, hZ⟩ : ∃ Z, w1.heap.size = Z := ⟨_, rfl⟩
  have HZ : Kp (W0.heap.size = Z + 2 ∧ w.heap.size < Z) := ⟨by rw [z0, hZ], by rw [← hZ]; exact hz1_0⟩
  rw [hZ] at k0 d0
  have HK0 := Kp.mk k0
  have HD0 := Kp.mk d0
  clear c1_0_0 c1_0_1 z1_0 hz1_0 z0 k0 d0 hW0
  gi_wp2
  try simp only [hZ]
  clear hZ
  refine wpIn_yieldsD (k := 7) (Enc := encP) (xs := grainsL s h) rfl (by omega) (gf := 65) (lb := #[.pointer (some ⟨Z + 1, 0, none⟩)]) rfl trivial (enters_of Try.func65 (by kernel_rfl) rfl) (fun _ _ _ hv => by obtain ⟨g, cp, rfl⟩ := hv; rfl)
    (pieces_yields 6 (by omega) (Z + 1) H o c s h hs hs2 HLN.out HLO.out W0 HK0.out) Keep.trans (fun V o o' _ _ _ => Keep.putObj (by omega) (by have := HZ.out; have := HHL.out; rintro (e | e) <;> omega))
    (fun pre V => SI w Z pre.length V)
    (fun _ _ _ => False)
    (fun q => by have := SI.abides (n := q.length) (show w.heap.size ≤ Z by have := HZ.out; omega); rw [← HZ.out.1] at this; exact this) (fun _ _ => fun _ _ _ hf _ _ => hf)
    HD0.out
    (fun pre x a' V => SI w Z pre.length V ∧ ∃ g cp, a' = { tmps := #[.agg #[.int .i64 s, .slice (some ⟨H, o, none⟩) h.length c], .pointer (some ⟨w.heap.size, 0, none⟩), .slice none 0 0, .int .i64 0, .pointer (some ⟨Z, 0, none⟩), .slice g 1 cp, .agg #[.int .i64 s, .slice (some ⟨H, o, none⟩) h.length c], .bool true, .bool false, .agg #[.int .i64 s, .slice (some ⟨H, o, none⟩) h.length c], .func (.func 65) #[] #[.pointer (some ⟨Z + 1, 0, none⟩)], .slice g 1 cp, undef, undef, undef, undef, undef, undef, undef, undef], defers := [] })
    ?ax ?assign ?body ?done ?stop
  case ax =>
    rintro pre x a' X V row ⟨hi, ha⟩ g hr
    have := SI.abides (n := pre.length) (show w.heap.size ≤ Z by have := HZ.out; omega)
    rw [← HZ.out.1] at this
    exact ⟨this X V row hi g hr, ha⟩
  case assign =>
    rintro l2 pre x v V hi ⟨g, cp, rfl⟩ _ hsz
    have HI := Kp.mk hi
    clear hi
    have ez : ((#[11] : Array Tmp).zip #[Value.slice g 1 cp]).foldl (fun tmps (q : Tmp × Value) => tmps.setIfInBounds q.1 q.2) #[.agg #[.int .i64 s, .slice (some ⟨H, o, none⟩) h.length c], .pointer (some ⟨w.heap.size, 0, none⟩), .slice none 0 0, .int .i64 0, .pointer (some ⟨Z, 0, none⟩), undef, .agg #[.int .i64 s, .slice (some ⟨H, o, none⟩) h.length c], .bool true, .bool false, .agg #[.int .i64 s, .slice (some ⟨H, o, none⟩) h.length c], .func (.func 65) #[] #[.pointer (some ⟨Z + 1, 0, none⟩)], undef, undef, undef, undef, undef, undef, undef, undef, undef] = #[.agg #[.int .i64 s, .slice (some ⟨H, o, none⟩) h.length c], .pointer (some ⟨w.heap.size, 0, none⟩), .slice none 0 0, .int .i64 0, .pointer (some ⟨Z, 0, none⟩), undef, .agg #[.int .i64 s, .slice (some ⟨H, o, none⟩) h.length c], .bool true, .bool false, .agg #[.int .i64 s, .slice (some ⟨H, o, none⟩) h.length c], .func (.func 65) #[] #[.pointer (some ⟨Z + 1, 0, none⟩)], .slice g 1 cp, undef, undef, undef, undef, undef, undef, undef, undef] := by simp
    rw [ez]
    clear ez
    gi_wp2
    exact ⟨KeepsFrom.refl _ _, Keep.refl _ _ _ _, HI.out, g, cp, rfl⟩
  case body =>
    rintro l2 pre x a' V ⟨hi, g, cp, rfl⟩ hpre hsz
    have hpl : pre.length ≤ 1000 := by
      have h2 := hpre.length_le
      have := HH2.out
      rw [List.length_append, List.length_singleton] at h2
      omega
    have HSZ : Kp (W0.heap.size = Z + 2 ∧ W0.heap.size + 2 + 7 ≤ V.heap.size ∧ w.heap.size < Z ∧ H < w.heap.size) := ⟨HZ.out.1, by omega, HZ.out.2, HHL.out⟩
    obtain ⟨g0, c0, g2, cc, W', hcu, hrun, ⟨vz, hcz⟩, hfz, hsi, hkeep⟩ := si_next hi (by have := HZ.out; omega) hpl (by have := HSZ.out; omega)
    have HSI := Kp.mk hsi
    have HKP := Lib.hid hkeep
    have hfz0 := hfz 0
    obtain ⟨m, hm⟩ : ∃ m, pre.length = m := ⟨_, rfl⟩
    have HM := Kp.mk hm
    rw [hm] at hcu hrun HSI HKP
    clear hsi hkeep hfz hi hpre hm hpl
    gi_wp2
    refine ⟨(HKP.out (SB (Z + 1) H) 0 W0.heap.size (by have := HSZ.out; omega) (by have := HSZ.out; omega) (by have := HSZ.out; rintro (e | e) <;> omega) (fun j hj => by have := HSZ.out; rcases hj with rfl | rfl <;> omega)).from, HKP.out (SB (Z + 1) H) 8 (W0.heap.size + 2) (by have := HSZ.out; omega) (by have := HSZ.out; omega) (by have := HSZ.out; rintro (e | e) <;> omega) (fun j hj => by have := HSZ.out; rcases hj with rfl | rfl <;> omega), ?_⟩
    show SI w Z (pre ++ [x]).length _
    rw [List.length_append, List.length_singleton, HM.out]
    exact HSI.out
  case done =>
    rintro D V hD hi hd
    have hi : SI w Z 2 V := by
      have h := hi
      simp only [HH2.out] at h
      exact h
    obtain ⟨hb, u, hcu, hzu, hown⟩ := hi
    have hown : OwnI V (Z + 12) u [1, 1] := hown
    have HS := Kp.mk (sort_two V (Z + 12) u hown)
    have HD2 := Kp.mk hd
    have HB := Kp.mk hb
    have HOB : Kp (∀ j, u.ownBlock = some j → Z + 12 ≤ j ∧ j ≠ D) := ⟨fun j hj => by
      obtain ⟨h1, -, o, ho, hc⟩ := hown.block hj
      refine ⟨h1, fun e => ?_⟩
      subst e
      rw [hd] at ho
      cases ho
      cases hc⟩
    have HCU := Kp.mk hcu
    clear hd hb hown
    gi_wp2_with fail
    refine ⟨trivial, (callsIn_wide.2 HS.out).mono ?_⟩
    rintro en V2 ⟨rfl, ho2, hg2⟩
    have hzl := World.block_lt_of_cell? _ _ HCU.out
    have hcu2 : V2.cell? ⟨Z, 0, none⟩ = some u := (World.cell?_of_block (a := ⟨Z, 0, none⟩) (hg2.block Z hzl (fun e => by have := (HOB.out Z e.symm).1; omega))).trans HCU.out
    have hdl := (Array.getElem?_eq_some_iff.1 HD2.out).1
    have hd2 : V2.heap[D]? = some (.deferred (some [])) := (hg2.block D hdl (fun e => (HOB.out D e.symm).2 rfl)).trans HD2.out
    have hb2 : Below w.heap.size w V2 := HB.out.grown hg2 HB.out.size (fun j hj => by have := (HOB.out j hj).1; have := HZ.out; omega)
    have hgb := grownBy_putObj' V2 D (.deferred none)
    have ho3 : OwnI (V2.putObj D (.deferred none)) (Z + 12) u [1, 1] := by
      refine World.ownsRow.kept ho2 hgb ?_
      cases e : u.ownBlock with
      | none => exact .inl rfl
      | some j => exact .inr (fun e2 => by simp only [Option.some.injEq] at e2; exact (HOB.out j e).2 e2)
    have HD3 := Kp.mk hd2
    have HO3 := Kp.mk ho3
    have HB3 : Kp (Below w.heap.size w (V2.putObj D (.deferred none))) := ⟨hb2.grown hgb hb2.size (fun j hj => by cases hj; have := HZ.out; omega)⟩
    clear ho2 hg2 hd2 hb2 hgb ho3 hdl hzl
    gi_wp2
    refine ⟨by simp, .inl ⟨_, _, rfl, run_takeDeferred HD3.out, ?_⟩⟩
    exact ⟨.tuple #[u, .int .i64 0], by simp [results, Try.results9, go_sem], u, rfl, ⟨_, HO3.out⟩, HB3.out⟩
  case stop =>
    rintro D cd ys V hD hys hi hd
    exact hi.elim
theorem Pieces_two (s : Nat) (u : Value) (h : List Bool) (w : World) (hu : LB w u h) (hs : 1 ≤ s) (hs2 : s ≤ 10) (hl : h.length = s * s * s) (hlo : lone s h) (h2 : (grainsL s h).length = 2) :
    Calls Try.prog 9 #[.agg #[.int .i64 s, u]] w fun e w' => ∃ v, e = .returned (.tuple #[v, .int .i64 0]) ∧ (∃ B0, OwnI w' B0 v [1, 1]) ∧ Below w.heap.size w w' := by
  obtain ⟨g1, c1, rfl⟩ := hu.shape
  have h0 : 0 < h.length := by
    rw [hl]
    exact Nat.mul_pos (Nat.mul_pos (by omega) (by omega)) (by omega)
  obtain ⟨H, o, rfl, q, hq⟩ : ∃ H o, g1 = some ⟨H, o, none⟩ ∧ ∃ q, w.cell? ⟨H, o, none⟩ = some (.bool q) := by
    obtain ⟨g, c, e, -, hi⟩ := hu
    obtain ⟨b, o, hg, -, hc⟩ := hi 0 _ (List.getElem?_eq_getElem h0)
    simp only [Value.slice.injEq] at e
    exact ⟨b, o, by rw [e.1, hg], _, hc⟩
  exact Pieces_bk H o c1 s h w hs hs2 hl hlo h2 hu ⟨q, hq⟩
end Go.Proofs.Ytcjlijiifhggfaa.Cv
