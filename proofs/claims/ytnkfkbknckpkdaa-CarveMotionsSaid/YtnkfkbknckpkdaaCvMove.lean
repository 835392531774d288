/-
  WALKS (layer 5, carve): grains that move, by the program.
-/
import Derived.Test.YtnkfkbknckpkdaaCvList
import Derived.Test.YtnkfkbknckpkdaaCvLess
namespace Go.Proofs.Ytnkfkbknckpkdaa.Cv
open Go Go.RowKit Go.Sort
attribute [local go_sem] Oper.semAt_some

/-- A grain mirrored along an axis. -/
def mirG (s k : Nat) (g : Gr) : Gr := if k = 0 then ⟨s - 1 - g.x, g.y, g.z⟩ else if k = 1 then ⟨g.x, s - 1 - g.y, g.z⟩ else ⟨g.x, g.y, s - 1 - g.z⟩
theorem mir_ins {s k : Nat} {g : Gr} (h : insB s g = true) : insB s (mirG s k g) = true := by
  rw [ins_iff] at h ⊢
  unfold mirG
  split
  · simp only; omega
  · split <;> (simp only; omega)
/-- A grain turned by a quarter. -/
def rotG (s : Nat) (g : Gr) : Gr := ⟨s - 1 - g.y, g.x, g.z⟩
theorem rot_ins {s : Nat} {g : Gr} (h : insB s g = true) : insB s (rotG s g) = true := by
  rw [ins_iff] at h ⊢
  unfold rotG
  simp only
  omega
def rotN (s : Nat) : Nat → Gr → Gr
  | 0, g => g
  | n + 1, g => rotG s (rotN s n g)
theorem rotN_ins {s : Nat} (n : Nat) {g : Gr} (h : insB s g = true) : insB s (rotN s n g) = true := by
  induction n with
  | zero => exact h
  | succ n ih => exact rot_ins ih
/-- How far a block is turned. -/
def quart (q : Int) : Nat := ((q.tmod 4 + 4).tmod 4).toNat
theorem quart_int (q : Int) : (q.tmod 4 + 4).tmod 4 = (quart q : Int) ∧ quart q ≤ 3 ∧ -4 < q.tmod 4 ∧ q.tmod 4 < 4 := by
  have h1 := Int.tmod_lt_of_pos q (show (0 : Int) < 4 by decide)
  have h2 := Int.lt_tmod_of_pos q (show (0 : Int) < 4 by decide)
  have h3 := Int.tmod_lt_of_pos (q.tmod 4 + 4) (show (0 : Int) < 4 by decide)
  have h4 : 0 ≤ (q.tmod 4 + 4).tmod 4 := Int.tmod_nonneg _ (by omega)
  unfold quart
  omega
/-- Grains appended so far, in a cell of the call's own. -/
structure CM (w : World) (Z b : Nat) (l : List Gr) (g : Option Addr) (c : Nat) (V : World) : Prop where
  below : Below w.heap.size w V
  cell : V.cell? ⟨Z, 0, none⟩ = some (.slice g l.length c)
  froz : ∀ j, V.frozen? ⟨Z, j, none⟩ = false
  own : OwnG V b (.slice g l.length c) l
theorem CM.on {w V X : World} {Z b : Nat} {l : List Gr} {g : Option Addr} {c : Nat} (h : CM w Z b l g c V) (hb : Below V.heap.size V X) : CM w Z b l g c X :=
  have hz := World.block_lt_of_cell? _ _ h.cell
  ⟨h.below.trans (hb.mono h.below.size), (hb.cell (p := ⟨Z, 0, none⟩) hz).trans h.cell, fun j => (World.frozen?_of_block (a := ⟨Z, j, none⟩) (hb.block _ hz)).trans (h.froz j), h.own.on hb⟩
theorem CM.turns {w : World} {Z b C : Nat} {l : List Gr} (hC : w.heap.size ≤ C) (hz : Z < C) : Turns 0 C (fun V => ∃ g c, CM w Z b l g c V) := by
  rintro X Y row ⟨gg, cc, h⟩ g hr
  have eZ : Y.heap[Z]? = X.heap[Z]? := g.block Z (World.block_lt_of_cell? _ _ h.cell) (fun e => by have := (hr Z e.symm).1; omega)
  refine ⟨gg, cc, ⟨g.os.trans h.below.os, g.tape.trans h.below.tape, g.output.trans h.below.output, Nat.le_trans h.below.size g.size, fun j hj => ?_⟩, (World.cell?_of_block (a := ⟨Z, 0, none⟩) eZ).trans h.cell, fun j => (World.frozen?_of_block (a := ⟨Z, j, none⟩) eZ).trans (h.froz j), ?_⟩
  · exact (g.block j (Nat.lt_of_lt_of_le hj h.below.size) (fun e => by have := (hr j e.symm).1; omega)).trans (h.below.block j hj)
  · refine World.ownsRow.kept h.own g ?_
    cases e : (Value.slice gg l.length cc).ownBlock with
    | none => exact .inl rfl
    | some j =>
      refine .inr (fun e2 => ?_)
      obtain ⟨-, -, o, ho, hc⟩ := h.own.block e
      obtain ⟨-, h5 | ⟨p, hp, hpc⟩⟩ := hr j e2.symm
      · have := (hr j e2.symm).1
        omega
      · rw [ho] at hp
        cases hp
        rw [hc] at hpc
        cases hpc
/-- A round: one grain more. -/
theorem cm_next {w V : World} {Z b : Nat} {l : List Gr} {g0 : Option Addr} {c0 : Nat} (x : Gr) (h : CM w Z b l g0 c0 V) (hw : w.heap.size ≤ Z) (hZ : Z < b) (hn : l.length ≤ 100000) (hV : b ≤ V.heap.size + 1) :
    (V.alloc (.cells #[.int .i64 x.x, .int .i64 x.y, .int .i64 x.z] 48)).cell? ⟨Z, 0, none⟩ = some (.slice g0 l.length c0) ∧ V.cell? ⟨Z, 0, none⟩ = some (.slice g0 l.length c0) ∧ ∃ g c W', (Builtin.append_ #[41, 41] 41 #[.slice g0 l.length c0, .slice (some ⟨V.heap.size, 0, none⟩) 1 1]).run Try.prog (V.alloc (.cells #[.int .i64 x.x, .int .i64 x.y, .int .i64 x.z] 48)) = .ok (.slice g (l.length + 1) c) W' ∧
      W'.cell? ⟨Z, 0, none⟩ = some (.slice g0 l.length c0) ∧ W'.frozen? ⟨Z, 0, none⟩ = false ∧
      CM w Z b (l ++ [x]) g c (W'.setCell ⟨Z, 0, none⟩ (.slice g (l.length + 1) c)) ∧
      (∀ ps, Hd w ps V → (∀ p ∈ ps, p.1 ≠ Z ∧ p.1 < b) → Hd w ps (W'.setCell ⟨Z, 0, none⟩ (.slice g (l.length + 1) c))) ∧
      (∀ (S : Nat → Prop) m n, n + m ≤ b → Z < n → ¬ S Z → (∀ k, S k → k < V.heap.size ∧ k < b) → Keep S m n V (W'.setCell ⟨Z, 0, none⟩ (.slice g (l.length + 1) c))) := by
  have hzV := World.block_lt_of_cell? _ _ h.cell
  have hb : Below V.heap.size V (V.alloc (.cells #[.int .i64 x.x, .int .i64 x.y, .int .i64 x.z] 48)) := (Below.refl _ _).alloc (Nat.le_refl _) _
  have hX : GrAt (V.alloc (.cells #[.int .i64 x.x, .int .i64 x.y, .int .i64 x.z] 48)) V.heap.size x := ⟨by go_simp, by go_simp, by go_simp⟩
  have ho := h.own.on hb
  have hx := h.on hb
  obtain ⟨g, c, W', hrun, hown, hgr, hat⟩ := ho.next hX hn (by rw [World.size_alloc]; omega)
  have eZ : W'.heap[Z]? = V.heap[Z]? := (hgr.block Z (by rw [World.size_alloc]; omega) (fun e => by have := (ho.block e.symm).1; omega)).trans (hb.block Z hzV)
  have hc : W'.cell? ⟨Z, 0, none⟩ = some (.slice g0 l.length c0) := (World.cell?_of_block (a := ⟨Z, 0, none⟩) eZ).trans h.cell
  have hf : ∀ j, W'.frozen? ⟨Z, j, none⟩ = false := fun j => (World.frozen?_of_block (a := ⟨Z, j, none⟩) eZ).trans (h.froz j)
  have hB : Below w.heap.size w W' := (h.below.trans (hb.mono h.below.size)).grown hgr (by have := h.below.size; rw [World.size_alloc]; omega) (fun j hj => by have := (ho.block hj).1; omega)
  refine ⟨hx.cell, h.cell, g, c, W', hrun, hc, hf 0, ⟨hB.setCell (by simp only; omega) _, ?_, fun j => by simp [go_sem, hf], ?_⟩, ?_, ?_⟩
  · rw [List.length_append, List.length_singleton]
    simp [go_sem, hc]
  · rw [List.length_append, List.length_singleton]
    refine World.ownsRow.kept (row := some Z) hown (setCell_grown _ _ _ _) ?_
    cases e : (Value.slice g (l.length + 1) c).ownBlock with
    | none => exact .inl rfl
    | some j => exact .inr (fun e2 => by have := (hown.block e).1; simp only [Option.some.injEq] at e2; omega)
  · intro ps hp hps
    refine ⟨hB.setCell (by simp only; omega) _, fun p hpp => ?_⟩
    obtain ⟨k1, k2⟩ := hps p hpp
    have hl := hp.lt hpp
    have e : (W'.setCell ⟨Z, 0, none⟩ (.slice g (l.length + 1) c)).heap[p.1]? = V.heap[p.1]? := (Below.heap_setCell _ _ _ _ k1).trans ((hgr.block _ (by rw [World.size_alloc]; omega) (fun e => by have := (ho.block e.symm).1; omega)).trans (hb.block _ hl))
    exact ⟨(World.cell?_of_block (a := ⟨p.1, p.2.1, none⟩) e).trans (hp.cells p hpp).1, (World.frozen?_of_block (a := ⟨p.1, p.2.1, none⟩) e).trans (hp.cells p hpp).2⟩
  · intro S m n hm hZn hS hSw
    have k1 : Keep S m n V (V.alloc (.cells #[.int .i64 x.x, .int .i64 x.y, .int .i64 x.z] 48)) := Keep.below hb (fun k hk => (hSw k hk).1)
    have k2 : Keep S m n (V.alloc (.cells #[.int .i64 x.x, .int .i64 x.y, .int .i64 x.z] 48)) W' := Keep.of_row hgr (fun k hk => by have := hSw k hk; rw [World.size_alloc]; omega) (fun r e => by
      obtain ⟨a1, -, a3⟩ := ho.block e
      exact ⟨by omega, fun hSr => by have := hSw r hSr; omega, a3⟩)
    have k3 : Keep S m n W' (W'.setCell ⟨Z, 0, none⟩ (.slice g (l.length + 1) c)) := Keep.of_grown (setCell_grown W' Z 0 _) (fun k hk => by have := hSw k hk; have := hgr.size; rw [World.size_alloc] at this; omega) (fun r e => by
      simp only [Option.some.injEq] at e
      subst e
      exact ⟨hZn, hS⟩)
    exact (k1.trans k2).trans k3
/-- The cells of the call's own. -/
def mvP (Z s f : Nat) (lb : Array Value) : List (Nat × Nat × Value) := [(Z, 0, .int .i64 s), (Z + 1, 0, .func (.func f) #[] lb), (Z + 2, 0, .int .i64 0), (Z + 2, 1, .slice none 0 0)]
theorem mv_blocks {Z s f : Nat} {lb : Array Value} {p : Nat × Nat × Value} (h : p ∈ mvP Z s f lb) : p.1 = Z ∨ p.1 = Z + 1 ∨ p.1 = Z + 2 := by
  simp only [mvP, List.mem_cons, List.not_mem_nil, or_false] at h
  rcases h with rfl | rfl | rfl | rfl <;> simp
theorem mv_start {w W0 : World} {s f Z : Nat} {v : Value} {lb : Array Value} {t1 t2 t3 t4 t5 : TypeId} (hZ : w.heap.size = Z)
    (h0 : ((((w.alloc (.cells #[.int .i64 s, v] t1)).alloc (.cells #[.func (.func f) #[] lb] t2)).alloc (.cells #[.int .i64 0, .slice none 0 0] t3)).alloc (.cells #[.slice none 0 0] t4)).alloc (.cells #[.int .i64 s, v] t5) = W0) :
    W0.heap.size = Z + 5 ∧ Below w.heap.size w W0 ∧ Hd w (mvP Z s f lb) W0 ∧ CM w (Z + 3) (Z + 9) [] none 0 W0 ∧ W0.cell? ⟨Z + 4, 0, none⟩ = some (.int .i64 s) ∧ W0.cell? ⟨Z + 4, 1, none⟩ = some v := by
  have hb : Below w.heap.size w W0 := by rw [← h0]; exact by repeat (first | exact Below.refl _ _ | refine Below.alloc ?_ (by simp <;> omega) _ | refine bDrewN ?_ _ | refine Below.drew ?_)
  subst hZ
  subst h0
  refine ⟨by simp, hb, ⟨hb, fun p hp => ?_⟩, ⟨hb, by go_simp, fun j => by go_simp, OwnG.nil _ _⟩, by go_simp, by go_simp⟩
  simp only [mvP, List.mem_cons, List.not_mem_nil, or_false] at hp
  rcases hp with rfl | rfl | rfl | rfl <;> exact ⟨by go_simp, by go_simp⟩
theorem NB.put {n D : Nat} {W : World} {v : Value} {bs : List Bool} {o : Obj} (h : NB n W v bs) (hD : D < n) : NB n (W.putObj D o) v bs := by
  obtain ⟨U, N, e, hn, ho⟩ := h
  exact ⟨U, N, e, hn, ho.same (World.putObj_heap_other (by omega))⟩
attribute [-go_sem] Builtin.append_
set_option maxRecDepth 100000 in
set_option maxHeartbeats 2000000 in
theorem moved_any (f : Nat) (lb : Array Value) (to : Gr → Gr) (s : Nat) (v : Value) (h : List Bool) (w : World) (hs : 1 ≤ s) (hs2 : s ≤ 10) (hl : h.length = s * s * s) (hv : LB w v h)
    (hE : ∀ args W, (callFunc f args).run Try.prog W = .ok (.enter f args) W)
    (hA : Kp (∀ W g, Below w.heap.size w W → insB s g = true → Calls Try.prog f (#[.agg #[.int .i64 g.x, .int .i64 g.y, .int .i64 g.z]] ++ lb) W fun e w' => e = .returned (.agg #[.int .i64 (to g).x, .int .i64 (to g).y, .int .i64 (to g).z]) ∧ Below W.heap.size W w'))
    (hI : ∀ g, insB s g = true → insB s (to g) = true) :
    Calls Try.prog 37 #[.agg #[.int .i64 s, v], .func (.func f) #[] lb] w fun en w' => ∃ u, en = .returned (.agg #[.int .i64 s, u]) ∧ NB w.heap.size w' u (setB s ((grainsL s h).map to)) ∧ Below w.heap.size w w' := by
  obtain ⟨g, c, rfl⟩ := hv.shape
  refine (callsIn_wide (n := 6)).1 ?_
  refine callsIn_of_wp_marks Try.func37 rfl trivial ?_ rfl
  simp only [Try.ntmps37, List.size_toArray, List.length_cons, List.length_nil, Nat.reduceAdd, Nat.reduceSub, Array.replicate_succ, Array.replicate_zero, List.push_toArray, List.append_toArray, List.nil_append, List.cons_append]
  have HV := Kp.mk hv
  have HLN := Kp.mk hl
  have HLEN : Kp ((grainsL s h).length ≤ 1000) := ⟨by
    unfold grainsL
    refine Nat.le_trans (List.length_filter_le _ _) ?_
    rw [places_len]
    exact (cube_bd hs2).2⟩
  have HML : Kp (((grainsL s h).map to).length ≤ 4611686018427387904 ∧ ∀ x ∈ (grainsL s h).map to, insB s x = true) := ⟨by rw [List.length_map]; have := HLEN.out; omega, fun x hx => by
    obtain ⟨y, hy, rfl⟩ := List.mem_map.1 hx
    exact hI y (mem_ins (List.mem_filter.1 hy).1)⟩
  obtain ⟨Z, hZ⟩ : ∃ Z, w.heap.size = Z := ⟨_, rfl⟩
  have HZ := Kp.mk hZ
  clear hl hv hI hZ
  gi_wp2_with fail
  refine ⟨trivial, (callsIn_wide.2 (grains_any _ _ _)).mono ?_⟩
  rintro en W0 ⟨rfl, hW0⟩
  obtain ⟨z0, hb0, hd0, hc0, k0, k1⟩ := mv_start HZ.out hW0
  have HW : Kp (W0.heap.size = Z + 5) := ⟨z0⟩
  have HD0 := Kp.mk hd0
  have HC0 : Kp (∃ g c, CM w (Z + 3) (Z + 9) (([] : List Gr).map to) g c W0) := ⟨_, _, hc0⟩
  obtain ⟨H, o, rfl, HHZ, HBK⟩ : ∃ H o, g = some ⟨H, o, none⟩ ∧ H < Z ∧ Kp (BK (Z + 4) H o c s h W0) := by
    have hl := HLN.out
    have hpos : 0 < h.length := by rw [hl]; exact Nat.mul_pos (Nat.mul_pos hs hs) hs
    obtain ⟨x0, hx0⟩ : ∃ x, h[0]? = some x := ⟨_, List.getElem?_eq_getElem hpos⟩
    have hH0 : ∃ H o, g = some ⟨H, o, none⟩ ∧ H < Z := by
      obtain ⟨g', c', e', hc', hi'⟩ := HV.out
      cases e'
      obtain ⟨H, o, hg, hlt, -⟩ := hi' 0 x0 hx0
      exact ⟨H, o, hg, by have := HZ.out; omega⟩
    obtain ⟨H0, o0, rfl, hlt0⟩ := hH0
    have hrow := HV.out.below hb0
    have hrow' := hrow
    obtain ⟨g', c', e', hc', hi'⟩ := hrow
    cases e'
    obtain ⟨H, o, hg, hlt, hcell⟩ := hi' 0 x0 hx0
    simp only [Option.some.injEq, Addr.mk.injEq, and_true] at hg
    obtain ⟨rfl, rfl⟩ := hg
    exact ⟨H0, o0, rfl, hlt0, ⟨⟨k0, k1, hrow', x0, hcell⟩⟩⟩
  have HH0 : Kp (H < Z) := ⟨HHZ⟩
  clear hW0 z0 hb0 hd0 hc0 k0 k1 HHZ
  gi_wp2
  simp only [HZ.out]
  refine wpIn_yieldsS (k := 0) (enc := encG) (xs := grainsL s h) rfl (by omega) (gf := 85) (lb := #[.pointer (some ⟨Z + 4, 0, none⟩)]) rfl trivial (enters_of Try.func85 (by kernel_rfl) rfl) (fun _ => rfl)
    (grains_yields 5 (by omega) (Z + 4) H o c s h hs hs2 HLN.out W0 HBK.out) Keep.trans (fun V o o' _ _ _ => Keep.putObj (by omega) (by have := HW.out; have := HH0.out; rintro (e | e) <;> omega))
    (fun pre V => Hd w (mvP Z s f lb) V ∧ ∃ g c, CM w (Z + 3) (Z + 9) (pre.map to) g c V)
    (fun _ _ _ => False)
    (fun p => Turns.abides (C := Z + 4) (turns_and (Hd.turns (by have := HZ.out; omega) (fun p hp => .inl (by have := mv_blocks hp; omega))) (CM.turns (by have := HZ.out; omega) (by omega))) (by have := HW.out; omega)) (fun _ _ => Turns.abides (C := Z) turns_const (by have := HW.out; omega))
    ⟨HD0.out, HC0.out⟩
    (fun pre x a' V => (Hd w (mvP Z s f lb) V ∧ ∃ g c, CM w (Z + 3) (Z + 9) (pre.map to) g c V) ∧ ∃ G, Z + 7 ≤ G ∧ GrAt V G x ∧ a' = { tmps := #[.agg #[.int .i64 s, .slice (some ⟨H, o, none⟩) h.length c], .func (.func f) #[] lb, .pointer (some ⟨Z, 0, none⟩), .pointer (some ⟨Z + 1, 0, none⟩), .pointer (some ⟨Z + 2, 0, none⟩), .pointer (some ⟨Z + 3, 0, none⟩), .pointer (some ⟨G, 0, none⟩), .agg #[.int .i64 s, .slice (some ⟨H, o, none⟩) h.length c], .func (.func 85) #[] #[.pointer (some ⟨Z + 4, 0, none⟩)], .agg #[.int .i64 x.x, .int .i64 x.y, .int .i64 x.z], undef, undef, undef, undef, undef, undef, undef, undef, undef, undef], defers := [] })
    ?ax ?assign ?body ?done ?stop
  case ax =>
    rintro pre x a' X V row ⟨hi, G, hG, hx, ha⟩ g hr
    exact ⟨Turns.abides (C := Z + 4) (turns_and (Hd.turns (by have := HZ.out; omega) (fun p hp => .inl (by have := mv_blocks hp; omega))) (CM.turns (by have := HZ.out; omega) (by omega))) (by have := HW.out; omega) X V row hi g hr, G, hG, GrAt.abide hx g hr (by have := HW.out; omega), ha⟩
  case assign =>
    rintro l2 pre ⟨gx, gy, gz⟩ V hi _ hsz
    have HI := Kp.mk hi
    clear hi
    have ez : ((#[9] : Array Tmp).zip (encG ⟨gx, gy, gz⟩)).foldl (fun tmps (q : Tmp × Value) => tmps.setIfInBounds q.1 q.2) #[.agg #[.int .i64 s, .slice (some ⟨H, o, none⟩) h.length c], .func (.func f) #[] lb, .pointer (some ⟨Z, 0, none⟩), .pointer (some ⟨Z + 1, 0, none⟩), .pointer (some ⟨Z + 2, 0, none⟩), .pointer (some ⟨Z + 3, 0, none⟩), undef, .agg #[.int .i64 s, .slice (some ⟨H, o, none⟩) h.length c], .func (.func 85) #[] #[.pointer (some ⟨Z + 4, 0, none⟩)], undef, undef, undef, undef, undef, undef, undef, undef, undef, undef, undef] = #[.agg #[.int .i64 s, .slice (some ⟨H, o, none⟩) h.length c], .func (.func f) #[] lb, .pointer (some ⟨Z, 0, none⟩), .pointer (some ⟨Z + 1, 0, none⟩), .pointer (some ⟨Z + 2, 0, none⟩), .pointer (some ⟨Z + 3, 0, none⟩), undef, .agg #[.int .i64 s, .slice (some ⟨H, o, none⟩) h.length c], .func (.func 85) #[] #[.pointer (some ⟨Z + 4, 0, none⟩)], .agg #[.int .i64 gx, .int .i64 gy, .int .i64 gz], undef, undef, undef, undef, undef, undef, undef, undef, undef, undef] := by simp [encG]
    rw [ez]
    clear ez
    gi_wp2
    have hzv : Z + 7 ≤ V.heap.size := by have := HW.out; omega
    have hbb : Below V.heap.size V (V.alloc (.cells #[.int .i64 gx, .int .i64 gy, .int .i64 gz] 48)) := (Below.refl _ _).alloc (Nat.le_refl _) _
    exact ⟨alloc_keeps _ _ _, Keep.below hbb (fun j hj => by have := HW.out; have := HH0.out; rcases hj with rfl | rfl <;> omega), ⟨HI.out.1.on hbb, HI.out.2.imp fun g hg => hg.imp fun c hc => hc.on hbb⟩, V.heap.size, hzv, ⟨by go_simp, by go_simp, by go_simp⟩, rfl⟩
  case body =>
    rintro l2 pre x a' V ⟨⟨hd, g0, c0, hc⟩, G, hG, hgr, rfl⟩ hpre hsz
    have hin : insB s x = true := by
      have h1 : x ∈ grainsL s h := hpre.subset (by simp)
      unfold grainsL at h1
      exact mem_ins (List.mem_filter.1 h1).1
    have hpl : (pre.map to).length ≤ 100000 := by
      have h2 := hpre.length_le
      have := HLEN.out
      rw [List.length_append] at h2
      rw [List.length_map]
      omega
    have HQ : Kp (∀ W, Below w.heap.size w W → Calls Try.prog f (#[.agg #[.int .i64 x.x, .int .i64 x.y, .int .i64 x.z]] ++ lb) W fun e w' => e = .returned (.agg #[.int .i64 (to x).x, .int .i64 (to x).y, .int .i64 (to x).z]) ∧ Below W.heap.size W w') := ⟨fun W hW => hA.out W x hW hin⟩
    have HM : Kp ((pre ++ [x]).map to = pre.map to ++ [to x]) := ⟨by rw [List.map_append]; rfl⟩
    obtain ⟨R, hR⟩ : ∃ R, to x = R := ⟨_, rfl⟩
    obtain ⟨L, hL⟩ : ∃ L, pre.map to = L := ⟨_, rfl⟩
    rw [hR] at HQ HM
    rw [hL] at HM hc hpl
    have HC := Kp.mk hc
    have HD := Kp.mk hd
    have hGV := World.block_lt_of_cell? _ _ hgr.c0
    have HSZ : Kp (W0.heap.size = Z + 5 ∧ W0.heap.size + 2 ≤ V.heap.size ∧ Z + 8 ≤ V.heap.size) := ⟨HW.out, hsz, by simp only at hGV; omega⟩
    have HNX : Kp (∀ X, Below V.heap.size V X → _) := ⟨fun X hX => cm_next R (hc.on hX) (by have := HZ.out; omega) (by omega) hpl (by have := hX.size; have := HSZ.out; omega)⟩
    obtain ⟨gx, gy, gz⟩ := x
    obtain ⟨rx, ry, rz⟩ := R
    simp only at HNX HQ
    obtain ⟨d0, d1, d2⟩ := hgr
    have a1 : V.drew.cell? ⟨Z + 1, 0, none⟩ = some (.func (.func f) #[] lb) := (hd.cells (Z + 1, 0, .func (.func f) #[] lb) (by simp [mvP])).1
    have a2 : V.drew.cell? ⟨Z + 3, 0, none⟩ = some (.slice g0 L.length c0) := hc.cell
    have a3 : V.drew.cell? ⟨G, 0, none⟩ = some (.int .i64 gx) := d0
    have a4 : V.drew.cell? ⟨G, 1, none⟩ = some (.int .i64 gy) := d1
    have a5 : V.drew.cell? ⟨G, 2, none⟩ = some (.int .i64 gz) := d2
    obtain ⟨m, hm⟩ : ∃ m, L.length = m := ⟨_, rfl⟩
    rw [hm] at a2 HNX
    clear hR hL hd hc hin hpl hpre d0 d1 d2 hm hGV
    gi_wp2
    gi_region_with (refine ⟨trivial, (CallsIn.inRound _ (callsIn_wide.2 (HQ.out _ (Below.drew HC.out.below)))).mono ?_⟩; rintro en W1 ⟨rfl, hb1⟩; have HX1 : Kp (Below V.heap.size V W1) := ⟨(Below.drew (Below.refl _ _)).trans hb1⟩; obtain ⟨n1, n2, g2, c2, W2, hrun, n4, n5, n6⟩ := HNX.out W1 HX1.out; have HN6 := Kp.mk n6; clear hb1 n6)
    all_goals
      gi_wp2
      obtain ⟨m1, m2, m3⟩ := HN6.out
      have hz1 := HX1.out.size
      refine ⟨(KeepsFrom.of_grownBy (grown_below HX1.out none) (fun j e => by cases e)).trans (m3 (SB (Z + 4) H) 0 W0.heap.size (by have := HSZ.out; omega) (by have := HSZ.out; omega) (by have := HH0.out; rintro (e | e) <;> omega) (fun j hj => by have := HSZ.out; have := HH0.out; rcases hj with rfl | rfl <;> omega)).from, (Keep.below HX1.out (fun j hj => by have := HSZ.out; have := HH0.out; rcases hj with rfl | rfl <;> omega)).trans (m3 (SB (Z + 4) H) 2 (W0.heap.size + 2) (by have := HSZ.out; omega) (by have := HSZ.out; omega) (by have := HH0.out; rintro (e | e) <;> omega) (fun j hj => by have := HSZ.out; have := HH0.out; rcases hj with rfl | rfl <;> omega)), m2 _ (HD.out.on HX1.out) (fun p hp => by have := mv_blocks hp; omega), g2, c2, ?_⟩
      rw [HM.out]
      exact m1
  case done =>
    rintro D V hD ⟨hd, g0, c0, hc⟩ hdf
    have hlt := (Array.getElem?_eq_some_iff.1 hdf).1
    obtain ⟨L, hL⟩ : ∃ L, (grainsL s h).map to = L := ⟨_, rfl⟩
    have HLQ := Kp.mk hL
    rw [hL] at HML hc
    have HLS : Kp (∀ W, Below V.heap.size V W → Calls Try.prog 51 #[.int .i64 s, .slice g0 L.length c0] W fun en w' => ∃ u, en = .returned (.agg #[.int .i64 s, u]) ∧ NB W.heap.size w' u (setB s L) ∧ Below W.heap.size W w') := ⟨fun W hW => listed_any s _ L W hs hs2 ((hc.own.gs).below hW) HML.out.1 HML.out.2⟩
    have a0 := (hd.cells (Z, 0, .int .i64 s) (by simp [mvP])).1
    have a1 := hc.cell
    obtain ⟨p0, pz⟩ := hd.cells (Z + 2, 0, .int .i64 0) (by simp [mvP])
    obtain ⟨p1, pz1⟩ := hd.cells (Z + 2, 1, .slice none 0 0) (by simp [mvP])
    simp only at a0 p0 p1 pz pz1
    have HVB := Kp.mk hd.below
    have hp2 := World.block_lt_of_cell? _ _ p0
    have HDZ : Kp (Z + 5 ≤ D ∧ D < V.heap.size) := ⟨by have := HW.out; omega, hlt⟩
    obtain ⟨m, hm⟩ : ∃ m, L.length = m := ⟨_, rfl⟩
    rw [hm] at a1 HLS
    clear hd hc hL hlt hm
    gi_wp2_with fail
    refine ⟨trivial, (callsIn_wide.2 (HLS.out _ (Below.refl _ _))).mono ?_⟩
    rintro en w2 ⟨u, rfl, hu, hb2⟩
    obtain ⟨gu, cu, rfl⟩ := hu.lb.shape
    have q0 := (hb2.cell (p := ⟨Z + 2, 0, none⟩) hp2).trans p0
    have q1 := (hb2.cell (p := ⟨Z + 2, 1, none⟩) hp2).trans p1
    have qz := (hb2.frozen (p := ⟨Z + 2, 0, none⟩) hp2).trans pz
    have qz1 := (hb2.frozen (p := ⟨Z + 2, 1, none⟩) hp2).trans pz1
    have HDF : Kp (((w2.setCell ⟨Z + 2, 0, none⟩ (.int .i64 s)).setCell ⟨Z + 2, 1, none⟩ (.slice gu (setB s L).length cu)).heap[D]? = some (.deferred (some []))) := ⟨(Below.heap_setCell _ _ _ _ (by have := HDZ.out; simp only; omega)).trans ((Below.heap_setCell _ _ _ _ (by have := HDZ.out; simp only; omega)).trans ((hb2.block D HDZ.out.2).trans hdf))⟩
    have HU := Kp.mk hu
    have HB2 := Kp.mk hb2
    clear hu hb2 a0 a1 p0 p1 pz pz1 hdf
    gi_wp2
    have hX0 : ∀ k j, k ≠ D → (((w2.setCell ⟨Z + 2, 0, none⟩ (.int .i64 s)).setCell ⟨Z + 2, 1, none⟩ (.slice gu (setB s L).length cu)).putObj D (.deferred none)).cell? ⟨k, j, none⟩ = ((w2.setCell ⟨Z + 2, 0, none⟩ (.int .i64 s)).setCell ⟨Z + 2, 1, none⟩ (.slice gu (setB s L).length cu)).cell? ⟨k, j, none⟩ := fun k j hk => World.cell?_of_block (a := ⟨k, j, none⟩) (World.putObj_heap_other hk)
    have r0 := (hX0 (Z + 2) 0 (by have := HDZ.out; omega)).trans (show _ = some (.int .i64 s) by simp [go_sem, q0])
    have r1 := (hX0 (Z + 2) 1 (by have := HDZ.out; omega)).trans (show _ = some (.slice gu (setB s L).length cu) by simp [go_sem, q1])
    refine ⟨by simp, .inl ⟨_, _, rfl, run_takeDeferred HDF.out, ?_⟩⟩
    refine ⟨.agg #[.int .i64 s, .slice gu (setB s L).length cu], by simp [results, Try.results37, go_sem, r0, r1], _, rfl, ?_, ?_⟩
    · rw [HLQ.out]
      exact (((HU.out.set (Z + 2) 0 _ (by omega)).set (Z + 2) 1 _ (by omega)).put HDZ.out.2).more (by have := HVB.out.size; omega)
    · have hb3 : Below w.heap.size w ((w2.setCell ⟨Z + 2, 0, none⟩ (.int .i64 s)).setCell ⟨Z + 2, 1, none⟩ (.slice gu (setB s L).length cu)) := ((HVB.out.trans (HB2.out.mono HVB.out.size)).setCell (by have := HZ.out; simp only; omega) _).setCell (by have := HZ.out; simp only; omega) _
      exact hb3.grown (grownBy_putObj' _ D (.deferred none)) hb3.size (fun j e => by cases e; have := HDZ.out; have := HZ.out; omega)
  case stop =>
    rintro D cd ys V hD hys hi hd
    exact hi.elim
end Go.Proofs.Ytnkfkbknckpkdaa.Cv
