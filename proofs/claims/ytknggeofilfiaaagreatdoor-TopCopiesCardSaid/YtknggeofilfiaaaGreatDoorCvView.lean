/-
  WALKS (layer 5, carve): views, by the program.
-/
import Derived.Test.YtknggeofilfiaaaGreatDoorCvDepths
import Derived.Deep.AppendLies
namespace Go.Proofs.YtknggeofilfiaaaGreatDoor.Cv
open Go Go.RowKit Go.Sort

theorem owns_lb {W : World} {B n : Nat} {v : Value} {bs : List Bool} (h : W.ownsRow B 4 1 v n (bs.map .bool)) : LB W v bs := by
  have hn : bs.length = n := by have := h.1; rw [List.length_map] at this; omega
  rcases h.2 with ⟨hv, h0⟩ | ⟨g, cap, cur, hv, hgB, hh, hnc, hcm, hcs, htake⟩
  · subst hv
    have : bs = [] := List.eq_nil_of_length_eq_zero (by omega)
    subst this
    exact LB.nil W
  · subst hv
    have hlt := (Array.getElem?_eq_some_iff.1 hh).1
    refine ⟨some ⟨g, 0, none⟩, cap, by rw [hn], by omega, fun i x hx => ⟨g, 0, rfl, hlt, ?_⟩⟩
    have hk := (List.getElem?_eq_some_iff.1 hx).1
    have h1 : (bs.map Value.bool)[i]? = some (.bool x) := by rw [List.getElem?_map, hx]; rfl
    rw [← htake, List.getElem?_take, if_pos (by omega), Array.getElem?_toList] at h1
    rw [Nat.zero_add]
    simp only [World.cell?, hh]
    simpa using h1
/-- A row of truth values, newer than some block. -/
def OB (n : Nat) (W : World) (u : Value) (bs : List Bool) : Prop := ∃ B, n ≤ B ∧ W.ownsRow B 4 1 u bs.length (bs.map .bool)
theorem OB.lb {n : Nat} {W : World} {u : Value} {bs : List Bool} (h : OB n W u bs) : LB W u bs := by
  obtain ⟨B, -, ho⟩ := h
  exact owns_lb ho
theorem OB.more {n m : Nat} {W : World} {u : Value} {bs : List Bool} (h : OB n W u bs) (hm : m ≤ n) : OB m W u bs := by
  obtain ⟨B, hB, ho⟩ := h
  exact ⟨B, Nat.le_trans hm hB, ho⟩
theorem OB.set {n : Nat} {W : World} {u : Value} {bs : List Bool} (h : OB n W u bs) (b k : Nat) (v : Value) (hb : b < n) : OB n (W.setCell ⟨b, k, none⟩ v) u bs := by
  obtain ⟨B, hB, ho⟩ := h
  refine ⟨B, hB, ho.kept (row := some b) (setCell_grown _ _ _ _) ?_⟩
  cases e : u.ownBlock with
  | none => exact .inl rfl
  | some j => exact .inr (fun e2 => by have := (ho.lt j e).1; simp only [Option.some.injEq] at e2; omega)
def posB (n : Int) : Value := .bool (decide (0 < n))
/-- What the walk keeps: the view so far, the counts. -/
structure VI (w : World) (P U B s : Nat) (xs : List Int) (k : Nat) (u : Value) (W : World) : Prop where
  below : Below w.heap.size w W
  c0 : W.cell? ⟨P + 1, 0, none⟩ = some (.int .i64 s)
  c1 : W.cell? ⟨P + 1, 1, none⟩ = some u
  z1 : ∀ j, W.frozen? ⟨P + 1, j, none⟩ = false
  r0 : W.cell? ⟨P, 0, none⟩ = some (.int .i64 0)
  r1 : W.cell? ⟨P, 1, none⟩ = some (.slice none 0 0)
  z0 : ∀ j, W.frozen? ⟨P, j, none⟩ = false
  own : W.ownsRow B 4 1 u k ((xs.take k).map posB)
  row : IR U W xs
theorem VI.next {w wr w6 : World} {P U B s : Nat} {xs : List Int} {k gb cap : Nat} {u : Value} {x : Int} {o : Obj} (h : VI w P U B s xs k u wr) (hx : xs[k]? = some x) (hw : w.heap.size ≤ P) (hP : P + 1 < B) (hU : U < B) (hUP : P + 1 < U) (hB : B ≤ wr.heap.size)
    (h1 : w6.ownsRow B 4 1 (.slice (some ⟨gb, 0, none⟩) (k + 1) cap) (k + 1) ((xs.take k).map posB ++ [posB x])) (h2 : (wr.alloc o).grownBy w6 u.ownBlock) :
    VI w P U B s xs (k + 1) (.slice (some ⟨gb, 0, none⟩) (k + 1) cap) (w6.setCell ⟨P + 1, 1, none⟩ (.slice (some ⟨gb, 0, none⟩) (k + 1) cap)) ∧ w6.cell? ⟨P + 1, 1, none⟩ = some u ∧ ∀ j, w6.frozen? ⟨P + 1, j, none⟩ = false := by
  have hb : Below wr.heap.size wr (wr.alloc o) := (Below.refl _ _).alloc (Nat.le_refl _) _
  have hoX : (wr.alloc o).ownsRow B 4 1 u k ((xs.take k).map posB) := h.own.kept (grown_below hb none) (by cases hv : u.ownBlock <;> simp)
  have key : ∀ b, b < B → w6.heap[b]? = wr.heap[b]? := fun b hbB => (h2.block b (by simp; omega) (fun e => by have := (hoX.lt b e.symm).1; omega)).trans (hb.block b (by omega))
  have eP1 := key (P + 1) hP
  have eP := key P (by omega)
  have eU := key U hU
  have c1 : w6.cell? ⟨P + 1, 1, none⟩ = some u := (World.cell?_of_block (a := ⟨P + 1, 1, none⟩) eP1).trans h.c1
  have c0 : w6.cell? ⟨P + 1, 0, none⟩ = some (.int .i64 s) := (World.cell?_of_block (a := ⟨P + 1, 0, none⟩) eP1).trans h.c0
  have z1 : ∀ j, w6.frozen? ⟨P + 1, j, none⟩ = false := fun j => (World.frozen?_of_block (a := ⟨P + 1, j, none⟩) eP1).trans (h.z1 j)
  have hB6 : Below w.heap.size w w6 := (h.below.trans (hb.mono h.below.size)).grown h2 (by have := h.below.size; simp; omega) (fun j hj => by have := (hoX.lt j hj).1; omega)
  have f : ∀ b, b ≠ P + 1 → (w6.setCell ⟨P + 1, 1, none⟩ (.slice (some ⟨gb, 0, none⟩) (k + 1) cap)).heap[b]? = w6.heap[b]? := fun b hne => Below.heap_setCell _ _ _ _ (by simp only; omega)
  have hk := (List.getElem?_eq_some_iff.1 hx).1
  have e : (xs.take (k + 1)).map posB = (xs.take k).map posB ++ [posB x] := by
    rw [List.take_succ_eq_append_getElem hk, List.map_append, (List.getElem?_eq_some_iff.1 hx).2]; rfl
  have hgb := (h1.lt gb (by simp [Value.ownBlock])).1
  refine ⟨⟨hB6.setCell (by simp only; omega) _, ?_, ?_, ?_, ?_, ?_, ?_, ?_, ?_⟩, c1, z1⟩
  · simp [go_sem, c0]
  · simp [go_sem, c1]
  · intro j; simp [go_sem, z1]
  · exact (World.cell?_of_block (a := ⟨P, 0, none⟩) ((f P (by omega)).trans eP)).trans h.r0
  · exact (World.cell?_of_block (a := ⟨P, 1, none⟩) ((f P (by omega)).trans eP)).trans h.r1
  · exact fun j => (World.frozen?_of_block (a := ⟨P, j, none⟩) ((f P (by omega)).trans eP)).trans (h.z0 j)
  · rw [e]
    exact World.ownsRow.kept (row := some (P + 1)) h1 (setCell_grown _ _ _ _) (by simp [Value.ownBlock]; omega)
  · exact h.row.same ((f U (by omega)).trans eU)
set_option maxRecDepth 100000 in
set_option maxHeartbeats 2000000 in
theorem view_any (s : Nat) (v : Value) (h : List Bool) (ax : Int) (f : Nat) (sq : Gr → Int × Int) (hax : AxF ax f sq) (w : World) (hs : 1 ≤ s) (hs2 : s ≤ 10) (hl : h.length = s * s * s) (hv : LB w v h) :
    Calls Tryz.prog 32 #[.agg #[.int .i64 s, v], .int .i64 ax] w fun en w' => ∃ u, en = .returned (.agg #[.int .i64 s, u]) ∧ OB w.heap.size w' u ((cnts s (s * s) sq (grainsL s h)).map fun n => decide (0 < n)) ∧ Below w.heap.size w w' := by
  have HQ : Kp (∀ W, Below w.heap.size w W → Calls Tryz.prog 46 #[.agg #[.int .i64 s, v], .int .i64 ax] W fun en w' => ∃ U, en = .returned (.slice (some ⟨U, 0, none⟩) (s * s) (s * s)) ∧ W.heap.size ≤ U ∧ IR U w' (cnts s (s * s) sq (grainsL s h)) ∧ Below W.heap.size W w') := ⟨fun W hW => depths_any s v h ax f sq hax W hs hs2 hl (hv.below hW)⟩
  have HLN : Kp ((cnts s (s * s) sq (grainsL s h)).length = s * s) := ⟨cnts_len ..⟩
  obtain ⟨g, c, rfl⟩ := hv.shape
  obtain ⟨xs, hxs⟩ : ∃ xs, cnts s (s * s) sq (grainsL s h) = xs := ⟨_, rfl⟩
  rw [hxs] at HQ HLN ⊢
  have hcb := cube_bd hs2
  obtain ⟨M, hM⟩ : ∃ M, s * s = M := ⟨_, rfl⟩
  rw [hM] at HQ HLN hcb
  have HMM := Kp.mk hM
  obtain ⟨n, hn⟩ : ∃ n, h.length = n := ⟨_, rfl⟩
  rw [hn] at HQ ⊢
  clear hv hl hxs hM hn hax
  go_enter Tryz.func32, Tryz.ntmps32
  go_wp2_with fail
  refine (HQ.out _ (by repeat (first | exact Below.refl _ _ | refine Below.alloc ?_ (by simp <;> omega) _ | refine bDrewN ?_ _ | refine Below.drew ?_))).mono ?_
  rintro en w1 ⟨U, rfl, hU, hir, hb1⟩
  have HU : Kp (w.heap.size + 2 < U ∧ U < w1.heap.size) := ⟨by have h := hU; simp only [World.size_alloc] at h; omega, hir.lt⟩
  have HIR := Kp.mk hir
  clear hU hir
  have HB1 : Kp (Below w.heap.size w w1) := ⟨Below.trans (by repeat (first | refine Below.alloc ?_ (by (try simp) <;> omega) _ | refine bDrewN ?_ _ | refine Below.drew ?_ | refine Below.setCell ?_ (by (try simp) <;> omega) _ | exact Below.refl _ _)) (hb1.mono (by (try simp) <;> omega))⟩
  have hz1_0 : w.heap.size + 1 < w1.heap.size := by have := hb1.size; (try simp at this); omega
  have hz1_1 : w.heap.size + 1 + 1 < w1.heap.size := by have := hb1.size; (try simp at this); omega
  obtain ⟨hc, hf⟩ := bcell hb1
  have c1_0_0 : w1.cell? ⟨w.heap.size + 1, 0, none⟩ = some (.int .i64 0) := (hc _ _ (by (try simp) <;> omega)).trans (by go_simp)
  have c1_0_1 : w1.cell? ⟨w.heap.size + 1, 1, none⟩ = some ((.slice none 0 0)) := (hc _ _ (by (try simp) <;> omega)).trans (by go_simp)
  have z1_0 : ∀ j, w1.frozen? ⟨w.heap.size + 1, j, none⟩ = false := fun j => (hf _ _ (by (try simp) <;> omega)).trans (by go_simp)
  have c1_1_0 : w1.cell? ⟨w.heap.size + 1 + 1, 0, none⟩ = some (.int .i64 s) := (hc _ _ (by (try simp) <;> omega)).trans (by go_simp)
  have c1_1_1 : w1.cell? ⟨w.heap.size + 1 + 1, 1, none⟩ = some ((.slice none 0 0)) := (hc _ _ (by (try simp) <;> omega)).trans (by go_simp)
  have z1_1 : ∀ j, w1.frozen? ⟨w.heap.size + 1 + 1, j, none⟩ = false := fun j => (hf _ _ (by (try simp) <;> omega)).trans (by go_simp)
  clear hc hf hb1
  obtain ⟨P, hP⟩ : ∃ P, w.heap.size + 1 = P := ⟨_, rfl⟩
  rw [hP] at c1_0_0 c1_0_1 z1_0 c1_1_0 c1_1_1 z1_1 hz1_0 hz1_1
  have HP := Kp.mk hP
  have HV0 : Kp (VI w P U w1.heap.size s xs 0 (.slice none 0 0) w1) := ⟨⟨HB1.out, c1_1_0, c1_1_1, z1_1, c1_0_0, c1_0_1, z1_0, ⟨rfl, .inl ⟨rfl, rfl⟩⟩, HIR.out⟩⟩
  obtain ⟨i0, hi0, hz0, hz1', hz2⟩ := info_parts info_bool
  have HI := Kp.mk hi0
  have HZ0 := Kp.mk hz0
  have HZ1 := Kp.mk hz1'
  have HZ2 := Kp.mk hz2
  clear hi0 hz0 hz1' hz2 c1_0_0 c1_0_1 z1_0 c1_1_0 c1_1_1 z1_1 hz1_0 hz1_1
  simp only [hP]
  clear hP
  go_wp2
  go_loopw [15] (fun i wr => ∃ k : Nat, k ≤ M ∧ i = .int .i64 k ∧ Kp (w1.heap.size ≤ wr.heap.size) ∧ ∃ u, Kp (VI w P U w1.heap.size s xs k u wr)) (fun i _ => M - (intOf i).toNat)
  case atStart => exact ⟨0, Nat.zero_le _, rfl, ⟨Nat.le_refl _⟩, _, HV0⟩
  case round =>
    clear HV0
    obtain ⟨k, hk, rfl, HS, u, HV⟩ := hrel
    by_cases hlt : k < M
    · obtain ⟨x, hx⟩ : ∃ x, xs[k]? = some x := ⟨_, List.getElem?_eq_getElem (by rw [HLN.out]; exact hlt)⟩
      have o1 : (k : Int) < (M : Int) := by omega
      have c1 := HV.out.row.cell hx
      have c2 := HV.out.c1
      have c3 : (wr.alloc (.cells #[posB x] 4)).cell? ⟨P + 1, 1, none⟩ = some u := ((Below.refl wr.heap.size wr).alloc (Nat.le_refl _) _ |>.cell (p := ⟨P + 1, 1, none⟩) (World.block_lt_of_cell? _ _ c2)).trans c2
      have hnx := fun gb cap w6 h1 h2 => HV.out.next (gb := gb) (cap := cap) (w6 := w6) (o := .cells #[posB x] 4) hx (by have := HP.out; omega) (by have := HU.out; have := HP.out; omega) HU.out.2 (by have := HU.out; have := HP.out; omega) HS.out h1 h2
      have HNX := Kp.mk hnx
      have HOX : Kp ((wr.alloc (.cells #[posB x] 4)).ownsRow w1.heap.size 4 1 u k ((xs.take k).map posB)) := ⟨HV.out.own.kept (grown_below ((Below.refl _ _).alloc (Nat.le_refl _) _) none) (by cases hv : u.ownBlock <;> simp)⟩
      have HNW : Kp (∀ j v, ([posB x] : List Value)[j]? = some v → (wr.alloc (.cells #[posB x] 4)).cell? ((⟨wr.heap.size, 0, none⟩ : Addr).add j) = some v) := ⟨by
        intro j v hv
        match j with
        | 0 => simp at hv; subst hv; go_simp
        | j + 1 => simp at hv⟩
      have HBS : Kp (w1.heap.size ≤ (wr.alloc (.cells #[posB x] 4)).heap.size) := ⟨by rw [World.size_alloc]; have := HS.out; omega⟩
      clear hnx hx
      by_cases hpos : 0 < x
      · have e : posB x = .bool true := by unfold posB; rw [decide_eq_true hpos]
        rw [e] at HNW HBS HNX c3 HOX
        clear e
        have l6 : k ≤ 100 := by omega
        go_wp2_with (first | (at_builtin; refine wpList_append_lies _ rfl _ _ 38 rfl w1.heap.size 4 i0 (.bool false) 1 1 Tryz.underlying38 HI.out HZ0.out HZ1.out HZ2.out rfl (by decide) _ k ((xs.take k).map posB) rfl HOX.out ⟨wr.heap.size, 0, none⟩ 1 1 [.bool true] rfl rfl HNW.out (by intro u hu; simp at hu; subst hu; rfl) (by decide) (by unfold maxLen; omega) (by omega) HBS.out _ rfl ?_; intro gb cap w6 hown6 hgrow6 hl6 hlt6; obtain ⟨n1, n2, n3⟩ := HNX.out gb cap w6 hown6 hgrow6; have N1 := Kp.mk n1; have N2 : Kp (w1.heap.size ≤ w6.heap.size) := ⟨Nat.le_trans HBS.out hgrow6.size⟩; clear n1 hown6 hgrow6 hl6 hlt6))
        go_roundw
        case rel => exact ⟨k + 1, by omega, by go_num, ⟨by simp; exact N2.out⟩, _, N1⟩
        case measure => simp [intOf]; omega
      · have e : posB x = .bool false := by unfold posB; rw [decide_eq_false hpos]
        rw [e] at HNW HBS HNX c3 HOX
        clear e
        have l6 : k ≤ 100 := by omega
        go_wp2_with (first | (at_builtin; refine wpList_append_lies _ rfl _ _ 38 rfl w1.heap.size 4 i0 (.bool false) 1 1 Tryz.underlying38 HI.out HZ0.out HZ1.out HZ2.out rfl (by decide) _ k ((xs.take k).map posB) rfl HOX.out ⟨wr.heap.size, 0, none⟩ 1 1 [.bool false] rfl rfl HNW.out (by intro u hu; simp at hu; subst hu; rfl) (by decide) (by unfold maxLen; omega) (by omega) HBS.out _ rfl ?_; intro gb cap w6 hown6 hgrow6 hl6 hlt6; obtain ⟨n1, n2, n3⟩ := HNX.out gb cap w6 hown6 hgrow6; have N1 := Kp.mk n1; have N2 : Kp (w1.heap.size ≤ w6.heap.size) := ⟨Nat.le_trans HBS.out hgrow6.size⟩; clear n1 hown6 hgrow6 hl6 hlt6))
        go_roundw
        case rel => exact ⟨k + 1, by omega, by go_num, ⟨by simp; exact N2.out⟩, _, N1⟩
        case measure => simp [intOf]; omega
    · have hkm : k = M := by omega
      subst hkm
      have hM1 : 1 ≤ k := by rw [← HMM.out]; exact Nat.mul_pos hs hs
      have hxt : xs.take k = xs := List.take_of_length_le (by rw [HLN.out]; exact Nat.le_refl _)
      have HV2 := HV.out
      obtain ⟨gu, cu, rfl, -, -⟩ := HV2.own.form (by omega)
      have c0 := HV2.c0
      have c1 := HV2.c1
      have z1 := HV2.z0
      have r0 := HV2.r0
      have r1 := HV2.r1
      have hpw : P < wr.heap.size := World.block_lt_of_cell? _ _ r0
      clear HV2
      go_wp2
      have hB2 : Below w.heap.size w ((wr.setCell ⟨P, 0, none⟩ (.int .i64 s)).setCell ⟨P, 1, none⟩ (.slice (some ⟨gu, 0, none⟩) k cu)) := (HV.out.below.setCell (by have := HP.out; simp only; omega) _).setCell (by have := HP.out; simp only; omega) _
      have hgu := (HV.out.own.lt gu (by simp [Value.ownBlock])).1
      have ho := World.ownsRow.kept (row := some P) (World.ownsRow.kept (row := some P) HV.out.own (setCell_grown _ P 0 (.int .i64 s)) (by simp [Value.ownBlock]; have := HU.out; have := HP.out; omega)) (setCell_grown _ P 1 (.slice (some ⟨gu, 0, none⟩) k cu)) (by simp [Value.ownBlock]; have := HU.out; have := HP.out; omega)
      refine bodyPost_ret (v := .agg #[.int .i64 s, .slice (some ⟨gu, 0, none⟩) k cu]) (by simp [results, Tryz.results32, go_sem, r0, r1]) rfl ⟨_, rfl, ⟨w1.heap.size, HB1.out.size, ?_⟩, hB2⟩
      rw [hxt] at ho
      have hpm : xs.map posB = (xs.map fun n => decide (0 < n)).map .bool := by rw [List.map_map]; rfl
      rw [hpm] at ho
      have hll : (xs.map fun n => decide (0 < n)).length = k := by rw [List.length_map]; exact HLN.out
      rw [hll]
      exact ho
end Go.Proofs.YtknggeofilfiaaaGreatDoor.Cv
