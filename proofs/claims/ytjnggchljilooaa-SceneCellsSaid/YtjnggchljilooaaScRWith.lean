/-
  WALKS (layer 7, scene): grounds held to be the same; the reference's With.
-/
import Derived.Test.YtjnggchljilooaaScCell
import Derived.Test.YtjnggchljilooaaScCrsA
import Derived.Deep.AppendSrc
namespace Go.Proofs.Ytjnggchljilooaa.Sc
open Go Go.RowKit Go.Sort
attribute [-go_sem] Builtin.append_

theorem GV.on {w W : World} {V : Value} {a b : Int} {L : List Int} (h : GV w V a b L) (hb : Below w.heap.size w W) : GV W V a b L := by
  obtain ⟨g, c, e, hi⟩ := h
  exact ⟨g, c, e, hi.below hb⟩
/-- What is answered of a ground: it, or the empty one. -/
def gA (E : Int) (a : Int) : Int := if E = 0 then a else 0
def gL (E : Int) (L : List Int) : List Int := if E = 0 then L else []
theorem gv_of {w : World} {a b wd dp E : Int} {g : Option Addr} {M c : Nat} {L : List Int} (h1 : E = 0 → a = wd ∧ b = dp ∧ IS w (.slice g M c) L) (h2 : E ≠ 0 → a = 0 ∧ b = 0 ∧ IS w (.slice g M c) []) : GV w (.agg #[.int .i64 a, .int .i64 b, .slice g M c]) (gA E wd) (gA E dp) (gL E L) := by
  unfold gA gL
  by_cases h : E = 0
  · obtain ⟨rfl, rfl, h3⟩ := h1 h
    rw [if_pos h, if_pos h, if_pos h]
    exact GV.mk_ h3
  · obtain ⟨rfl, rfl, h3⟩ := h2 h
    rw [if_neg h, if_neg h, if_neg h]
    exact GV.mk_ h3
/-- As GV, and the row lies in a block that was not there. -/
def GN (base : Nat) (w : World) (V : Value) (a b : Int) (L : List Int) : Prop := ∃ g c, V = .agg #[.int .i64 a, .int .i64 b, .slice g L.length c] ∧ IS w (.slice g L.length c) L ∧ ∀ bl o s, g = some ⟨bl, o, s⟩ → L ≠ [] → base ≤ bl
theorem GN.gv {base : Nat} {w : World} {V : Value} {a b : Int} {L : List Int} (h : GN base w V a b L) : GV w V a b L := by
  obtain ⟨g, c, e, hi, -⟩ := h
  exact ⟨g, c, e, hi⟩
theorem GN.mk_ {base : Nat} {w : World} {a b : Int} {g : Option Addr} {M c : Nat} {L : List Int} (h : IS w (.slice g M c) L) (hb : ∀ bl o s, g = some ⟨bl, o, s⟩ → L ≠ [] → base ≤ bl) : GN base w (.agg #[.int .i64 a, .int .i64 b, .slice g M c]) a b L := by
  obtain ⟨g2, c2, e, hc⟩ := h
  have h2 : IS w (.slice g M c) L := ⟨g2, c2, e, hc⟩
  simp only [Value.slice.injEq] at e
  obtain ⟨rfl, rfl, rfl⟩ := e
  exact ⟨g, c, rfl, h2, hb⟩
theorem GN.on {base : Nat} {w W : World} {V : Value} {a b : Int} {L : List Int} (h : GN base w V a b L) (hb : Below w.heap.size w W) : GN base W V a b L := by
  obtain ⟨g, c, e, hi, hn⟩ := h
  exact ⟨g, c, e, hi.below hb, hn⟩
theorem GN.away {base : Nat} {w : World} {V : Value} {a b : Int} {L : List Int} (h : GN base w V a b L) {Z : Nat} (hZ : Z < base) (j : Nat) (u : Value) : GN base (w.setCell ⟨Z, j, none⟩ u) V a b L := by
  obtain ⟨g, c, e, hi, hn⟩ := h
  obtain ⟨g2, c2, e2, h3, h4⟩ := hi
  refine ⟨g, c, e, ⟨g2, c2, e2, h3, fun i x hx => ?_⟩, hn⟩
  obtain ⟨b, o, hg, hc⟩ := h4 i x hx
  refine ⟨b, o, hg, (World.cell?_setCell_other _ _ _ _ (fun q => ?_)).trans hc⟩
  simp only [Value.slice.injEq] at e2
  obtain ⟨rfl, -, -⟩ := e2
  have := hn b o none hg (by intro q2; rw [q2] at hx; simp at hx)
  simp only [Addr.mk.injEq] at q
  omega
theorem gn_of {base : Nat} {w : World} {a b wd dp E : Int} {g : Option Addr} {M c : Nat} {L : List Int} (h1 : E = 0 → a = wd ∧ b = dp ∧ IS w (.slice g M c) L ∧ ∀ bl o s, g = some ⟨bl, o, s⟩ → base ≤ bl) (h2 : E ≠ 0 → a = 0 ∧ b = 0 ∧ IS w (.slice g M c) []) : GN base w (.agg #[.int .i64 a, .int .i64 b, .slice g M c]) (gA E wd) (gA E dp) (gL E L) := by
  unfold gA gL
  by_cases h : E = 0
  · obtain ⟨rfl, rfl, h3, h4⟩ := h1 h
    rw [if_pos h, if_pos h, if_pos h]
    exact GN.mk_ h3 (fun bl o s q _ => h4 bl o s q)
  · obtain ⟨rfl, rfl, h3⟩ := h2 h
    rw [if_neg h, if_neg h, if_neg h]
    exact GN.mk_ h3 (fun bl o s _ q => absurd rfl q)
set_option maxRecDepth 100000 in
set_option maxHeartbeats 1000000 in
theorem same_ground (V U : Value) (a b : Int) (L : List Int) (w : World) (hl : L.length ≤ 100000) (h1 : GV w V a b L) (h2 : GV w U a b L) : Calls Try.prog 20 #[V, U] w fun e w' => e = .returned (.bool true) ∧ Below w.heap.size w w' := by
  obtain ⟨g1, c1, rfl, i1⟩ := h1
  obtain ⟨g2, c2, rfl, i2⟩ := h2
  have HS : Kp (∀ W, Below w.heap.size w W → Calls Try.prog 33 #[.slice g1 L.length c1, .slice g2 L.length c2] W fun e w' => e = .returned (.bool true) ∧ Below W.heap.size W w') := ⟨fun W hW => same_ints _ _ L W hl (i1.below hW) (i2.below hW)⟩
  obtain ⟨M, hM⟩ : ∃ M, L.length = M := ⟨_, rfl⟩
  rw [hM] at HS ⊢
  have t1 : (a == a) = true := by simp
  have t2 : (b == b) = true := by simp
  clear i1 i2 hM hl
  go_enter Try.func20, Try.ntmps20
  go_wp2_with fail
  refine (HS.out _ (by repeat (first | exact Below.refl _ _ | refine Below.alloc ?_ (by simp <;> omega) _ | refine bDrewN ?_ _ | refine Below.drew ?_))).mono ?_
  rintro en w1 ⟨rfl, hb1⟩
  have HB1 : Kp (Below w.heap.size w w1) := ⟨Below.trans (by repeat (first | exact Below.refl _ _ | refine Below.alloc ?_ (by simp <;> omega) _ | refine bDrewN ?_ _ | refine Below.drew ?_)) (hb1.mono (by simp <;> omega))⟩
  clear hb1
  go_wp2
  go_ret
  exact ⟨rfl, HB1.out⟩
/-- A row of numbers appended to an empty one: a row of the call's own. -/
theorem run_app0 (W : World) (Z b o c : Nat) (h : List Int) (h0 : 0 < h.length) (hm : h.length ≤ 1000) (hc : ∀ j x, h[j]? = some x → W.cell? ⟨b, o + j, none⟩ = some (.int .i64 x)) :
    ∃ cap W', (Builtin.append_ #[22, 22] 22 #[.slice (some ⟨Z, 0, none⟩) 0 0, .slice (some ⟨b, o, none⟩) h.length c]).run Try.prog W = .ok (.slice (some ⟨W.heap.size, 0, none⟩) h.length cap) W' ∧
      RI W' W.heap.size (.slice (some ⟨W.heap.size, 0, none⟩) h.length cap) h ∧ Below W.heap.size W W' ∧ W'.heap.size = W.heap.size + 1 := by
  obtain ⟨i0, hi0, hz0, hz1, hz2⟩ := info_parts info_int2
  have hsrc : Src Try.prog i0.size 22 (.slice (some ⟨b, o, none⟩) h.length c) h.length (h.map (.int .i64 ·)) W := by
    rw [hz1]
    refine Src.ofSlice W Try.underlying22 _ _ _ _ (by simp) (fun j u hu => ?_) (fun u hu => ?_)
    · rw [List.getElem?_map] at hu
      obtain ⟨x, hx, rfl⟩ := Option.map_eq_some_iff.1 hu
      rw [Addr.add_lit]
      exact hc j x hx
    · obtain ⟨x, -, rfl⟩ := List.mem_map.1 hu
      rfl
  have hrun := run_append_grow_src (P := Try.prog) W 22 22 22 3 i0 (.int .i64 0) Try.underlying22 hi0 hz0 (some ⟨Z, 0, none⟩) 0 0 [] (run_firstCells_some W.drew i0.size 0 ⟨Z, 0, none⟩ 0 0 [] (by simp) (by intro j u hu; simp at hu)) _ _ _ hsrc (by omega) (by omega) (by rw [hz2]; simp only [Builtin.nextslicecap]; rw [if_pos (by omega)]; omega)
  rw [Nat.zero_add] at hrun
  have hcap := grownCap_ge W h.length 0 3
  generalize grownCap W h.length 0 3 = cap at *
  refine ⟨cap, _, hrun, ?_, (Below.drew (Below.refl _ _)).alloc (by simp) _, by simp⟩
  have hh := World.alloc_heap_new W.drew (.cells (([] ++ h.map (Value.int .i64 ·)).toArray ++ Builtin.zeroCells (Value.int .i64 0).cells (cap - h.length)) 3)
  refine ⟨cap, rfl, hcap, fun j => frozen_of_row _ W.heap.size j _ _ hh, fun i x hx => ?_⟩
  rw [cell_of_row _ W.heap.size i _ _ (0, 0) hh]
  have hi := (List.getElem?_eq_some_iff.1 hx).1
  rw [Array.getElem?_append_left (by simpa using hi)]
  simp only [List.nil_append, List.getElem?_toArray, List.getElem?_map, hx]
  rfl
set_option maxRecDepth 100000 in
set_option maxHeartbeats 2000000 in
theorem rwith_st (wd dp x y n p T z : Int) (k : Nat) (L : List Int) (b o c : Nat) (w : World) (h0 : 0 < L.length) (hm : L.length ≤ 1000) (hc : ∀ j x, L[j]? = some x → w.cell? ⟨b, o + j, none⟩ = some (.int .i64 x))
    (hk : L[k]? = some z) (e1 : IntKind.i64.wrap (wd * y) = p) (e2 : IntKind.i64.wrap (x + p) = (k : Int)) (e3 : IntKind.i64.wrap (z + n) = T) :
    Calls Try.prog 54 #[.agg #[.int .i64 wd, .int .i64 dp, .slice (some ⟨b, o, none⟩) L.length c], .int .i64 x, .int .i64 y, .int .i64 n] w fun e w' => (∃ G c2, e = .returned (.agg #[.int .i64 wd, .int .i64 dp, .slice (some ⟨G, 0, none⟩) (L.set k T).length c2]) ∧ w.heap.size ≤ G ∧ RI w' G (.slice (some ⟨G, 0, none⟩) (L.set k T).length c2) (L.set k T)) ∧ Below w.heap.size w w' := by
  have hbl : b < w.heap.size := World.block_lt_of_cell? _ _ (hc 0 _ (List.getElem?_eq_getElem h0))
  obtain ⟨W1, hW1⟩ : ∃ W, ((w.alloc (.cells #[.int .i64 wd, .int .i64 dp, .slice (some ⟨b, o, none⟩) L.length c] 24)).alloc (.cells #[.int .i64 0, .int .i64 0, .slice none 0 0] 24)).alloc (.cells #[] 3) = W := ⟨_, rfl⟩
  have hb1 : Below w.heap.size w W1 := by rw [← hW1]; exact by repeat (first | exact Below.refl _ _ | refine Below.alloc ?_ (by simp <;> omega) _ | refine bDrewN ?_ _ | refine Below.drew ?_)
  have hs1 : W1.heap.size = w.heap.size + 3 := by rw [← hW1]; simp
  have hc1 : ∀ j x, L[j]? = some x → W1.cell? ⟨b, o + j, none⟩ = some (.int .i64 x) := fun j x hx => (hb1.cell (p := ⟨b, o + j, none⟩) hbl).trans (hc j x hx)
  obtain ⟨cap, W2, hrun, hrow, hb2, hz2⟩ := run_app0 W1 (w.heap.size + 2) b o c L h0 hm hc1
  have hcells : W2.cell? ⟨w.heap.size, 0, none⟩ = some (.int .i64 wd) ∧ W2.cell? ⟨w.heap.size, 1, none⟩ = some (.int .i64 dp) ∧ W2.cell? ⟨w.heap.size, 2, none⟩ = some (.slice (some ⟨b, o, none⟩) L.length c) ∧ W2.cell? ⟨w.heap.size + 1, 0, none⟩ = some (.int .i64 0) ∧ W2.cell? ⟨w.heap.size + 1, 1, none⟩ = some (.int .i64 0) ∧ W2.cell? ⟨w.heap.size + 1, 2, none⟩ = some (.slice none 0 0) ∧ (∀ j, W2.frozen? ⟨w.heap.size, j, none⟩ = false) ∧ ∀ j, W2.frozen? ⟨w.heap.size + 1, j, none⟩ = false := by
    subst hW1
    exact ⟨(hb2.cell (p := ⟨_, 0, none⟩) (by simp <;> omega)).trans (by go_simp), (hb2.cell (p := ⟨_, 1, none⟩) (by simp <;> omega)).trans (by go_simp), (hb2.cell (p := ⟨_, 2, none⟩) (by simp <;> omega)).trans (by go_simp), (hb2.cell (p := ⟨_, 0, none⟩) (by simp <;> omega)).trans (by go_simp), (hb2.cell (p := ⟨_, 1, none⟩) (by simp <;> omega)).trans (by go_simp), (hb2.cell (p := ⟨_, 2, none⟩) (by simp <;> omega)).trans (by go_simp), fun j => (World.frozen?_of_block (a := ⟨_, j, none⟩) (hb2.block _ (by simp <;> omega))).trans (by go_simp), fun j => (World.frozen?_of_block (a := ⟨_, j, none⟩) (hb2.block _ (by simp <;> omega))).trans (by go_simp)⟩
  have HR := Kp.mk hrow
  have HB : Kp (Below w.heap.size w W2) := ⟨hb1.trans (hb2.mono hb1.size)⟩
  have hkl := (List.getElem?_eq_some_iff.1 hk).1
  have HKL := Kp.mk (And.intro hkl hk)
  obtain ⟨N, hN⟩ : ∃ N, L.length = N := ⟨_, rfl⟩
  have HLN : Kp ((L.set k T).length = N) := ⟨by rw [List.length_set, hN]⟩
  rw [hN] at hrun HR hkl hW1 ⊢
  rw [hN] at hcells
  rw [hs1] at hrun HR
  rw [← hW1] at hrun
  obtain ⟨G, hG⟩ : ∃ G, w.heap.size + 3 = G := ⟨_, rfl⟩
  have HG := Kp.mk hG
  obtain ⟨cc, -, -, hfz, hcl⟩ := HR.out
  rw [hG] at hrun HR hfz hcl
  have hck := hcl k z hk
  have hfk := hfz k
  obtain ⟨q0, q1, q2, r0, r1, r2, qz, rz⟩ := hcells
  have z2 := qz 2
  have y0 := rz 0
  have y1 := rz 1
  have y2 := rz 2
  have o1 : (k : Int) < (N : Int) := by omega
  have n1 : ¬ w.heap.size = G := by omega
  have n2 : ¬ w.heap.size + 1 = G := by omega
  have n3 : ¬ G = w.heap.size := by omega
  have n4 : ¬ G = w.heap.size + 1 := by omega
  try simp only [Nat.add_assoc, Nat.reduceAdd] at hrun
  clear hW1 hb1 hs1 hc1 hrow hb2 hz2 hcl hfz qz rz hbl hc h0 hm hkl hk hG hN
  go_enter Try.func54, Try.ntmps54
  go_wp2
  have h2 := HG.out
  have hri := (((((HR.out.away n1 2 (.slice (some ⟨G, 0, none⟩) N cap)).put (x := T) HKL.out.1).away n2 0 (.int .i64 wd)).away n2 1 (.int .i64 dp)).away n2 2 (.slice (some ⟨G, 0, none⟩) N cap))
  refine bodyPost_ret (v := .agg #[.int .i64 wd, .int .i64 dp, .slice (some ⟨G, 0, none⟩) N cap]) (by simp [results, Try.results54, go_sem, r0, r1, r2]) rfl ⟨⟨G, cap, by rw [HLN.out], by omega, by rw [HLN.out]; exact hri⟩, ?_⟩
  repeat (first | exact HB.out | refine Below.setCell ?_ (by simp only; omega) _)
set_option maxRecDepth 100000 in
set_option maxHeartbeats 2000000 in
theorem rWith_st (wd dp x y n S z : Int) (A C Q : Bool) (g : Option Addr) (M c : Nat) (E : Int) (L2 : List Int) (w : World)
    (HV : Kp (∀ W, Below w.heap.size w W → Calls Try.prog 17 #[.agg #[.int .i64 wd, .int .i64 dp, .slice g M c]] W fun e w' => e = .returned (.bool A) ∧ Below W.heap.size W w'))
    (HC : Kp (A = true → ∀ W, Calls Try.prog 49 #[.agg #[.int .i64 wd, .int .i64 dp, .slice g M c], .int .i64 x, .int .i64 y] W fun e w' => e = .returned (.bool C) ∧ Below W.heap.size W w'))
    (HI : Kp (∀ W, Calls Try.prog 53 #[.int .i64 n, .int .i64 0, .int .i64 1000] W fun e w' => e = .returned (.bool Q) ∧ W = w'))
    (HAT : Kp (A = true → C = true → (∀ W, Below w.heap.size w W → Calls Try.prog 50 #[.agg #[.int .i64 wd, .int .i64 dp, .slice g M c], .int .i64 x, .int .i64 y] W fun e w' => e = .returned (.int .i64 z) ∧ Below W.heap.size W w') ∧ (Q = true → IntKind.i64.wrap (z + n) = S)))
    (HW : Kp (E = 0 → ∀ W, Below w.heap.size w W → Calls Try.prog 54 #[.agg #[.int .i64 wd, .int .i64 dp, .slice g M c], .int .i64 x, .int .i64 y, .int .i64 n] W fun e w' => (∃ G c2, e = .returned (.agg #[.int .i64 wd, .int .i64 dp, .slice (some ⟨G, 0, none⟩) L2.length c2]) ∧ W.heap.size ≤ G ∧ RI w' G (.slice (some ⟨G, 0, none⟩) L2.length c2) L2) ∧ Below W.heap.size W w'))
    (HE : Kp (E = if A = true then (if C = true ∧ Q = true then (if S ≤ 1000 then 0 else 4) else 7) else 1)) :
    Calls Try.prog 15 #[.agg #[.int .i64 wd, .int .i64 dp, .slice g M c], .int .i64 x, .int .i64 y, .int .i64 n] w fun e w' => (∃ V, e = .returned (.tuple #[V, .int .i64 E]) ∧ GV w' V (gA E wd) (gA E dp) (gL E L2)) ∧ Below w.heap.size w w' := by
  have HZ : ∀ (k : Int) (W : World), k ≠ 0 → GV W (.agg #[.int .i64 0, .int .i64 0, .slice none 0 0]) (gA k wd) (gA k dp) (gL k L2) := fun k W hk => by
    unfold gA gL
    rw [if_neg hk, if_neg hk, if_neg hk]
    exact GV.mk_ (is_nil _)
  have HZZ := Kp.mk HZ
  clear HZ
  go_enter Try.func15, Try.ntmps15
  go_wp2_with fail
  refine (HV.out _ (by repeat (first | exact Below.refl _ _ | refine Below.alloc ?_ (by simp <;> omega) _ | refine bDrewN ?_ _ | refine Below.drew ?_))).mono ?_
  rintro en w1 ⟨rfl, hb1⟩
  have HB1 : Kp (Below w.heap.size w w1) := ⟨Below.trans (by repeat (first | refine Below.alloc ?_ (by (try simp) <;> omega) _ | refine bDrewN ?_ _ | refine Below.drew ?_ | refine Below.setCell ?_ (by (try simp) <;> omega) _ | exact Below.refl _ _)) (hb1.mono (by (try simp) <;> omega))⟩
  have hz1_0 : w.heap.size < w1.heap.size := by have := hb1.size; (try simp at this); omega
  have hz1_1 : w.heap.size + 1 < w1.heap.size := by have := hb1.size; (try simp at this); omega
  obtain ⟨hc, hf⟩ := bcell hb1
  have c1_0_0 : w1.cell? ⟨w.heap.size, 0, none⟩ = some (.int .i64 wd) := (hc _ _ (by (try simp) <;> omega)).trans (by go_simp)
  have c1_0_1 : w1.cell? ⟨w.heap.size, 1, none⟩ = some (.int .i64 dp) := (hc _ _ (by (try simp) <;> omega)).trans (by go_simp)
  have c1_0_2 : w1.cell? ⟨w.heap.size, 2, none⟩ = some ((.slice g M c)) := (hc _ _ (by (try simp) <;> omega)).trans (by go_simp)
  have z1_0 : ∀ j, w1.frozen? ⟨w.heap.size, j, none⟩ = false := fun j => (hf _ _ (by (try simp) <;> omega)).trans (by go_simp)
  have c1_1_0 : w1.cell? ⟨w.heap.size + 1, 0, none⟩ = some (.int .i64 0) := (hc _ _ (by (try simp) <;> omega)).trans (by go_simp)
  have c1_1_1 : w1.cell? ⟨w.heap.size + 1, 1, none⟩ = some (.int .i64 0) := (hc _ _ (by (try simp) <;> omega)).trans (by go_simp)
  have c1_1_2 : w1.cell? ⟨w.heap.size + 1, 2, none⟩ = some ((.slice none 0 0)) := (hc _ _ (by (try simp) <;> omega)).trans (by go_simp)
  have z1_1 : ∀ j, w1.frozen? ⟨w.heap.size + 1, j, none⟩ = false := fun j => (hf _ _ (by (try simp) <;> omega)).trans (by go_simp)
  clear hc hf hb1
  clear HV
  cases A with
  | false =>
    have hE : E = 1 := by rw [HE.out]; rfl
    subst hE
    have z0 := z1_1 0
    have z1 := z1_1 1
    have z2 := z1_1 2
    clear HE HC HAT HW
    go_wp2
    refine bodyPost_ret (v := .tuple #[.agg #[.int .i64 0, .int .i64 0, .slice none 0 0], .int .i64 1]) (by simp [results, Try.results15, go_sem, c1_1_0, c1_1_1, c1_1_2]) rfl ⟨⟨_, rfl, HZZ.out 1 _ (by decide)⟩, ?_⟩
    repeat (first | exact HB1.out | refine Below.setCell ?_ (by simp only; omega) _)
  | true =>
    have HC2 := Kp.mk (HC.out rfl)
    clear HC
    go_wp2_with fail
    refine (HC2.out _).mono ?_
    rintro en w2 ⟨rfl, hb2⟩
    clear HC2
    have HB2 : Kp (Below w.heap.size w w2) := ⟨Below.trans (by repeat (first | refine Below.alloc ?_ (by have := HB1.out.size; (try simp) <;> omega) _ | refine bDrewN ?_ _ | refine Below.drew ?_ | refine Below.setCell ?_ (by have := HB1.out.size; (try simp) <;> omega) _ | exact HB1.out)) (hb2.mono (by have := HB1.out.size; (try simp) <;> omega))⟩
    have hz2_0 : w.heap.size < w2.heap.size := by have := hb2.size; (try simp at this); omega
    have hz2_1 : w.heap.size + 1 < w2.heap.size := by have := hb2.size; (try simp at this); omega
    obtain ⟨hc, hf⟩ := bcell hb2
    have c2_0_0 : w2.cell? ⟨w.heap.size, 0, none⟩ = some (.int .i64 wd) := (hc _ _ (by (try simp) <;> omega)).trans (by go_simp)
    have c2_0_1 : w2.cell? ⟨w.heap.size, 1, none⟩ = some (.int .i64 dp) := (hc _ _ (by (try simp) <;> omega)).trans (by go_simp)
    have c2_0_2 : w2.cell? ⟨w.heap.size, 2, none⟩ = some ((.slice g M c)) := (hc _ _ (by (try simp) <;> omega)).trans (by go_simp)
    have z2_0 : ∀ j, w2.frozen? ⟨w.heap.size, j, none⟩ = false := fun j => (hf _ _ (by (try simp) <;> omega)).trans (by go_simp)
    have c2_1_0 : w2.cell? ⟨w.heap.size + 1, 0, none⟩ = some (.int .i64 0) := (hc _ _ (by (try simp) <;> omega)).trans (by go_simp)
    have c2_1_1 : w2.cell? ⟨w.heap.size + 1, 1, none⟩ = some (.int .i64 0) := (hc _ _ (by (try simp) <;> omega)).trans (by go_simp)
    have c2_1_2 : w2.cell? ⟨w.heap.size + 1, 2, none⟩ = some ((.slice none 0 0)) := (hc _ _ (by (try simp) <;> omega)).trans (by go_simp)
    have z2_1 : ∀ j, w2.frozen? ⟨w.heap.size + 1, j, none⟩ = false := fun j => (hf _ _ (by (try simp) <;> omega)).trans (by go_simp)
    clear hc hf hb2
    have z0 := z2_1 0
    have z1 := z2_1 1
    have z2 := z2_1 2
    cases C with
    | false =>
      have hE : E = 7 := by rw [HE.out]; rfl
      subst hE
      clear HE HAT HW
      go_wp2
      refine bodyPost_ret (v := .tuple #[.agg #[.int .i64 0, .int .i64 0, .slice none 0 0], .int .i64 7]) (by simp [results, Try.results15, go_sem, c2_1_0, c2_1_1, c2_1_2]) rfl ⟨⟨_, rfl, HZZ.out 7 _ (by decide)⟩, ?_⟩
      repeat (first | exact HB2.out | refine Below.setCell ?_ (by simp only; omega) _)
    | true =>
      go_wp2_with fail
      refine (HI.out _).mono ?_
      rintro en w2' ⟨rfl, rfl⟩
      clear HI
      cases Q with
      | false =>
        have hE : E = 7 := by rw [HE.out]; rfl
        subst hE
        clear HE HAT HW
        go_wp2
        refine bodyPost_ret (v := .tuple #[.agg #[.int .i64 0, .int .i64 0, .slice none 0 0], .int .i64 7]) (by simp [results, Try.results15, go_sem, c2_1_0, c2_1_1, c2_1_2]) rfl ⟨⟨_, rfl, HZZ.out 7 _ (by decide)⟩, ?_⟩
        repeat (first | exact HB2.out | refine Below.setCell ?_ (by simp only; omega) _)
      | true =>
        obtain ⟨hat, hs⟩ := HAT.out (by simp) (by simp)
        have HA2 := Kp.mk hat
        have HSS := Kp.mk (hs (by simp))
        clear HAT hat hs z0 z1 z2
        go_wp2_with fail
        refine (HA2.out _ HB2.out).mono ?_
        rintro en w3 ⟨rfl, hb3⟩
        clear HA2
        have HB3 : Kp (Below w.heap.size w w3) := ⟨Below.trans (by repeat (first | refine Below.alloc ?_ (by have := HB2.out.size; (try simp) <;> omega) _ | refine bDrewN ?_ _ | refine Below.drew ?_ | refine Below.setCell ?_ (by have := HB2.out.size; (try simp) <;> omega) _ | exact HB2.out)) (hb3.mono (by have := HB2.out.size; (try simp) <;> omega))⟩
        have hz3_0 : w.heap.size < w3.heap.size := by have := hb3.size; (try simp at this); omega
        have hz3_1 : w.heap.size + 1 < w3.heap.size := by have := hb3.size; (try simp at this); omega
        obtain ⟨hc, hf⟩ := bcell hb3
        have c3_0_0 : w3.cell? ⟨w.heap.size, 0, none⟩ = some (.int .i64 wd) := (hc _ _ (by (try simp) <;> omega)).trans (by go_simp)
        have c3_0_1 : w3.cell? ⟨w.heap.size, 1, none⟩ = some (.int .i64 dp) := (hc _ _ (by (try simp) <;> omega)).trans (by go_simp)
        have c3_0_2 : w3.cell? ⟨w.heap.size, 2, none⟩ = some ((.slice g M c)) := (hc _ _ (by (try simp) <;> omega)).trans (by go_simp)
        have z3_0 : ∀ j, w3.frozen? ⟨w.heap.size, j, none⟩ = false := fun j => (hf _ _ (by (try simp) <;> omega)).trans (by go_simp)
        have c3_1_0 : w3.cell? ⟨w.heap.size + 1, 0, none⟩ = some (.int .i64 0) := (hc _ _ (by (try simp) <;> omega)).trans (by go_simp)
        have c3_1_1 : w3.cell? ⟨w.heap.size + 1, 1, none⟩ = some (.int .i64 0) := (hc _ _ (by (try simp) <;> omega)).trans (by go_simp)
        have c3_1_2 : w3.cell? ⟨w.heap.size + 1, 2, none⟩ = some ((.slice none 0 0)) := (hc _ _ (by (try simp) <;> omega)).trans (by go_simp)
        have z3_1 : ∀ j, w3.frozen? ⟨w.heap.size + 1, j, none⟩ = false := fun j => (hf _ _ (by (try simp) <;> omega)).trans (by go_simp)
        clear hc hf hb3
        have z0 := z3_1 0
        have z1 := z3_1 1
        have z2 := z3_1 2
        have k0 := HSS.out
        by_cases hS : S ≤ 1000
        · have hE : E = 0 := by rw [HE.out]; simp [hS]
          subst hE
          have HW2 := Kp.mk (HW.out rfl)
          have o1 : ¬ 1000 < S := by omega
          clear HE HW hS
          go_wp2_with fail
          refine (HW2.out _ HB3.out).mono ?_
          rintro en w4 ⟨⟨G, c2, rfl, hG, hr⟩, hb4⟩
          have HRI := Kp.mk hr
          have n2 : ¬ w.heap.size + 1 = G := by have := hz3_1; omega
          clear hr HW2 k0 o1 z0 z1 z2 hG
          have HB4 : Kp (Below w.heap.size w w4) := ⟨Below.trans (by repeat (first | refine Below.alloc ?_ (by have := HB3.out.size; (try simp) <;> omega) _ | refine bDrewN ?_ _ | refine Below.drew ?_ | refine Below.setCell ?_ (by have := HB3.out.size; (try simp) <;> omega) _ | exact HB3.out)) (hb4.mono (by have := HB3.out.size; (try simp) <;> omega))⟩
          have hz4_0 : w.heap.size + 1 < w4.heap.size := by have := hb4.size; (try simp at this); omega
          obtain ⟨hc, hf⟩ := bcell hb4
          have c4_0_0 : w4.cell? ⟨w.heap.size + 1, 0, none⟩ = some (.int .i64 0) := (hc _ _ (by (try simp) <;> omega)).trans (by go_simp)
          have c4_0_1 : w4.cell? ⟨w.heap.size + 1, 1, none⟩ = some (.int .i64 0) := (hc _ _ (by (try simp) <;> omega)).trans (by go_simp)
          have c4_0_2 : w4.cell? ⟨w.heap.size + 1, 2, none⟩ = some ((.slice none 0 0)) := (hc _ _ (by (try simp) <;> omega)).trans (by go_simp)
          have z4_0 : ∀ j, w4.frozen? ⟨w.heap.size + 1, j, none⟩ = false := fun j => (hf _ _ (by (try simp) <;> omega)).trans (by go_simp)
          clear hc hf hb4
          have z0 := z4_0 0
          have z1 := z4_0 1
          have z2 := z4_0 2
          obtain ⟨N2, hN2⟩ : ∃ N, L2.length = N := ⟨_, rfl⟩
          rw [hN2] at HRI ⊢
          clear hN2
          go_wp2
          refine bodyPost_ret (v := .tuple #[.agg #[.int .i64 wd, .int .i64 dp, .slice (some ⟨G, 0, none⟩) N2 c2], .int .i64 0]) (by simp [results, Try.results15, go_sem, c4_0_0, c4_0_1, c4_0_2]) rfl ⟨⟨_, rfl, ?_⟩, ?_⟩
          · show GV _ _ wd dp L2
            refine GV.mk_ (RI.is (G := G) ?_)
            repeat (first | exact HRI.out | refine RI.away ?_ n2 _ _)
          · repeat (first | exact HB4.out | refine Below.setCell ?_ (by simp only; omega) _)
        · have hE : E = 4 := by rw [HE.out]; simp [hS]
          subst hE
          have o1 : 1000 < S := by omega
          clear HE HW hS
          go_wp2
          refine bodyPost_ret (v := .tuple #[.agg #[.int .i64 0, .int .i64 0, .slice none 0 0], .int .i64 4]) (by simp [results, Try.results15, go_sem, c3_1_0, c3_1_1, c3_1_2]) rfl ⟨⟨_, rfl, HZZ.out 4 _ (by decide)⟩, ?_⟩
          repeat (first | exact HB3.out | refine Below.setCell ?_ (by simp only; omega) _)
theorem rWith_any (wd dp x y n : Int) (v : Value) (L : List Int) (w : World) (hv : IS w v L) (hl : L.length ≤ 9223372036854775807) :
    Calls Try.prog 15 #[.agg #[.int .i64 wd, .int .i64 dp, v], .int .i64 x, .int .i64 y, .int .i64 n] w fun e w' => (∃ V, e = .returned (.tuple #[V, .int .i64 (wE wd dp L x y n)]) ∧ GV w' V (gA (wE wd dp L x y n) wd) (gA (wE wd dp L x y n) dp) (gL (wE wd dp L x y n) (wL wd L x y n))) ∧ Below w.heap.size w w' := by
  have HV : Kp (∀ W, Below w.heap.size w W → Calls Try.prog 17 #[.agg #[.int .i64 wd, .int .i64 dp, v]] W fun e w' => e = .returned (.bool (gdB wd dp L)) ∧ Below W.heap.size W w') := ⟨fun W hW => rValid_any wd dp v L W (hv.below hW) hl⟩
  have hv0 := hv
  obtain ⟨g, c, rfl⟩ := hv.shape
  refine rWith_st wd dp x y n (gAt wd L x y + n) (gAt wd L x y) (gdB wd dp L) (cellB wd dp x y) (inB 0 1000 n) g L.length c _ _ w HV ⟨fun h W => rcell_any wd dp _ x y W (gdB_iff h).1 (gdB_iff h).2.1⟩ ⟨fun W => rin_any n 0 1000 W⟩ ⟨fun h1 h2 => ?_⟩ ⟨fun h W hW => ?_⟩ ⟨?_⟩
  · obtain ⟨⟨c1, c2⟩, ⟨d1, d2⟩, e1, e2⟩ := cell_bd h1 h2
    obtain ⟨⟨a1, a2⟩, ⟨b1, b2⟩, -, hal⟩ := gdB_iff h1
    have hat : L[cellN wd x y]? = some (gAt wd L x y) := by
      show _ = some (L.getD (cellN wd x y) 0)
      rw [List.getD_eq_getElem?_getD, List.getElem?_eq_getElem e2]
      rfl
    have hb := allIn_at hal hat
    exact ⟨fun W hW => rat_any wd dp _ L x y W (hv0.below hW) (by omega) a2 c1 (by omega) d1 (by omega) e2, fun hq => by rw [inB_iff] at hq; exact IntWalk.i64_in _ (by omega)⟩
  · obtain ⟨h1, h2, h3, h4⟩ := wE_zero h
    obtain ⟨⟨c1, c2⟩, ⟨d1, d2⟩, e1, e2⟩ := cell_bd h1 h2
    obtain ⟨⟨a1, a2⟩, ⟨b1, b2⟩, -, hal⟩ := gdB_iff h1
    have hg := gd_len h1
    have hat : L[cellN wd x y]? = some (L.getD (cellN wd x y) 0) := by
      rw [List.getD_eq_getElem?_getD, List.getElem?_eq_getElem e2]
      rfl
    have hb := allIn_at hal hat
    have hp : 0 ≤ wd * y ∧ wd * y ≤ 24 * 24 := ⟨Int.mul_nonneg (by omega) d1, Int.mul_le_mul a2 (by omega) d1 (by omega)⟩
    obtain ⟨b, o, cc, he, hcell⟩ := (hv0.below hW).at hg.1
    simp only [Value.slice.injEq] at he
    obtain ⟨rfl, -, rfl⟩ := he
    exact rwith_st wd dp x y n (wd * y) (L.getD (cellN wd x y) 0 + n) (L.getD (cellN wd x y) 0) (cellN wd x y) L b o c W hg.1 (by omega) (fun j z hz => by
      have hj := (List.getElem?_eq_some_iff.1 hz).1
      rw [hcell j hj, List.getD_eq_getElem?_getD, hz]
      rfl) hat (IntWalk.i64_in _ (by omega)) (by rw [IntWalk.i64_in _ (by omega), e1]) (IntWalk.i64_in _ (by omega))
  · show wiE (chkE (cellB wd dp x y && inB 0 1000 n) (gdB wd dp L) true) (decide (gAt wd L x y + n ≤ 1000)) = _
    cases gdB wd dp L <;> cases cellB wd dp x y <;> cases inB 0 1000 n <;> simp [chkE, wiE]
end Go.Proofs.Ytjnggchljilooaa.Sc
