/-
  WALKS (layer 5, carve): a block without some grains.
-/
import Derived.Test.YtcjlijiifhggfaaCvDup
namespace Go.Proofs.Ytcjlijiifhggfaa.Cv
open Go Go.RowKit

def lessB (s : Nat) (h : List Bool) (l : List Gr) (g : Gr) : Bool := hasB s h g && !decide (g ∈ l)
set_option maxRecDepth 100000 in
theorem carved1_any (s : Nat) (B D b : Nat) (g1 : Option Addr) (c1 : Nat) (h : List Bool) (l : List Gr) (g : Gr) (W : World) (hs2 : s ≤ 10) (hl : h.length = s * s * s) (h0 : W.cell? ⟨B, 0, none⟩ = some (.int .i64 s)) (h1 : W.cell? ⟨B, 1, none⟩ = some (.slice g1 h.length c1)) (hv : LB W (.slice g1 h.length c1) h) (hD : W.cell? ⟨D, 0, none⟩ = some (.map (some b))) (hs : SM W b l) (ho : ∀ x ∈ l, x.ok) (hg : insB s g = true) :
    Calls Try.prog 61 (#[.agg #[.int .i64 g.x, .int .i64 g.y, .int .i64 g.z]] ++ #[.pointer (some ⟨B, 0, none⟩), .pointer (some ⟨D, 0, none⟩)]) W fun e w' => e = .returned (.bool (lessB s h l g)) ∧ Below W.heap.size W w' := by
  have HH : Kp (∀ X, Below W.heap.size W X → Calls Try.prog 62 #[.agg #[.int .i64 s, .slice g1 h.length c1], .agg #[.int .i64 g.x, .int .i64 g.y, .int .i64 g.z]] X fun e w' => e = .returned (.bool (hasB s h g)) ∧ Below X.heap.size X w') := ⟨fun X hX => has_any s _ h g X hs2 hl (hv.below hX)⟩
  have hB := World.block_lt_of_cell? _ _ h0
  have hDl := World.block_lt_of_cell? _ _ hD
  have HSM : Kp (∀ X, Below W.heap.size W X → (Instr.lookup 92 (.map (some b)) (.agg #[.int .i64 g.x, .int .i64 g.y, .int .i64 g.z]) false).run Try.prog X = .ok (.bool (decide (g ∈ l))) X) := ⟨fun X hX => SM.has (hs.on hX) ho (ins_ok hs2 hg)⟩
  obtain ⟨M, hM⟩ : ∃ M, h.length = M := ⟨_, rfl⟩
  rw [hM] at h1 HH
  obtain ⟨R, hR⟩ : ∃ R, decide (g ∈ l) = R := ⟨_, rfl⟩
  unfold lessB
  rw [hR] at HSM ⊢
  obtain ⟨Q, hQ⟩ : ∃ Q, hasB s h g = Q := ⟨_, rfl⟩
  rw [hQ] at HH ⊢
  obtain ⟨x, y, z⟩ := g
  simp only at HH HSM ⊢
  clear hl hv hs ho hg hM hR hQ
  cases Q with
  | false =>
    go_enter Try.func61, Try.ntmps61
    go_wp2_with fail
    refine (HH.out _ (by repeat (first | exact Below.refl _ _ | refine Below.alloc ?_ (by simp <;> omega) _ | refine bDrewN ?_ _ | refine Below.drew ?_))).mono ?_
    rintro en w1 ⟨rfl, hb1⟩
    have HB1 : Kp (Below W.heap.size W w1) := ⟨Below.trans (by repeat (first | exact Below.refl _ _ | refine Below.alloc ?_ (by simp <;> omega) _ | refine bDrewN ?_ _ | refine Below.drew ?_)) (hb1.mono (by simp <;> omega))⟩
    clear hb1
    go_wp2
    go_ret
    exact ⟨rfl, HB1.out⟩
  | true =>
    go_enter Try.func61, Try.ntmps61
    go_wp2_with fail
    refine (HH.out _ (by repeat (first | exact Below.refl _ _ | refine Below.alloc ?_ (by simp <;> omega) _ | refine bDrewN ?_ _ | refine Below.drew ?_))).mono ?_
    rintro en w1 ⟨rfl, hb1⟩
    have HB1 : Kp (Below W.heap.size W w1) := ⟨Below.trans (by repeat (first | exact Below.refl _ _ | refine Below.alloc ?_ (by simp <;> omega) _ | refine bDrewN ?_ _ | refine Below.drew ?_)) (hb1.mono (by simp <;> omega))⟩
    have hk0 : w1.cell? ⟨W.heap.size, 0, none⟩ = some (.int .i64 x) := (hb1.cell (p := ⟨_, _, none⟩) (by simp)).trans (by go_simp)
    have hk1 : w1.cell? ⟨W.heap.size, 1, none⟩ = some (.int .i64 y) := (hb1.cell (p := ⟨_, _, none⟩) (by simp)).trans (by go_simp)
    have hk2 : w1.cell? ⟨W.heap.size, 2, none⟩ = some (.int .i64 z) := (hb1.cell (p := ⟨_, _, none⟩) (by simp)).trans (by go_simp)
    have hd1 : w1.cell? ⟨D, 0, none⟩ = some (.map (some b)) := (HB1.out.cell (p := ⟨D, _, none⟩) hDl).trans hD
    have hrun := HSM.out w1 HB1.out
    clear hb1
    go_wp2
    go_ret
    exact ⟨by simp, HB1.out⟩
/-- What is left. -/
def lessL (s : Nat) (h : List Bool) (l : List Gr) : List Bool := (placesL s).map (lessB s h l)
def carE (n : Int) (h : List Bool) (l : List Gr) : Int := if blockB n h.length = true then (if allB n l = true then 0 else 7) else 1
def carS (n : Int) (h : List Bool) (l : List Gr) : Int := if carE n h l = 0 then n else 0
def carL (n : Int) (h : List Bool) (l : List Gr) : List Bool := if carE n h l = 0 then lessL n.toNat h l else []
theorem car_bad {n : Int} {h : List Bool} {l : List Gr} {r : Int} (g : carE n h l = r) (hr : r ≠ 0) : carS n h l = 0 ∧ carL n h l = [] := by
  unfold carS carL
  rw [g, if_neg hr, if_neg hr]
  exact ⟨rfl, rfl⟩
theorem Carved_inv (n : Int) (g1 : Option Addr) (m c1 : Nat) (v : Value) (l : List Gr) (w : World) (hv : GS w v l) (h : blockB n m = false) : Calls Try.prog 28 #[.agg #[.int .i64 n, .slice g1 m c1], v] w (OfNo w 1) := by
  have HB : Kp (∀ W, Calls Try.prog 32 #[.agg #[.int .i64 n, .slice g1 m c1]] W fun e w' => e = .returned (.bool false) ∧ Below W.heap.size W w') := ⟨fun W => h ▸ ValidBlock_any n g1 m c1 W⟩
  obtain ⟨gv, cv, rfl⟩ := hv.shape
  clear hv h
  go_enter Try.func28, Try.ntmps28
  go_wp2_with fail
  refine (HB.out _).mono ?_
  rintro en w1 ⟨rfl, hb1⟩
  have HB1 : Kp (Below w.heap.size w w1) := ⟨Below.trans (by repeat (first | refine Below.alloc ?_ (by (try simp) <;> omega) _ | refine bDrewN ?_ _ | refine Below.drew ?_ | refine Below.setCell ?_ (by (try simp) <;> omega) _ | exact Below.refl _ _)) (hb1.mono (by (try simp) <;> omega))⟩
  have hz1_0 : w.heap.size < w1.heap.size := by have := hb1.size; (try simp at this); omega
  have hz1_1 : w.heap.size + 1 < w1.heap.size := by have := hb1.size; (try simp at this); omega
  obtain ⟨hc, hf⟩ := bcell hb1
  have c1_0_0 : w1.cell? ⟨w.heap.size, 0, none⟩ = some (.int .i64 n) := (hc _ _ (by (try simp) <;> omega)).trans (by go_simp)
  have c1_0_1 : w1.cell? ⟨w.heap.size, 1, none⟩ = some ((.slice g1 m c1)) := (hc _ _ (by (try simp) <;> omega)).trans (by go_simp)
  have z1_0 : ∀ j, w1.frozen? ⟨w.heap.size, j, none⟩ = false := fun j => (hf _ _ (by (try simp) <;> omega)).trans (by go_simp)
  have c1_1_0 : w1.cell? ⟨w.heap.size + 1, 0, none⟩ = some (.int .i64 0) := (hc _ _ (by (try simp) <;> omega)).trans (by go_simp)
  have c1_1_1 : w1.cell? ⟨w.heap.size + 1, 1, none⟩ = some ((.slice none 0 0)) := (hc _ _ (by (try simp) <;> omega)).trans (by go_simp)
  have z1_1 : ∀ j, w1.frozen? ⟨w.heap.size + 1, j, none⟩ = false := fun j => (hf _ _ (by (try simp) <;> omega)).trans (by go_simp)
  clear hc hf hb1
  go_wp2
  exact bodyPost_ret (v := .tuple #[.agg #[.int .i64 0, .slice none 0 0], .int .i64 1]) (by simp [results, Try.results28, go_sem, c1_1_0, c1_1_1]) rfl ⟨rfl, by (have hzS := HB1.out.size; (repeat (with_reducible first | exact HB1.out | refine Below.setCell ?_ ?_ _ | refine Below.alloc ?_ ?_ _ | refine Below.drew ?_ | refine bDrewN ?_ _)); all_goals ((try simp) <;> omega))⟩
set_option maxRecDepth 100000 in
theorem Carved_out (n : Int) (g1 : Option Addr) (m c1 : Nat) (v : Value) (l : List Gr) (w : World) (hv : GS w v l) (hm : l.length ≤ 4611686018427387904) (h : blockB n m = true) (g : allB n l = false) : Calls Try.prog 28 #[.agg #[.int .i64 n, .slice g1 m c1], v] w (OfNo w 7) := by
  have HB : Kp (∀ W, Calls Try.prog 32 #[.agg #[.int .i64 n, .slice g1 m c1]] W fun e w' => e = .returned (.bool true) ∧ Below W.heap.size W w') := ⟨fun W => h ▸ ValidBlock_any n g1 m c1 W⟩
  have HA : Kp (∀ W, Below w.heap.size w W → Calls Try.prog 58 #[v, .int .i64 n] W fun e w' => e = .returned (.bool false) ∧ Below W.heap.size W w') := ⟨fun W hW => g ▸ allInside_any n v l W (hv.below hW) hm⟩
  obtain ⟨gv, cv, rfl⟩ := hv.shape
  clear hv h g hm
  go_enter Try.func28, Try.ntmps28
  go_wp2_with fail
  refine (HB.out _).mono ?_
  rintro en w1 ⟨rfl, hb1⟩
  have HB1 : Kp (Below w.heap.size w w1) := ⟨Below.trans (by repeat (first | refine Below.alloc ?_ (by (try simp) <;> omega) _ | refine bDrewN ?_ _ | refine Below.drew ?_ | refine Below.setCell ?_ (by (try simp) <;> omega) _ | exact Below.refl _ _)) (hb1.mono (by (try simp) <;> omega))⟩
  have hz1_0 : w.heap.size < w1.heap.size := by have := hb1.size; (try simp at this); omega
  have hz1_1 : w.heap.size + 1 < w1.heap.size := by have := hb1.size; (try simp at this); omega
  obtain ⟨hc, hf⟩ := bcell hb1
  have c1_0_0 : w1.cell? ⟨w.heap.size, 0, none⟩ = some (.int .i64 n) := (hc _ _ (by (try simp) <;> omega)).trans (by go_simp)
  have c1_0_1 : w1.cell? ⟨w.heap.size, 1, none⟩ = some ((.slice g1 m c1)) := (hc _ _ (by (try simp) <;> omega)).trans (by go_simp)
  have z1_0 : ∀ j, w1.frozen? ⟨w.heap.size, j, none⟩ = false := fun j => (hf _ _ (by (try simp) <;> omega)).trans (by go_simp)
  have c1_1_0 : w1.cell? ⟨w.heap.size + 1, 0, none⟩ = some (.int .i64 0) := (hc _ _ (by (try simp) <;> omega)).trans (by go_simp)
  have c1_1_1 : w1.cell? ⟨w.heap.size + 1, 1, none⟩ = some ((.slice none 0 0)) := (hc _ _ (by (try simp) <;> omega)).trans (by go_simp)
  have z1_1 : ∀ j, w1.frozen? ⟨w.heap.size + 1, j, none⟩ = false := fun j => (hf _ _ (by (try simp) <;> omega)).trans (by go_simp)
  clear hc hf hb1
  go_wp2_with fail
  refine (HA.out _ HB1.out).mono ?_
  rintro en w2 ⟨rfl, hb2⟩
  have HB2 : Kp (Below w.heap.size w w2) := ⟨Below.trans (by repeat (first | refine Below.alloc ?_ (by have := HB1.out.size; (try simp) <;> omega) _ | refine bDrewN ?_ _ | refine Below.drew ?_ | refine Below.setCell ?_ (by have := HB1.out.size; (try simp) <;> omega) _ | exact HB1.out)) (hb2.mono (by have := HB1.out.size; (try simp) <;> omega))⟩
  have hz2_0 : w.heap.size < w2.heap.size := by have := hb2.size; (try simp at this); omega
  have hz2_1 : w.heap.size + 1 < w2.heap.size := by have := hb2.size; (try simp at this); omega
  obtain ⟨hc, hf⟩ := bcell hb2
  have c2_0_0 : w2.cell? ⟨w.heap.size, 0, none⟩ = some (.int .i64 n) := (hc _ _ (by (try simp) <;> omega)).trans (by go_simp)
  have c2_0_1 : w2.cell? ⟨w.heap.size, 1, none⟩ = some ((.slice g1 m c1)) := (hc _ _ (by (try simp) <;> omega)).trans (by go_simp)
  have z2_0 : ∀ j, w2.frozen? ⟨w.heap.size, j, none⟩ = false := fun j => (hf _ _ (by (try simp) <;> omega)).trans (by go_simp)
  have c2_1_0 : w2.cell? ⟨w.heap.size + 1, 0, none⟩ = some (.int .i64 0) := (hc _ _ (by (try simp) <;> omega)).trans (by go_simp)
  have c2_1_1 : w2.cell? ⟨w.heap.size + 1, 1, none⟩ = some ((.slice none 0 0)) := (hc _ _ (by (try simp) <;> omega)).trans (by go_simp)
  have z2_1 : ∀ j, w2.frozen? ⟨w.heap.size + 1, j, none⟩ = false := fun j => (hf _ _ (by (try simp) <;> omega)).trans (by go_simp)
  clear hc hf hb2 c1_0_0 c1_0_1 z1_0 c1_1_0 c1_1_1 z1_1
  go_wp2
  exact bodyPost_ret (v := .tuple #[.agg #[.int .i64 0, .slice none 0 0], .int .i64 7]) (by simp [results, Try.results28, go_sem, c2_1_0, c2_1_1]) rfl ⟨rfl, by (have hzS := HB2.out.size; (repeat (with_reducible first | exact HB2.out | refine Below.setCell ?_ ?_ _ | refine Below.alloc ?_ ?_ _ | refine Below.drew ?_ | refine bDrewN ?_ _)); all_goals ((try simp) <;> omega))⟩
set_option maxRecDepth 100000 in
set_option maxHeartbeats 1000000 in
theorem Carved_ok (s : Nat) (u v : Value) (h : List Bool) (l : List Gr) (w : World) (hu : LB w u h) (hv : GS w v l) (hm : l.length ≤ 4611686018427387904) (hs : 1 ≤ s) (hs2 : s ≤ 10) (hl : h.length = s * s * s) (hb : blockB s h.length = true) (g : allB s l = true) :
    Calls Try.prog 28 #[.agg #[.int .i64 s, u], v] w fun en w' => ∃ r, en = .returned (.tuple #[r, .int .i64 0]) ∧ VF w.heap.size w' r s (lessL s h l) ∧ Below w.heap.size w w' := by
  have HO : Kp (∀ x ∈ l, insB s x = true) := ⟨fun x hx => by
    unfold allB at g
    rw [List.all_eq_true] at g
    rw [← inB_ins]
    exact g x hx⟩
  obtain ⟨g1, c1, rfl⟩ := hu.shape
  have HU := Kp.mk hu
  have HB : Kp (∀ W, Calls Try.prog 32 #[.agg #[.int .i64 s, .slice g1 h.length c1]] W fun e w' => e = .returned (.bool true) ∧ Below W.heap.size W w') := ⟨fun W => hb ▸ ValidBlock_any s g1 h.length c1 W⟩
  have HA : Kp (∀ W, Below w.heap.size w W → Calls Try.prog 58 #[v, .int .i64 s] W fun e w' => e = .returned (.bool true) ∧ Below W.heap.size W w') := ⟨fun W hW => g ▸ allInside_any s v l W (hv.below hW) hm⟩
  have HS : Kp (∀ W, Below w.heap.size w W → Calls Try.prog 59 #[v] W fun e w' => ∃ b, e = .returned (.map (some b)) ∧ W.heap.size ≤ b ∧ SM w' b l ∧ Below W.heap.size W w') := ⟨fun W hW => setOf_any v l W (hv.below hW) hm (fun x hx => ins_ok hs2 (HO.out x hx))⟩
  have HM : Kp (∀ W (B D b : Nat), Below w.heap.size w W → W.cell? ⟨B, 0, none⟩ = some (.int .i64 s) → W.cell? ⟨B, 1, none⟩ = some (.slice g1 h.length c1) → W.cell? ⟨D, 0, none⟩ = some (.map (some b)) → SM W b l → Calls Try.prog 60 #[.int .i64 s, .func (.func 61) #[] #[.pointer (some ⟨B, 0, none⟩), .pointer (some ⟨D, 0, none⟩)]] W fun e w' => ∃ v, e = .returned (.agg #[.int .i64 s, v]) ∧ NB W.heap.size w' v (lessL s h l) ∧ Below W.heap.size W w') := ⟨fun W B D b hW h0 h1 hD hS => made_any 61 #[.pointer (some ⟨B, 0, none⟩), .pointer (some ⟨D, 0, none⟩)] (lessB s h l) s W hs hs2 (enters_of Try.func61 (by kernel_rfl) rfl) ⟨fun X g hX hg => carved1_any s B D b g1 c1 h l g X hs2 hl ((hX.cell (p := ⟨B, 0, none⟩) (World.block_lt_of_cell? _ _ h0)).trans h0) ((hX.cell (p := ⟨B, 1, none⟩) (World.block_lt_of_cell? _ _ h1)).trans h1) ((HU.out.below hW).below hX) ((hX.cell (p := ⟨D, 0, none⟩) (World.block_lt_of_cell? _ _ hD)).trans hD) (hS.on hX) (fun x hx => ins_ok hs2 (HO.out x hx)) hg⟩⟩
  obtain ⟨gv, cv, rfl⟩ := hv.shape
  obtain ⟨M, hM⟩ : ∃ M, h.length = M := ⟨_, rfl⟩
  rw [hM] at HB HM ⊢
  clear hu HU hv hm hl hb g HO hM
  go_enter Try.func28, Try.ntmps28
  go_wp2_with fail
  refine (HB.out _).mono ?_
  rintro en w1 ⟨rfl, hb1⟩
  have HB1 : Kp (Below w.heap.size w w1) := ⟨Below.trans (by repeat (first | refine Below.alloc ?_ (by (try simp) <;> omega) _ | refine bDrewN ?_ _ | refine Below.drew ?_ | refine Below.setCell ?_ (by (try simp) <;> omega) _ | exact Below.refl _ _)) (hb1.mono (by (try simp) <;> omega))⟩
  have hz1_0 : w.heap.size < w1.heap.size := by have := hb1.size; (try simp at this); omega
  have hz1_1 : w.heap.size + 1 < w1.heap.size := by have := hb1.size; (try simp at this); omega
  obtain ⟨hc, hf⟩ := bcell hb1
  have c1_0_0 : w1.cell? ⟨w.heap.size, 0, none⟩ = some (.int .i64 s) := (hc _ _ (by (try simp) <;> omega)).trans (by go_simp)
  have c1_0_1 : w1.cell? ⟨w.heap.size, 1, none⟩ = some ((.slice g1 M c1)) := (hc _ _ (by (try simp) <;> omega)).trans (by go_simp)
  have z1_0 : ∀ j, w1.frozen? ⟨w.heap.size, j, none⟩ = false := fun j => (hf _ _ (by (try simp) <;> omega)).trans (by go_simp)
  have c1_1_0 : w1.cell? ⟨w.heap.size + 1, 0, none⟩ = some (.int .i64 0) := (hc _ _ (by (try simp) <;> omega)).trans (by go_simp)
  have c1_1_1 : w1.cell? ⟨w.heap.size + 1, 1, none⟩ = some ((.slice none 0 0)) := (hc _ _ (by (try simp) <;> omega)).trans (by go_simp)
  have z1_1 : ∀ j, w1.frozen? ⟨w.heap.size + 1, j, none⟩ = false := fun j => (hf _ _ (by (try simp) <;> omega)).trans (by go_simp)
  clear hc hf hb1
  go_wp2_with fail
  refine (HA.out _ HB1.out).mono ?_
  rintro en w2 ⟨rfl, hb2⟩
  have HB2 : Kp (Below w.heap.size w w2) := ⟨Below.trans (by repeat (first | refine Below.alloc ?_ (by have := HB1.out.size; (try simp) <;> omega) _ | refine bDrewN ?_ _ | refine Below.drew ?_ | refine Below.setCell ?_ (by have := HB1.out.size; (try simp) <;> omega) _ | exact HB1.out)) (hb2.mono (by have := HB1.out.size; (try simp) <;> omega))⟩
  have hz2_0 : w.heap.size < w2.heap.size := by have := hb2.size; (try simp at this); omega
  have hz2_1 : w.heap.size + 1 < w2.heap.size := by have := hb2.size; (try simp at this); omega
  obtain ⟨hc, hf⟩ := bcell hb2
  have c2_0_0 : w2.cell? ⟨w.heap.size, 0, none⟩ = some (.int .i64 s) := (hc _ _ (by (try simp) <;> omega)).trans (by go_simp)
  have c2_0_1 : w2.cell? ⟨w.heap.size, 1, none⟩ = some ((.slice g1 M c1)) := (hc _ _ (by (try simp) <;> omega)).trans (by go_simp)
  have z2_0 : ∀ j, w2.frozen? ⟨w.heap.size, j, none⟩ = false := fun j => (hf _ _ (by (try simp) <;> omega)).trans (by go_simp)
  have c2_1_0 : w2.cell? ⟨w.heap.size + 1, 0, none⟩ = some (.int .i64 0) := (hc _ _ (by (try simp) <;> omega)).trans (by go_simp)
  have c2_1_1 : w2.cell? ⟨w.heap.size + 1, 1, none⟩ = some ((.slice none 0 0)) := (hc _ _ (by (try simp) <;> omega)).trans (by go_simp)
  have z2_1 : ∀ j, w2.frozen? ⟨w.heap.size + 1, j, none⟩ = false := fun j => (hf _ _ (by (try simp) <;> omega)).trans (by go_simp)
  clear hc hf hb2
  go_wp2_with fail
  refine (HS.out _ HB2.out).mono ?_
  rintro en w3 ⟨b, rfl, -, hsm, hb3⟩
  have HSM := Kp.mk hsm
  clear hsm
  have HB3 : Kp (Below w.heap.size w w3) := ⟨Below.trans (by repeat (first | refine Below.alloc ?_ (by have := HB2.out.size; (try simp) <;> omega) _ | refine bDrewN ?_ _ | refine Below.drew ?_ | refine Below.setCell ?_ (by have := HB2.out.size; (try simp) <;> omega) _ | exact HB2.out)) (hb3.mono (by have := HB2.out.size; (try simp) <;> omega))⟩
  have hz3_0 : w.heap.size < w3.heap.size := by have := hb3.size; (try simp at this); omega
  have hz3_1 : w.heap.size + 1 < w3.heap.size := by have := hb3.size; (try simp at this); omega
  obtain ⟨hc, hf⟩ := bcell hb3
  have c3_0_0 : w3.cell? ⟨w.heap.size, 0, none⟩ = some (.int .i64 s) := (hc _ _ (by (try simp) <;> omega)).trans (by go_simp)
  have c3_0_1 : w3.cell? ⟨w.heap.size, 1, none⟩ = some ((.slice g1 M c1)) := (hc _ _ (by (try simp) <;> omega)).trans (by go_simp)
  have z3_0 : ∀ j, w3.frozen? ⟨w.heap.size, j, none⟩ = false := fun j => (hf _ _ (by (try simp) <;> omega)).trans (by go_simp)
  have c3_1_0 : w3.cell? ⟨w.heap.size + 1, 0, none⟩ = some (.int .i64 0) := (hc _ _ (by (try simp) <;> omega)).trans (by go_simp)
  have c3_1_1 : w3.cell? ⟨w.heap.size + 1, 1, none⟩ = some ((.slice none 0 0)) := (hc _ _ (by (try simp) <;> omega)).trans (by go_simp)
  have z3_1 : ∀ j, w3.frozen? ⟨w.heap.size + 1, j, none⟩ = false := fun j => (hf _ _ (by (try simp) <;> omega)).trans (by go_simp)
  clear hc hf hb3
  have hD : (w3.alloc (.cells #[.map (some b)] 92)).cell? ⟨w3.heap.size, 0, none⟩ = some (.map (some b)) := by go_simp
  have h0 : (w3.alloc (.cells #[.map (some b)] 92)).cell? ⟨w.heap.size, 0, none⟩ = some (.int .i64 s) := Lib.cell?_alloc_some _ c3_0_0
  have h1 : (w3.alloc (.cells #[.map (some b)] 92)).cell? ⟨w.heap.size, 1, none⟩ = some (.slice g1 M c1) := Lib.cell?_alloc_some _ c3_0_1
  go_wp2_with fail
  refine (HM.out _ _ _ b (HB3.out.alloc HB3.out.size _) h0 h1 hD (HSM.out.kept (World.grownBy_alloc _ _ none) (by simp))).mono ?_
  rintro en w4 ⟨u, rfl, hu, hb4⟩
  obtain ⟨gu, cu, rfl⟩ := hu.lb.shape
  have HU : Kp (NB (w.heap.size + 2) w4 _ (lessL s h l)) := ⟨hu.more (by simp; omega)⟩
  clear hu hD h0 h1
  have HB4 : Kp (Below w.heap.size w w4) := ⟨Below.trans (by repeat (first | refine Below.alloc ?_ (by have := HB3.out.size; (try simp) <;> omega) _ | refine bDrewN ?_ _ | refine Below.drew ?_ | refine Below.setCell ?_ (by have := HB3.out.size; (try simp) <;> omega) _ | exact HB3.out)) (hb4.mono (by have := HB3.out.size; (try simp) <;> omega))⟩
  have hz4_0 : w.heap.size + 1 < w4.heap.size := by have := hb4.size; (try simp at this); omega
  obtain ⟨hc, hf⟩ := bcell hb4
  have c4_0_0 : w4.cell? ⟨w.heap.size + 1, 0, none⟩ = some (.int .i64 0) := (hc _ _ (by (try simp) <;> omega)).trans (by go_simp)
  have c4_0_1 : w4.cell? ⟨w.heap.size + 1, 1, none⟩ = some ((.slice none 0 0)) := (hc _ _ (by (try simp) <;> omega)).trans (by go_simp)
  have z4_0 : ∀ j, w4.frozen? ⟨w.heap.size + 1, j, none⟩ = false := fun j => (hf _ _ (by (try simp) <;> omega)).trans (by go_simp)
  clear hc hf hb4
  go_wp2
  have HB5 : Below w.heap.size w ((w4.setCell ⟨w.heap.size + 1, 0, none⟩ (.int .i64 s)).setCell ⟨w.heap.size + 1, 1, none⟩ (.slice gu (lessL s h l).length cu)) := by (have hzS := HB4.out.size; (repeat (with_reducible first | exact HB4.out | refine Below.setCell ?_ ?_ _ | refine Below.alloc ?_ ?_ _ | refine Below.drew ?_ | refine bDrewN ?_ _)); all_goals ((try simp) <;> omega))
  have hV2 := (HU.out.set (w.heap.size + 1) 0 (.int .i64 s) (by omega)).set (w.heap.size + 1) 1 (.slice gu (lessL s h l).length cu) (by omega)
  refine bodyPost_ret (v := .tuple #[.agg #[.int .i64 s, .slice gu (lessL s h l).length cu], .int .i64 0]) (by simp [results, Try.results28, go_sem, c4_0_0, c4_0_1]) rfl ⟨_, rfl, ⟨_, rfl, ?_⟩, HB5⟩
  have := (hV2.more (m := w.heap.size) (by omega)).fb
  simpa using this
theorem Carved_new (n : Int) (u v : Value) (h : List Bool) (l : List Gr) (w : World) (hu : LB w u h) (hv : GS w v l) (hm : l.length ≤ 4611686018427387904) :
    Calls Try.prog 28 #[.agg #[.int .i64 n, u], v] w fun en w' => ∃ r, en = .returned (.tuple #[r, .int .i64 (carE n h l)]) ∧ VF w.heap.size w' r (carS n h l) (carL n h l) ∧ Below w.heap.size w w' := by
  obtain ⟨g1, c1, rfl⟩ := hu.shape
  have no : ∀ r, carE n h l = r → r ≠ 0 → Calls Try.prog 28 #[.agg #[.int .i64 n, .slice g1 h.length c1], v] w (OfNo w r) → Calls Try.prog 28 #[.agg #[.int .i64 n, .slice g1 h.length c1], v] w fun en w' => ∃ r, en = .returned (.tuple #[r, .int .i64 (carE n h l)]) ∧ VF w.heap.size w' r (carS n h l) (carL n h l) ∧ Below w.heap.size w w' := fun r h1 h2 h3 => by
    obtain ⟨e1, e2⟩ := car_bad h1 h2
    rw [h1, e1, e2]
    exact h3.mono fun en w' ⟨ha, hb⟩ => ⟨_, ha, VF.nil _ _, hb⟩
  cases hb : blockB n h.length with
  | false => exact no 1 (by unfold carE; rw [hb]; rfl) (by decide) (Carved_inv n g1 h.length c1 v l w hv hb)
  | true =>
    cases g : allB n l with
    | false => exact no 7 (by unfold carE; rw [hb, g]; rfl) (by decide) (Carved_out n g1 h.length c1 v l w hv hm hb g)
    | true =>
      have hb2 := hb
      unfold blockB at hb2
      rw [Bool.and_eq_true, decide_eq_true_eq] at hb2
      have hs := side_iff.1 hb2.1
      obtain ⟨s, rfl⟩ : ∃ s : Nat, n = s := ⟨n.toNat, by omega⟩
      have e0 : carE s h l = 0 := by unfold carE; rw [hb, g]; rfl
      have e1 : carS s h l = s := by unfold carS; rw [e0]; rfl
      have e2 : carL s h l = lessL s h l := by unfold carL; rw [e0]; rfl
      rw [e0, e1, e2]
      exact Carved_ok s _ v h l w hu hv hm (by omega) (by omega) (by have := hb2.2; rw [← Int.natCast_mul, ← Int.natCast_mul] at this; exact Int.ofNat.inj this) hb g
theorem Carved_any (n : Int) (u v : Value) (h : List Bool) (l : List Gr) (w : World) (hu : LB w u h) (hv : GS w v l) (hm : l.length ≤ 4611686018427387904) :
    Calls Try.prog 28 #[.agg #[.int .i64 n, u], v] w fun en w' => ∃ r, en = .returned (.tuple #[r, .int .i64 (carE n h l)]) ∧ VB w' r (carS n h l) (carL n h l) ∧ Below w.heap.size w w' :=
  (Carved_new n u v h l w hu hv hm).mono fun _ _ ⟨r, h1, h2, h3⟩ => ⟨r, h1, h2.vb, h3⟩
end Go.Proofs.Ytcjlijiifhggfaa.Cv
