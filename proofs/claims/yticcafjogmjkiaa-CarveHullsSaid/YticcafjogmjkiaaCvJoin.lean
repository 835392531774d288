/-
  WALKS (layer 5, carve): two blocks joined place by place, by the program: Both, Either.
-/
import Derived.Test.YticcafjogmjkiaaCvLessC
namespace Go.Proofs.Yticcafjogmjkiaa.Cv
open Go Go.RowKit Go.Sort

/-- A function of two truth values. -/
structure JnF (f : Nat) (op : Bool → Bool → Bool) : Prop where
  enter : ∀ args W, (callFunc f args).run Try.prog W = .ok (.enter f args) W
  call : ∀ x y W, Calls Try.prog f #[.bool x, .bool y] W fun e w' => e = .returned (.bool (op x y)) ∧ Below W.heap.size W w'
theorem both1_any (x y : Bool) (w : World) : Calls Try.prog 102 #[.bool x, .bool y] w fun e w' => e = .returned (.bool (x && y)) ∧ Below w.heap.size w w' := by
  cases x <;> cases y
  all_goals
    go_enter Try.func102, Try.ntmps102
    go_wp2
    go_ret
    exact ⟨rfl, by repeat (first | exact Below.refl _ _ | refine Below.alloc ?_ (by simp <;> omega) _ | refine bDrewN ?_ _ | refine Below.drew ?_)⟩
theorem either1_any (x y : Bool) (w : World) : Calls Try.prog 104 #[.bool x, .bool y] w fun e w' => e = .returned (.bool (x || y)) ∧ Below w.heap.size w w' := by
  cases x <;> cases y
  all_goals
    go_enter Try.func104, Try.ntmps104
    go_wp2
    go_ret
    exact ⟨rfl, by repeat (first | exact Below.refl _ _ | refine Below.alloc ?_ (by simp <;> omega) _ | refine bDrewN ?_ _ | refine Below.drew ?_)⟩
theorem jn_both : JnF 102 (fun x y => x && y) := ⟨enters_of Try.func102 (by kernel_rfl) rfl, both1_any⟩
theorem jn_either : JnF 104 (fun x y => x || y) := ⟨enters_of Try.func104 (by kernel_rfl) rfl, either1_any⟩
theorem jn_start {W W1 : World} {x y z : Value} {t : TypeId} (h : W.alloc (.cells #[x, y, z] t) = W1) : Below W.heap.size W W1 ∧ W1.cell? ⟨W.heap.size, 0, none⟩ = some x ∧ W1.cell? ⟨W.heap.size, 1, none⟩ = some y ∧ W1.cell? ⟨W.heap.size, 2, none⟩ = some z := by
  subst h
  exact ⟨by repeat (first | exact Below.refl _ _ | refine Below.alloc ?_ (by simp <;> omega) _ | refine bDrewN ?_ _ | refine Below.drew ?_), by go_simp, by go_simp, by go_simp⟩
set_option maxRecDepth 100000 in
set_option maxHeartbeats 1000000 in
theorem joined1_any (s K A B f : Nat) (op : Bool → Bool → Bool) (hF : JnF f op) (g1 g2 : Option Addr) (c1 c2 : Nat) (h k : List Bool) (g : Gr) (W : World) (hs2 : s ≤ 10) (lh : h.length = s * s * s) (lk : k.length = s * s * s)
    (hK : W.cell? ⟨K, 0, none⟩ = some (.func (.func f) #[] #[])) (a0 : W.cell? ⟨A, 0, none⟩ = some (.int .i64 s)) (a1 : W.cell? ⟨A, 1, none⟩ = some (.slice g1 h.length c1)) (b0 : W.cell? ⟨B, 0, none⟩ = some (.int .i64 s)) (b1 : W.cell? ⟨B, 1, none⟩ = some (.slice g2 k.length c2)) (hu : LB W (.slice g1 h.length c1) h) (hv : LB W (.slice g2 k.length c2) k) :
    Calls Try.prog 148 (#[.agg #[.int .i64 g.x, .int .i64 g.y, .int .i64 g.z]] ++ #[.pointer (some ⟨K, 0, none⟩), .pointer (some ⟨A, 0, none⟩), .pointer (some ⟨B, 0, none⟩)]) W fun e w' => e = .returned (.bool (op (hasB s h g) (hasB s k g))) ∧ Below W.heap.size W w' := by
  have HX : Kp (∀ X, Below W.heap.size W X → Calls Try.prog 95 #[.agg #[.int .i64 s, .slice g1 h.length c1], .agg #[.int .i64 g.x, .int .i64 g.y, .int .i64 g.z]] X fun e w' => e = .returned (.bool (hasB s h g)) ∧ Below X.heap.size X w') := ⟨fun X hX => has_any s _ h g X hs2 lh (hu.below hX)⟩
  have HY : Kp (∀ X, Below W.heap.size W X → Calls Try.prog 95 #[.agg #[.int .i64 s, .slice g2 k.length c2], .agg #[.int .i64 g.x, .int .i64 g.y, .int .i64 g.z]] X fun e w' => e = .returned (.bool (hasB s k g)) ∧ Below X.heap.size X w') := ⟨fun X hX => has_any s _ k g X hs2 lk (hv.below hX)⟩
  have hE := hF.enter
  obtain ⟨P, hP⟩ : ∃ P, hasB s h g = P := ⟨_, rfl⟩
  obtain ⟨Q, hQ⟩ : ∃ Q, hasB s k g = Q := ⟨_, rfl⟩
  rw [hP] at HX
  rw [hQ] at HY
  rw [hP, hQ]
  have HC : Kp (∀ X, Calls Try.prog f #[.bool P, .bool Q] X fun e w' => e = .returned (.bool (op P Q)) ∧ Below X.heap.size X w') := ⟨fun X => hF.call P Q X⟩
  obtain ⟨R, hR⟩ : ∃ R, op P Q = R := ⟨_, rfl⟩
  rw [hR] at HC ⊢
  obtain ⟨M1, hM1⟩ : ∃ M1, h.length = M1 := ⟨_, rfl⟩
  obtain ⟨M2, hM2⟩ : ∃ M2, k.length = M2 := ⟨_, rfl⟩
  rw [hM1] at HX a1
  rw [hM2] at HY b1
  obtain ⟨x, y, z⟩ := g
  simp only at HX HY ⊢
  clear hu hv lh lk hP hQ hF hM1 hM2 hR hs2
  go_enter Try.func148, Try.ntmps148
  go_wp2
  obtain ⟨W1, hW1⟩ : ∃ W1, W.alloc (.cells #[.int .i64 x, .int .i64 y, .int .i64 z] 71) = W1 := ⟨_, rfl⟩
  rw [hW1]
  obtain ⟨hB1, e0, e1, e2⟩ := jn_start hW1
  have HB1 := Kp.mk hB1
  have k1 := (hB1.cell (p := ⟨K, 0, none⟩) (World.block_lt_of_cell? _ _ hK)).trans hK
  have k2 := (hB1.cell (p := ⟨A, 0, none⟩) (World.block_lt_of_cell? _ _ a0)).trans a0
  have k3 := (hB1.cell (p := ⟨A, 1, none⟩) (World.block_lt_of_cell? _ _ a1)).trans a1
  have k4 := (hB1.cell (p := ⟨B, 0, none⟩) (World.block_lt_of_cell? _ _ b0)).trans b0
  have k5 := (hB1.cell (p := ⟨B, 1, none⟩) (World.block_lt_of_cell? _ _ b1)).trans b1
  have r0 := fun d os => cell_regrown k1 d os
  have r1 := fun d os => cell_regrown k2 d os
  have r2 := fun d os => cell_regrown k3 d os
  have r3 := fun d os => cell_regrown k4 d os
  have r4 := fun d os => cell_regrown k5 d os
  have r5 := fun d os => cell_regrown e0 d os
  have r6 := fun d os => cell_regrown e1 d os
  have r7 := fun d os => cell_regrown e2 d os
  have K1 : Kp (∀ d os, _) := ⟨fun d os => HX.out (grow (redrawn W1 d) os) (HB1.out.trans ((below_regrown W1 d os).mono HB1.out.size))⟩
  have K2 : Kp (∀ d os, _) := ⟨fun d os => HY.out (grow (redrawn W1 d) os) (HB1.out.trans ((below_regrown W1 d os).mono HB1.out.size))⟩
  have K3 : Kp (∀ d os, _) := ⟨fun d os => HC.out (grow (redrawn W1 d) os)⟩
  clear hW1 hB1 hK a0 a1 b0 b1 k1 k2 k3 k4 k5 e0 e1 e2
  refine wp_region_quiet_below (by kernel_rfl) (by kernel_rfl) ?_
  repeat (any_goals (first | go_big_quiet_step (first | (with_reducible exact Calls.regrown_of (K1.out _ _)) | (with_reducible exact Calls.regrown_of (K2.out _ _)) | (with_reducible exact Calls.regrown_of (K3.out _ _))) | quiet_step (first | (with_reducible exact Calls.regrown_of (K1.out _ _)) | (with_reducible exact Calls.regrown_of (K2.out _ _)) | (with_reducible exact Calls.regrown_of (K3.out _ _)))))
  refine wpQuiet_nil ?_
  intro _ hqw
  obtain ⟨⟨dq, osq⟩, hqv⟩ := hqw
  subst hqv
  go_wp2
  go_ret
  exact ⟨rfl, HB1.out.trans ((below_regrown W1 dq osq).mono HB1.out.size)⟩
/-- A row of the call's own, or none. -/
def JB (n : Nat) (W : World) (u : Value) (bs : List Bool) : Prop := NB n W u bs ∨ (u = .slice none 0 0 ∧ bs = [])
theorem JB.lb {n : Nat} {W : World} {u : Value} {bs : List Bool} (h : JB n W u bs) : LB W u bs := by
  rcases h with h | ⟨rfl, rfl⟩
  · exact h.lb
  · exact LB.nil W
theorem JB.more {n m : Nat} {W : World} {u : Value} {bs : List Bool} (h : JB n W u bs) (hm : m ≤ n) : JB m W u bs := by
  rcases h with h | h
  · exact .inl (h.more hm)
  · exact .inr h
theorem JB.set {n : Nat} {W : World} {u : Value} {bs : List Bool} (h : JB n W u bs) (B k : Nat) (v : Value) (hB : B < n) : JB n (W.setCell ⟨B, k, none⟩ v) u bs := by
  rcases h with h | h
  · exact .inl (h.set B k v hB)
  · exact .inr h
def jnE (s t : Int) (m n : Nat) : Int := if alikeB s t m n = true then 0 else 1
def jnS (s t : Int) (m n : Nat) : Int := if alikeB s t m n = true then s else 0
def jnR (op : Bool → Bool → Bool) (s t : Int) (h k : List Bool) : List Bool := if alikeB s t h.length k.length = true then jnL op s.toNat h k else []
theorem joined_no (s t : Int) (g1 g2 : Option Addr) (m n c1 c2 f : Nat) (w : World) (h : alikeB s t m n = false) : Calls Try.prog 101 #[.agg #[.int .i64 s, .slice g1 m c1], .agg #[.int .i64 t, .slice g2 n c2], .func (.func f) #[] #[]] w (OfNo w 1) := by
  have HA : Kp (∀ W, Calls Try.prog 103 #[.agg #[.int .i64 s, .slice g1 m c1], .agg #[.int .i64 t, .slice g2 n c2]] W fun e w' => e = .returned (.bool false) ∧ Below W.heap.size W w') := ⟨fun W => h ▸ alike_any s t g1 g2 m n c1 c2 W⟩
  clear h
  go_enter Try.func101, Try.ntmps101
  go_wp2_with fail
  refine (HA.out _).mono ?_
  rintro en w1 ⟨rfl, hb1⟩
  have HB1 : Kp (Below w.heap.size w w1) := ⟨Below.trans (by repeat (first | refine Below.alloc ?_ (by (try simp) <;> omega) _ | refine bDrewN ?_ _ | refine Below.drew ?_ | refine Below.setCell ?_ (by (try simp) <;> omega) _ | exact Below.refl _ _)) (hb1.mono (by (try simp) <;> omega))⟩
  have hz1_0 : w.heap.size + 1 + 1 + 1 < w1.heap.size := by have := hb1.size; (try simp at this); omega
  obtain ⟨hc, hf⟩ := bcell hb1
  have c1_0_0 : w1.cell? ⟨w.heap.size + 1 + 1 + 1, 0, none⟩ = some (.int .i64 0) := (hc _ _ (by (try simp) <;> omega)).trans (by go_simp)
  have c1_0_1 : w1.cell? ⟨w.heap.size + 1 + 1 + 1, 1, none⟩ = some ((.slice none 0 0)) := (hc _ _ (by (try simp) <;> omega)).trans (by go_simp)
  have z1_0 : ∀ j, w1.frozen? ⟨w.heap.size + 1 + 1 + 1, j, none⟩ = false := fun j => (hf _ _ (by (try simp) <;> omega)).trans (by go_simp)
  clear hc hf hb1
  go_wp2
  exact bodyPost_ret (v := .tuple #[.agg #[.int .i64 0, .slice none 0 0], .int .i64 1]) (by simp [results, Try.results101, go_sem, c1_0_0, c1_0_1]) rfl ⟨rfl, by (have hzS := HB1.out.size; (repeat (with_reducible first | exact HB1.out | refine Below.setCell ?_ ?_ _ | refine Below.alloc ?_ ?_ _ | refine Below.drew ?_ | refine bDrewN ?_ _)); all_goals ((try simp) <;> omega))⟩
set_option maxRecDepth 100000 in
set_option maxHeartbeats 1000000 in
theorem joined_in (s f : Nat) (op : Bool → Bool → Bool) (hF : JnF f op) (u v : Value) (h k : List Bool) (w : World) (hs : 1 ≤ s) (hs2 : s ≤ 10) (hu : LB w u h) (hv : LB w v k) (lh : h.length = s * s * s) (lk : k.length = s * s * s) (ha : alikeB s s h.length k.length = true) :
    Calls Try.prog 101 #[.agg #[.int .i64 s, u], .agg #[.int .i64 s, v], .func (.func f) #[] #[]] w fun en w' => ∃ u, en = .returned (.tuple #[.agg #[.int .i64 s, u], .int .i64 0]) ∧ JB w.heap.size w' u (jnL op s h k) ∧ Below w.heap.size w w' := by
  obtain ⟨g1, c1, rfl⟩ := hu.shape
  obtain ⟨g2, c2, rfl⟩ := hv.shape
  have HU := Kp.mk hu
  have HV := Kp.mk hv
  have HA : Kp (∀ W, Calls Try.prog 103 #[.agg #[.int .i64 s, .slice g1 h.length c1], .agg #[.int .i64 s, .slice g2 k.length c2]] W fun e w' => e = .returned (.bool true) ∧ Below W.heap.size W w') := ⟨fun W => ha ▸ alike_any s s g1 g2 h.length k.length c1 c2 W⟩
  have HM : Kp (∀ W (K A B : Nat), Below w.heap.size w W → W.cell? ⟨K, 0, none⟩ = some (.func (.func f) #[] #[]) → W.cell? ⟨A, 0, none⟩ = some (.int .i64 s) → W.cell? ⟨A, 1, none⟩ = some (.slice g1 h.length c1) → W.cell? ⟨B, 0, none⟩ = some (.int .i64 s) → W.cell? ⟨B, 1, none⟩ = some (.slice g2 k.length c2) → Calls Try.prog 79 #[.int .i64 s, .func (.func 148) #[] #[.pointer (some ⟨K, 0, none⟩), .pointer (some ⟨A, 0, none⟩), .pointer (some ⟨B, 0, none⟩)]] W fun e w' => ∃ v, e = .returned (.agg #[.int .i64 s, v]) ∧ NB W.heap.size w' v (jnL op s h k) ∧ Below W.heap.size W w') := ⟨fun W K A B hW hK a0 a1 b0 b1 => made_any 148 #[.pointer (some ⟨K, 0, none⟩), .pointer (some ⟨A, 0, none⟩), .pointer (some ⟨B, 0, none⟩)] (fun g => op (hasB s h g) (hasB s k g)) s W hs hs2 (enters_of Try.func148 (by kernel_rfl) rfl) ⟨fun X g hX _ => joined1_any s K A B f op hF g1 g2 c1 c2 h k g X hs2 lh lk ((hX.cell (p := ⟨K, 0, none⟩) (World.block_lt_of_cell? _ _ hK)).trans hK) ((hX.cell (p := ⟨A, 0, none⟩) (World.block_lt_of_cell? _ _ a0)).trans a0) ((hX.cell (p := ⟨A, 1, none⟩) (World.block_lt_of_cell? _ _ a1)).trans a1) ((hX.cell (p := ⟨B, 0, none⟩) (World.block_lt_of_cell? _ _ b0)).trans b0) ((hX.cell (p := ⟨B, 1, none⟩) (World.block_lt_of_cell? _ _ b1)).trans b1) ((HU.out.below hW).below hX) ((HV.out.below hW).below hX)⟩⟩
  obtain ⟨M, hM⟩ : ∃ M, h.length = M := ⟨_, rfl⟩
  obtain ⟨M2, hM2⟩ : ∃ M2, k.length = M2 := ⟨_, rfl⟩
  rw [hM, hM2] at HA HM ⊢
  have HJ : Kp ((jnL op s h k).length = s * s * s) := ⟨jnL_len op s h k⟩
  clear hu HU hv HV lh lk ha hM hM2 hF
  go_enter Try.func101, Try.ntmps101
  go_wp2_with fail
  refine (HA.out _).mono ?_
  rintro en w1 ⟨rfl, hb1⟩
  have HB1 : Kp (Below w.heap.size w w1) := ⟨Below.trans (by repeat (first | refine Below.alloc ?_ (by (try simp) <;> omega) _ | refine bDrewN ?_ _ | refine Below.drew ?_ | refine Below.setCell ?_ (by (try simp) <;> omega) _ | exact Below.refl _ _)) (hb1.mono (by (try simp) <;> omega))⟩
  have hz1_0 : w.heap.size < w1.heap.size := by have := hb1.size; (try simp at this); omega
  have hz1_1 : w.heap.size + 1 < w1.heap.size := by have := hb1.size; (try simp at this); omega
  have hz1_2 : w.heap.size + 1 + 1 < w1.heap.size := by have := hb1.size; (try simp at this); omega
  have hz1_3 : w.heap.size + 1 + 1 + 1 < w1.heap.size := by have := hb1.size; (try simp at this); omega
  obtain ⟨hc, hf⟩ := bcell hb1
  have c1_0_0 : w1.cell? ⟨w.heap.size, 0, none⟩ = some (.int .i64 s) := (hc _ _ (by (try simp) <;> omega)).trans (by go_simp)
  have c1_0_1 : w1.cell? ⟨w.heap.size, 1, none⟩ = some ((.slice g1 M c1)) := (hc _ _ (by (try simp) <;> omega)).trans (by go_simp)
  have z1_0 : ∀ j, w1.frozen? ⟨w.heap.size, j, none⟩ = false := fun j => (hf _ _ (by (try simp) <;> omega)).trans (by go_simp)
  have c1_1_0 : w1.cell? ⟨w.heap.size + 1, 0, none⟩ = some (.int .i64 s) := (hc _ _ (by (try simp) <;> omega)).trans (by go_simp)
  have c1_1_1 : w1.cell? ⟨w.heap.size + 1, 1, none⟩ = some ((.slice g2 M2 c2)) := (hc _ _ (by (try simp) <;> omega)).trans (by go_simp)
  have z1_1 : ∀ j, w1.frozen? ⟨w.heap.size + 1, j, none⟩ = false := fun j => (hf _ _ (by (try simp) <;> omega)).trans (by go_simp)
  have c1_2_0 : w1.cell? ⟨w.heap.size + 1 + 1, 0, none⟩ = some ((.func (.func f) #[] #[])) := (hc _ _ (by (try simp) <;> omega)).trans (by go_simp)
  have z1_2 : ∀ j, w1.frozen? ⟨w.heap.size + 1 + 1, j, none⟩ = false := fun j => (hf _ _ (by (try simp) <;> omega)).trans (by go_simp)
  have c1_3_0 : w1.cell? ⟨w.heap.size + 1 + 1 + 1, 0, none⟩ = some (.int .i64 0) := (hc _ _ (by (try simp) <;> omega)).trans (by go_simp)
  have c1_3_1 : w1.cell? ⟨w.heap.size + 1 + 1 + 1, 1, none⟩ = some ((.slice none 0 0)) := (hc _ _ (by (try simp) <;> omega)).trans (by go_simp)
  have z1_3 : ∀ j, w1.frozen? ⟨w.heap.size + 1 + 1 + 1, j, none⟩ = false := fun j => (hf _ _ (by (try simp) <;> omega)).trans (by go_simp)
  clear hc hf hb1
  go_wp2_with fail
  refine (HM.out _ _ _ _ HB1.out c1_2_0 c1_0_0 c1_0_1 c1_1_0 c1_1_1).mono ?_
  rintro en w2 ⟨u, rfl, hu, hb2⟩
  obtain ⟨gu, cu, rfl⟩ := hu.lb.shape
  have HU : Kp (NB (w.heap.size + 1 + 1 + 1 + 1) w2 _ (jnL op s h k)) := ⟨hu.more (by omega)⟩
  clear hu
  have HB2 : Kp (Below w.heap.size w w2) := ⟨Below.trans (by repeat (first | refine Below.alloc ?_ (by have := HB1.out.size; (try simp) <;> omega) _ | refine bDrewN ?_ _ | refine Below.drew ?_ | refine Below.setCell ?_ (by have := HB1.out.size; (try simp) <;> omega) _ | exact HB1.out)) (hb2.mono (by have := HB1.out.size; (try simp) <;> omega))⟩
  have hz2_0 : w.heap.size + 1 + 1 + 1 < w2.heap.size := by have := hb2.size; (try simp at this); omega
  obtain ⟨hc, hf⟩ := bcell hb2
  have c2_0_0 : w2.cell? ⟨w.heap.size + 1 + 1 + 1, 0, none⟩ = some (.int .i64 0) := (hc _ _ (by (try simp) <;> omega)).trans (by go_simp)
  have c2_0_1 : w2.cell? ⟨w.heap.size + 1 + 1 + 1, 1, none⟩ = some ((.slice none 0 0)) := (hc _ _ (by (try simp) <;> omega)).trans (by go_simp)
  have z2_0 : ∀ j, w2.frozen? ⟨w.heap.size + 1 + 1 + 1, j, none⟩ = false := fun j => (hf _ _ (by (try simp) <;> omega)).trans (by go_simp)
  clear hc hf hb2 c1_0_0 c1_0_1 z1_0
  go_wp2
  have HB3 : Below w.heap.size w ((w2.setCell ⟨w.heap.size + 1 + 1 + 1, 0, none⟩ (.int .i64 s)).setCell ⟨w.heap.size + 1 + 1 + 1, 1, none⟩ (.slice gu (jnL op s h k).length cu)) := by (have hzS := HB2.out.size; (repeat (with_reducible first | exact HB2.out | refine Below.setCell ?_ ?_ _ | refine Below.alloc ?_ ?_ _ | refine Below.drew ?_ | refine bDrewN ?_ _)); all_goals ((try simp) <;> omega))
  have hV2 := (HU.out.set (w.heap.size + 1 + 1 + 1) 0 (.int .i64 s) (by omega)).set (w.heap.size + 1 + 1 + 1) 1 (.slice gu (jnL op s h k).length cu) (by omega)
  exact bodyPost_ret (v := .tuple #[.agg #[.int .i64 s, .slice gu (jnL op s h k).length cu], .int .i64 0]) (by simp [results, Try.results101, go_sem, c2_0_0, c2_0_1]) rfl ⟨_, rfl, .inl (hV2.more (by omega)), HB3⟩
theorem jn_sides {s t : Int} {m n : Nat} (ha : alikeB s t m n = true) : ∃ x : Nat, s = x ∧ t = x ∧ 1 ≤ x ∧ x ≤ 10 ∧ m = x * x * x ∧ n = x * x * x := by
  unfold alikeB blockB at ha
  simp only [Bool.and_eq_true, decide_eq_true_eq] at ha
  obtain ⟨⟨h1, h2⟩, ⟨h3, h4⟩, rfl⟩ := ha
  have hs := side_iff.1 h1
  obtain ⟨x, rfl⟩ : ∃ x : Nat, s = x := ⟨s.toNat, by omega⟩
  rw [← Int.natCast_mul, ← Int.natCast_mul] at h2 h4
  exact ⟨x, rfl, rfl, by omega, by omega, Int.ofNat.inj h2, Int.ofNat.inj h4⟩
/-- What joining answers. -/
def JnPost (op : Bool → Bool → Bool) (s t : Int) (h k : List Bool) (w : World) (en : Ending) (w' : World) : Prop :=
  ∃ u, en = .returned (.tuple #[.agg #[.int .i64 (jnS s t h.length k.length), u], .int .i64 (jnE s t h.length k.length)]) ∧ JB w.heap.size w' u (jnR op s t h k) ∧ Below w.heap.size w w'
theorem jn_bad {op : Bool → Bool → Bool} {s t : Int} {h k : List Bool} {w w' : World} {en : Ending} (ha : alikeB s t h.length k.length = false) (hp : OfNo w 1 en w') : JnPost op s t h k w en w' := by
  unfold JnPost jnE jnS jnR
  rw [ha, if_neg (by decide), if_neg (by decide), if_neg (by decide)]
  exact ⟨_, hp.1, .inr ⟨rfl, rfl⟩, hp.2⟩
theorem jn_good {op : Bool → Bool → Bool} {s t : Int} {x : Nat} {h k : List Bool} {w w' : World} {en : Ending} (ha : alikeB s t h.length k.length = true) (hx : s = x) (hp : ∃ u, en = .returned (.tuple #[.agg #[.int .i64 x, u], .int .i64 0]) ∧ JB w.heap.size w' u (jnL op x h k) ∧ Below w.heap.size w w') : JnPost op s t h k w en w' := by
  unfold JnPost jnE jnS jnR
  rw [ha, if_pos rfl, if_pos rfl, if_pos rfl]
  subst hx
  exact hp
theorem joined_any (f : Nat) (op : Bool → Bool → Bool) (hF : JnF f op) (s t : Int) (u v : Value) (h k : List Bool) (w : World) (hu : LB w u h) (hv : LB w v k) :
    Calls Try.prog 101 #[.agg #[.int .i64 s, u], .agg #[.int .i64 t, v], .func (.func f) #[] #[]] w (JnPost op s t h k w) := by
  cases ha : alikeB s t h.length k.length with
  | false =>
    obtain ⟨g1, c1, rfl⟩ := hu.shape
    obtain ⟨g2, c2, rfl⟩ := hv.shape
    exact (joined_no s t g1 g2 h.length k.length c1 c2 f w ha).mono fun en w' hp => jn_bad ha hp
  | true =>
    obtain ⟨x, rfl, rfl, h1, h2, l1, l2⟩ := jn_sides ha
    exact (joined_in x f op hF u v h k w h1 h2 hu hv l1 l2 ha).mono fun en w' hp => jn_good ha rfl hp
set_option maxRecDepth 100000 in
theorem Both_any (s t : Int) (u v : Value) (h k : List Bool) (w : World) (hu : LB w u h) (hv : LB w v k) :
    Calls Try.prog 43 #[.agg #[.int .i64 s, u], .agg #[.int .i64 t, v]] w (JnPost (fun x y => x && y) s t h k w) := by
  have HJ : Kp (∀ W, Below w.heap.size w W → Calls Try.prog 101 #[.agg #[.int .i64 s, u], .agg #[.int .i64 t, v], .func (.func 102) #[] #[]] W (JnPost (fun x y => x && y) s t h k W)) := ⟨fun W hW => joined_any _ _ jn_both s t u v h k W (hu.below hW) (hv.below hW)⟩
  obtain ⟨g1, c1, rfl⟩ := hu.shape
  obtain ⟨g2, c2, rfl⟩ := hv.shape
  obtain ⟨M, hM⟩ : ∃ M, h.length = M := ⟨_, rfl⟩
  obtain ⟨M2, hM2⟩ : ∃ M2, k.length = M2 := ⟨_, rfl⟩
  unfold JnPost at HJ ⊢
  obtain ⟨E, hE⟩ : ∃ E, jnE s t h.length k.length = E := ⟨_, rfl⟩
  obtain ⟨S, hS⟩ : ∃ S, jnS s t h.length k.length = S := ⟨_, rfl⟩
  obtain ⟨L, hL⟩ : ∃ L, jnR (fun x y => x && y) s t h k = L := ⟨_, rfl⟩
  rw [hE, hS, hL] at HJ ⊢
  rw [hM, hM2] at HJ
  rw [hM, hM2]
  clear hu hv hM hM2 hE hS hL
  go_enter Try.func43, Try.ntmps43
  go_wp2_with fail
  refine (HJ.out _ (by repeat (first | exact Below.refl _ _ | refine Below.alloc ?_ (by simp <;> omega) _ | refine bDrewN ?_ _ | refine Below.drew ?_))).mono ?_
  rintro en w1 ⟨r, rfl, hr, hb1⟩
  obtain ⟨gz, cz, rfl⟩ := hr.lb.shape
  have HR : Kp (JB (w.heap.size + 1 + 1 + 1) w1 _ L) := ⟨hr.more (by simp)⟩
  clear hr
  have HB1 : Kp (Below w.heap.size w w1) := ⟨Below.trans (by repeat (first | refine Below.alloc ?_ (by (try simp) <;> omega) _ | refine bDrewN ?_ _ | refine Below.drew ?_ | refine Below.setCell ?_ (by (try simp) <;> omega) _ | exact Below.refl _ _)) (hb1.mono (by (try simp) <;> omega))⟩
  have hz1_0 : w.heap.size + 1 + 1 < w1.heap.size := by have := hb1.size; (try simp at this); omega
  obtain ⟨hc, hf⟩ := bcell hb1
  have c1_0_0 : w1.cell? ⟨w.heap.size + 1 + 1, 0, none⟩ = some (.int .i64 0) := (hc _ _ (by (try simp) <;> omega)).trans (by go_simp)
  have c1_0_1 : w1.cell? ⟨w.heap.size + 1 + 1, 1, none⟩ = some ((.slice none 0 0)) := (hc _ _ (by (try simp) <;> omega)).trans (by go_simp)
  have z1_0 : ∀ j, w1.frozen? ⟨w.heap.size + 1 + 1, j, none⟩ = false := fun j => (hf _ _ (by (try simp) <;> omega)).trans (by go_simp)
  clear hc hf hb1
  go_wp2
  refine bodyPost_ret (v := .tuple #[.agg #[.int .i64 S, .slice gz L.length cz], .int .i64 E]) (by simp [results, Try.results43, go_sem, c1_0_0, c1_0_1]) rfl ⟨_, rfl, ?_, by (have hzS := HB1.out.size; (repeat (with_reducible first | exact HB1.out | refine Below.setCell ?_ ?_ _ | refine Below.alloc ?_ ?_ _ | refine Below.drew ?_ | refine bDrewN ?_ _)); all_goals ((try simp) <;> omega))⟩
  exact ((HR.out.set _ 0 (.int .i64 S) (by omega)).set _ 1 (.slice gz L.length cz) (by omega)).more (by omega)
set_option maxRecDepth 100000 in
theorem Either_any (s t : Int) (u v : Value) (h k : List Bool) (w : World) (hu : LB w u h) (hv : LB w v k) :
    Calls Try.prog 47 #[.agg #[.int .i64 s, u], .agg #[.int .i64 t, v]] w (JnPost (fun x y => x || y) s t h k w) := by
  have HJ : Kp (∀ W, Below w.heap.size w W → Calls Try.prog 101 #[.agg #[.int .i64 s, u], .agg #[.int .i64 t, v], .func (.func 104) #[] #[]] W (JnPost (fun x y => x || y) s t h k W)) := ⟨fun W hW => joined_any _ _ jn_either s t u v h k W (hu.below hW) (hv.below hW)⟩
  obtain ⟨g1, c1, rfl⟩ := hu.shape
  obtain ⟨g2, c2, rfl⟩ := hv.shape
  obtain ⟨M, hM⟩ : ∃ M, h.length = M := ⟨_, rfl⟩
  obtain ⟨M2, hM2⟩ : ∃ M2, k.length = M2 := ⟨_, rfl⟩
  unfold JnPost at HJ ⊢
  obtain ⟨E, hE⟩ : ∃ E, jnE s t h.length k.length = E := ⟨_, rfl⟩
  obtain ⟨S, hS⟩ : ∃ S, jnS s t h.length k.length = S := ⟨_, rfl⟩
  obtain ⟨L, hL⟩ : ∃ L, jnR (fun x y => x || y) s t h k = L := ⟨_, rfl⟩
  rw [hE, hS, hL] at HJ ⊢
  rw [hM, hM2] at HJ
  rw [hM, hM2]
  clear hu hv hM hM2 hE hS hL
  go_enter Try.func47, Try.ntmps47
  go_wp2_with fail
  refine (HJ.out _ (by repeat (first | exact Below.refl _ _ | refine Below.alloc ?_ (by simp <;> omega) _ | refine bDrewN ?_ _ | refine Below.drew ?_))).mono ?_
  rintro en w1 ⟨r, rfl, hr, hb1⟩
  obtain ⟨gz, cz, rfl⟩ := hr.lb.shape
  have HR : Kp (JB (w.heap.size + 1 + 1 + 1) w1 _ L) := ⟨hr.more (by simp)⟩
  clear hr
  have HB1 : Kp (Below w.heap.size w w1) := ⟨Below.trans (by repeat (first | refine Below.alloc ?_ (by (try simp) <;> omega) _ | refine bDrewN ?_ _ | refine Below.drew ?_ | refine Below.setCell ?_ (by (try simp) <;> omega) _ | exact Below.refl _ _)) (hb1.mono (by (try simp) <;> omega))⟩
  have hz1_0 : w.heap.size + 1 + 1 < w1.heap.size := by have := hb1.size; (try simp at this); omega
  obtain ⟨hc, hf⟩ := bcell hb1
  have c1_0_0 : w1.cell? ⟨w.heap.size + 1 + 1, 0, none⟩ = some (.int .i64 0) := (hc _ _ (by (try simp) <;> omega)).trans (by go_simp)
  have c1_0_1 : w1.cell? ⟨w.heap.size + 1 + 1, 1, none⟩ = some ((.slice none 0 0)) := (hc _ _ (by (try simp) <;> omega)).trans (by go_simp)
  have z1_0 : ∀ j, w1.frozen? ⟨w.heap.size + 1 + 1, j, none⟩ = false := fun j => (hf _ _ (by (try simp) <;> omega)).trans (by go_simp)
  clear hc hf hb1
  go_wp2
  refine bodyPost_ret (v := .tuple #[.agg #[.int .i64 S, .slice gz L.length cz], .int .i64 E]) (by simp [results, Try.results47, go_sem, c1_0_0, c1_0_1]) rfl ⟨_, rfl, ?_, by (have hzS := HB1.out.size; (repeat (with_reducible first | exact HB1.out | refine Below.setCell ?_ ?_ _ | refine Below.alloc ?_ ?_ _ | refine Below.drew ?_ | refine bDrewN ?_ _)); all_goals ((try simp) <;> omega))⟩
  exact ((HR.out.set _ 0 (.int .i64 S) (by omega)).set _ 1 (.slice gz L.length cz) (by omega)).more (by omega)
end Go.Proofs.Yticcafjogmjkiaa.Cv
