/-
  The set of a list's grains has as many as the list just if none is there twice.
-/
import Derived.Test.YtcjlijiifhggfaaCvOf
namespace Go.Proofs.Ytcjlijiifhggfaa.Cv
open Go Go.RowKit Go.Maps

theorem same_iff {g x : Gr} (hg : g.ok) (hx : x.ok) : g.key.sameKey x.key = true ↔ g = x := by
  constructor
  · intro h
    by_cases e : g.key = x.key
    · exact hg.inj hx e
    · rw [sameKey_ne e] at h; cases h
  · rintro rfl
    exact WideAt.sameKey_self (key_isKey g)
def sizeL (l : List Gr) : Nat := Maps.size (Maps.setOf tru (l.map Gr.key))
theorem size_dup : ∀ n : Nat, ∀ {l : List Gr}, l.length = n → (∀ x ∈ l, x.ok) → sizeL l ≤ l.length ∧ (sizeL l = l.length ↔ l.Nodup) := by
  intro n
  induction n with
  | zero =>
    intro l hn _
    have : l = [] := List.length_eq_zero_iff.1 hn
    subst this
    exact ⟨Nat.le_refl _, ⟨fun _ => List.nodup_nil, fun _ => rfl⟩⟩
  | succ n ih =>
    intro l hn hl
    rcases List.eq_nil_or_concat l with rfl | ⟨m, x, rfl⟩
    · cases hn
    · simp only [List.concat_eq_append] at hn hl ⊢
      have hm : m.length = n := by rw [List.length_append] at hn; simpa using hn
      have ho : ∀ y ∈ m, y.ok := fun y hy => hl y (by simp [hy])
      have hx : x.ok := hl x (by simp)
      obtain ⟨h1, h2⟩ := ih hm ho
      have hk : ∀ y ∈ m.map Gr.key, WideAt.IsKeyLit y := fun y hy => by obtain ⟨z, -, rfl⟩ := List.mem_map.1 hy; exact key_isKey z
      have e1 : sizeL (m ++ [x]) = if Maps.has (Maps.setOf tru (m.map Gr.key)) x.key then sizeL m else sizeL m + 1 := by
        unfold sizeL
        rw [List.map_append, List.map_singleton, setOf_snoc, size_put (tidy_setOf _ _ hk)]
      have e2 : Maps.has (Maps.setOf tru (m.map Gr.key)) x.key = true ↔ x ∈ m := by
        rw [has_setOf _ _ _ hk, List.any_eq_true]
        constructor
        · rintro ⟨k, hk1, hk2⟩
          obtain ⟨y, hy, rfl⟩ := List.mem_map.1 hk1
          rw [← (same_iff (ho y hy) hx).1 hk2]
          exact hy
        · intro h
          exact ⟨_, List.mem_map.2 ⟨x, h, rfl⟩, (same_iff hx hx).2 rfl⟩
      rw [e1, List.length_append, List.length_singleton]
      by_cases hin : x ∈ m
      · rw [if_pos (e2.2 hin)]
        refine ⟨by omega, ⟨fun h => by omega, fun h => ?_⟩⟩
        have h3 := (List.nodup_append.1 h).2.2 x hin x (by simp)
        exact absurd rfl h3
      · rw [if_neg (fun h => hin (e2.1 h))]
        refine ⟨by omega, ⟨fun h => ?_, fun h => ?_⟩⟩
        · refine List.nodup_append.2 ⟨h2.1 (by omega), by simp, fun a ha b hb => ?_⟩
          rw [List.mem_singleton.1 hb]
          intro e
          rw [e] at ha
          exact hin ha
        · have := h2.2 (List.nodup_append.1 h).1
          omega
theorem SM.len {W : World} {b : Nat} {l : List Gr} (h : SM W b l) (ty : TypeId) : (Builtin.len_ #[92] ty #[.map (some b)]).run Try.prog W = .ok (.int .i64 (sizeL l : Int)) W := World.ownsMap.len h Try.underlying92 ty
def ofE (n : Int) (l : List Gr) : Int := if sideB n = true ∧ allB n l = true then (if l.Nodup then 0 else 6) else 7
def ofS (n : Int) (l : List Gr) : Int := if ofE n l = 0 then n else 0
def ofL (n : Int) (l : List Gr) : List Bool := if ofE n l = 0 then setB n.toNat l else []
theorem of_bad {n : Int} {l : List Gr} {r : Int} (h : ofE n l = r) (hr : r ≠ 0) : ofS n l = 0 ∧ ofL n l = [] := by
  unfold ofS ofL
  rw [h, if_neg hr, if_neg hr]
  exact ⟨rfl, rfl⟩
/-- What Of answers, where there is none. -/
def OfNo (w : World) (r : Int) (e : Ending) (w' : World) : Prop := e = .returned (.tuple #[.agg #[.int .i64 0, .slice none 0 0], .int .i64 r]) ∧ Below w.heap.size w w'
theorem Of_side (n : Int) (v : Value) (l : List Gr) (w : World) (hv : GS w v l) (h : sideB n = false) : Calls Try.prog 31 #[.int .i64 n, v] w (OfNo w 7) := by
  have HI : Kp (∀ W, Calls Try.prog 64 #[.int .i64 n] W fun e w' => e = .returned (.bool false) ∧ W = w') := ⟨fun W => h ▸ isSide_any n W⟩
  obtain ⟨gv, cv, rfl⟩ := hv.shape
  clear hv h
  go_enter Try.func31, Try.ntmps31
  go_wp2_with fail
  refine (HI.out _).mono ?_
  rintro en w1 ⟨rfl, rfl⟩
  go_wp2
  exact bodyPost_ret (v := .tuple #[.agg #[.int .i64 0, .slice none 0 0], .int .i64 7]) (by simp [results, Try.results31, go_sem]) rfl ⟨rfl, by repeat (first | exact Below.refl _ _ | refine Below.alloc ?_ (by simp <;> omega) _ | refine bDrewN ?_ _ | refine Below.drew ?_)⟩
set_option maxRecDepth 100000 in
theorem Of_out (n : Int) (v : Value) (l : List Gr) (w : World) (hv : GS w v l) (hm : l.length ≤ 4611686018427387904) (h : sideB n = true) (g : allB n l = false) : Calls Try.prog 31 #[.int .i64 n, v] w (OfNo w 7) := by
  have HI : Kp (∀ W, Calls Try.prog 64 #[.int .i64 n] W fun e w' => e = .returned (.bool true) ∧ W = w') := ⟨fun W => h ▸ isSide_any n W⟩
  have HA : Kp (∀ W, Below w.heap.size w W → Calls Try.prog 58 #[v, .int .i64 n] W fun e w' => e = .returned (.bool false) ∧ Below W.heap.size W w') := ⟨fun W hW => g ▸ allInside_any n v l W (hv.below hW) hm⟩
  obtain ⟨gv, cv, rfl⟩ := hv.shape
  clear hv h g hm
  go_enter Try.func31, Try.ntmps31
  go_wp2_with fail
  refine (HI.out _).mono ?_
  rintro en w1 ⟨rfl, rfl⟩
  go_wp2_with fail
  refine (HA.out _ (by repeat (first | exact Below.refl _ _ | refine Below.alloc ?_ (by simp <;> omega) _ | refine bDrewN ?_ _ | refine Below.drew ?_))).mono ?_
  rintro en w1 ⟨rfl, hb1⟩
  have HB1 : Kp (Below w.heap.size w w1) := ⟨Below.trans (by repeat (first | refine Below.alloc ?_ (by (try simp) <;> omega) _ | refine bDrewN ?_ _ | refine Below.drew ?_ | refine Below.setCell ?_ (by (try simp) <;> omega) _ | exact Below.refl _ _)) (hb1.mono (by (try simp) <;> omega))⟩
  have hz1_0 : w.heap.size < w1.heap.size := by have := hb1.size; (try simp at this); omega
  obtain ⟨hc, hf⟩ := bcell hb1
  have c1_0_0 : w1.cell? ⟨w.heap.size, 0, none⟩ = some (.int .i64 0) := (hc _ _ (by (try simp) <;> omega)).trans (by go_simp)
  have c1_0_1 : w1.cell? ⟨w.heap.size, 1, none⟩ = some ((.slice none 0 0)) := (hc _ _ (by (try simp) <;> omega)).trans (by go_simp)
  have z1_0 : ∀ j, w1.frozen? ⟨w.heap.size, j, none⟩ = false := fun j => (hf _ _ (by (try simp) <;> omega)).trans (by go_simp)
  clear hc hf hb1
  go_wp2
  exact bodyPost_ret (v := .tuple #[.agg #[.int .i64 0, .slice none 0 0], .int .i64 7]) (by simp [results, Try.results31, go_sem, c1_0_0, c1_0_1]) rfl ⟨rfl, by (have hzS := HB1.out.size; (repeat (with_reducible first | exact HB1.out | refine Below.setCell ?_ ?_ _ | refine Below.alloc ?_ ?_ _ | refine Below.drew ?_ | refine bDrewN ?_ _)); all_goals ((try simp) <;> omega))⟩
set_option maxRecDepth 100000 in
set_option maxHeartbeats 1000000 in
theorem Of_twice (n : Int) (v : Value) (l : List Gr) (w : World) (hv : GS w v l) (hm : l.length ≤ 4611686018427387904) (h : sideB n = true) (g : allB n l = true) (hd : sizeL l < l.length) (ho : ∀ x ∈ l, x.ok) : Calls Try.prog 31 #[.int .i64 n, v] w (OfNo w 6) := by
  have HI : Kp (∀ W, Calls Try.prog 64 #[.int .i64 n] W fun e w' => e = .returned (.bool true) ∧ W = w') := ⟨fun W => h ▸ isSide_any n W⟩
  have HA : Kp (∀ W, Below w.heap.size w W → Calls Try.prog 58 #[v, .int .i64 n] W fun e w' => e = .returned (.bool true) ∧ Below W.heap.size W w') := ⟨fun W hW => g ▸ allInside_any n v l W (hv.below hW) hm⟩
  have HS : Kp (∀ W, Below w.heap.size w W → Calls Try.prog 59 #[v] W fun e w' => ∃ b, e = .returned (.map (some b)) ∧ W.heap.size ≤ b ∧ SM w' b l ∧ Below W.heap.size W w') := ⟨fun W hW => setOf_any v l W (hv.below hW) hm ho⟩
  obtain ⟨gv, cv, rfl⟩ := hv.shape
  have hlt : (sizeL l : Int) < (l.length : Int) := by omega
  obtain ⟨z, hz⟩ : ∃ z, sizeL l = z := ⟨_, rfl⟩
  rw [hz] at hlt
  have HZ := Kp.mk hz
  clear hv h g hm hd ho hz
  go_enter Try.func31, Try.ntmps31
  go_wp2_with fail
  refine (HI.out _).mono ?_
  rintro en w1 ⟨rfl, rfl⟩
  go_wp2_with fail
  refine (HA.out _ (by repeat (first | exact Below.refl _ _ | refine Below.alloc ?_ (by simp <;> omega) _ | refine bDrewN ?_ _ | refine Below.drew ?_))).mono ?_
  rintro en w1 ⟨rfl, hb1⟩
  have HB1 : Kp (Below w.heap.size w w1) := ⟨Below.trans (by repeat (first | refine Below.alloc ?_ (by (try simp) <;> omega) _ | refine bDrewN ?_ _ | refine Below.drew ?_ | refine Below.setCell ?_ (by (try simp) <;> omega) _ | exact Below.refl _ _)) (hb1.mono (by (try simp) <;> omega))⟩
  have hz1_0 : w.heap.size < w1.heap.size := by have := hb1.size; (try simp at this); omega
  obtain ⟨hc, hf⟩ := bcell hb1
  have c1_0_0 : w1.cell? ⟨w.heap.size, 0, none⟩ = some (.int .i64 0) := (hc _ _ (by (try simp) <;> omega)).trans (by go_simp)
  have c1_0_1 : w1.cell? ⟨w.heap.size, 1, none⟩ = some ((.slice none 0 0)) := (hc _ _ (by (try simp) <;> omega)).trans (by go_simp)
  have z1_0 : ∀ j, w1.frozen? ⟨w.heap.size, j, none⟩ = false := fun j => (hf _ _ (by (try simp) <;> omega)).trans (by go_simp)
  clear hc hf hb1
  go_wp2_with fail
  refine (HS.out _ HB1.out).mono ?_
  rintro en w2 ⟨b, rfl, -, hsm, hb2⟩
  have hlen := fun ty => hsm.len ty
  rw [HZ.out] at hlen
  have HB2 : Kp (Below w.heap.size w w2) := ⟨Below.trans (by repeat (first | refine Below.alloc ?_ (by have := HB1.out.size; (try simp) <;> omega) _ | refine bDrewN ?_ _ | refine Below.drew ?_ | refine Below.setCell ?_ (by have := HB1.out.size; (try simp) <;> omega) _ | exact HB1.out)) (hb2.mono (by have := HB1.out.size; (try simp) <;> omega))⟩
  have hz2_0 : w.heap.size < w2.heap.size := by have := hb2.size; (try simp at this); omega
  obtain ⟨hc, hf⟩ := bcell hb2
  have c2_0_0 : w2.cell? ⟨w.heap.size, 0, none⟩ = some (.int .i64 0) := (hc _ _ (by (try simp) <;> omega)).trans (by go_simp)
  have c2_0_1 : w2.cell? ⟨w.heap.size, 1, none⟩ = some ((.slice none 0 0)) := (hc _ _ (by (try simp) <;> omega)).trans (by go_simp)
  have z2_0 : ∀ j, w2.frozen? ⟨w.heap.size, j, none⟩ = false := fun j => (hf _ _ (by (try simp) <;> omega)).trans (by go_simp)
  clear hc hf hb2 c1_0_0 c1_0_1 z1_0
  clear hsm
  go_wp2
  exact bodyPost_ret (v := .tuple #[.agg #[.int .i64 0, .slice none 0 0], .int .i64 6]) (by simp [results, Try.results31, go_sem, c2_0_0, c2_0_1]) rfl ⟨rfl, by (have hzS := HB2.out.size; (repeat (with_reducible first | exact HB2.out | refine Below.setCell ?_ ?_ _ | refine Below.alloc ?_ ?_ _ | refine Below.drew ?_ | refine bDrewN ?_ _)); all_goals ((try simp) <;> omega))⟩
set_option maxRecDepth 100000 in
set_option maxHeartbeats 1000000 in
theorem Of_ok (s : Nat) (v : Value) (l : List Gr) (w : World) (hv : GS w v l) (hm : l.length ≤ 4611686018427387904) (h : sideB s = true) (g : allB s l = true) (hd : sizeL l = l.length) (ho : ∀ x ∈ l, x.ok) :
    Calls Try.prog 31 #[.int .i64 s, v] w fun en w' => ∃ r, en = .returned (.tuple #[r, .int .i64 0]) ∧ VF w.heap.size w' r s (setB s l) ∧ Below w.heap.size w w' := by
  have hs := side_iff.1 h
  have HI : Kp (∀ W, Calls Try.prog 64 #[.int .i64 s] W fun e w' => e = .returned (.bool true) ∧ W = w') := ⟨fun W => h ▸ isSide_any s W⟩
  have HA : Kp (∀ W, Below w.heap.size w W → Calls Try.prog 58 #[v, .int .i64 s] W fun e w' => e = .returned (.bool true) ∧ Below W.heap.size W w') := ⟨fun W hW => g ▸ allInside_any s v l W (hv.below hW) hm⟩
  have HS : Kp (∀ W, Below w.heap.size w W → Calls Try.prog 59 #[v] W fun e w' => ∃ b, e = .returned (.map (some b)) ∧ W.heap.size ≤ b ∧ SM w' b l ∧ Below W.heap.size W w') := ⟨fun W hW => setOf_any v l W (hv.below hW) hm ho⟩
  have HL : Kp (∀ W, Below w.heap.size w W → Calls Try.prog 40 #[.int .i64 s, v] W fun en w' => ∃ u, en = .returned (.agg #[.int .i64 s, u]) ∧ NB W.heap.size w' u (setB s l) ∧ Below W.heap.size W w') := ⟨fun W hW => listed_any s v l W (by omega) (by omega) (hv.below hW) hm (fun x hx => by
    unfold allB at g
    rw [List.all_eq_true] at g
    rw [← inB_ins]
    exact g x hx)⟩
  obtain ⟨gv, cv, rfl⟩ := hv.shape
  have hlt : ¬ (sizeL l : Int) < (l.length : Int) := by omega
  obtain ⟨z, hz⟩ : ∃ z, sizeL l = z := ⟨_, rfl⟩
  rw [hz] at hlt
  have HZ := Kp.mk hz
  clear hv h g hm hd ho hz hs
  go_enter Try.func31, Try.ntmps31
  go_wp2_with fail
  refine (HI.out _).mono ?_
  rintro en w1 ⟨rfl, rfl⟩
  go_wp2_with fail
  refine (HA.out _ (by repeat (first | exact Below.refl _ _ | refine Below.alloc ?_ (by simp <;> omega) _ | refine bDrewN ?_ _ | refine Below.drew ?_))).mono ?_
  rintro en w1 ⟨rfl, hb1⟩
  have HB1 : Kp (Below w.heap.size w w1) := ⟨Below.trans (by repeat (first | refine Below.alloc ?_ (by (try simp) <;> omega) _ | refine bDrewN ?_ _ | refine Below.drew ?_ | refine Below.setCell ?_ (by (try simp) <;> omega) _ | exact Below.refl _ _)) (hb1.mono (by (try simp) <;> omega))⟩
  have hz1_0 : w.heap.size < w1.heap.size := by have := hb1.size; (try simp at this); omega
  obtain ⟨hc, hf⟩ := bcell hb1
  have c1_0_0 : w1.cell? ⟨w.heap.size, 0, none⟩ = some (.int .i64 0) := (hc _ _ (by (try simp) <;> omega)).trans (by go_simp)
  have c1_0_1 : w1.cell? ⟨w.heap.size, 1, none⟩ = some ((.slice none 0 0)) := (hc _ _ (by (try simp) <;> omega)).trans (by go_simp)
  have z1_0 : ∀ j, w1.frozen? ⟨w.heap.size, j, none⟩ = false := fun j => (hf _ _ (by (try simp) <;> omega)).trans (by go_simp)
  clear hc hf hb1
  go_wp2_with fail
  refine (HS.out _ HB1.out).mono ?_
  rintro en w2 ⟨b, rfl, -, hsm, hb2⟩
  have hlen := fun ty => hsm.len ty
  rw [HZ.out] at hlen
  have HB2 : Kp (Below w.heap.size w w2) := ⟨Below.trans (by repeat (first | refine Below.alloc ?_ (by have := HB1.out.size; (try simp) <;> omega) _ | refine bDrewN ?_ _ | refine Below.drew ?_ | refine Below.setCell ?_ (by have := HB1.out.size; (try simp) <;> omega) _ | exact HB1.out)) (hb2.mono (by have := HB1.out.size; (try simp) <;> omega))⟩
  have hz2_0 : w.heap.size < w2.heap.size := by have := hb2.size; (try simp at this); omega
  obtain ⟨hc, hf⟩ := bcell hb2
  have c2_0_0 : w2.cell? ⟨w.heap.size, 0, none⟩ = some (.int .i64 0) := (hc _ _ (by (try simp) <;> omega)).trans (by go_simp)
  have c2_0_1 : w2.cell? ⟨w.heap.size, 1, none⟩ = some ((.slice none 0 0)) := (hc _ _ (by (try simp) <;> omega)).trans (by go_simp)
  have z2_0 : ∀ j, w2.frozen? ⟨w.heap.size, j, none⟩ = false := fun j => (hf _ _ (by (try simp) <;> omega)).trans (by go_simp)
  clear hc hf hb2
  clear hsm
  go_wp2_with fail
  refine (HL.out _ HB2.out).mono ?_
  rintro en w3 ⟨u, rfl, hu, hb3⟩
  obtain ⟨gu, cu, rfl⟩ := hu.lb.shape
  have HU : Kp (NB (w.heap.size + 1) w3 _ (setB s l)) := ⟨hu.more (by omega)⟩
  clear hu hlen
  have HB3 : Kp (Below w.heap.size w w3) := ⟨Below.trans (by repeat (first | refine Below.alloc ?_ (by have := HB2.out.size; (try simp) <;> omega) _ | refine bDrewN ?_ _ | refine Below.drew ?_ | refine Below.setCell ?_ (by have := HB2.out.size; (try simp) <;> omega) _ | exact HB2.out)) (hb3.mono (by have := HB2.out.size; (try simp) <;> omega))⟩
  have hz3_0 : w.heap.size < w3.heap.size := by have := hb3.size; (try simp at this); omega
  obtain ⟨hc, hf⟩ := bcell hb3
  have c3_0_0 : w3.cell? ⟨w.heap.size, 0, none⟩ = some (.int .i64 0) := (hc _ _ (by (try simp) <;> omega)).trans (by go_simp)
  have c3_0_1 : w3.cell? ⟨w.heap.size, 1, none⟩ = some ((.slice none 0 0)) := (hc _ _ (by (try simp) <;> omega)).trans (by go_simp)
  have z3_0 : ∀ j, w3.frozen? ⟨w.heap.size, j, none⟩ = false := fun j => (hf _ _ (by (try simp) <;> omega)).trans (by go_simp)
  clear hc hf hb3
  go_wp2
  have HB4 : Below w.heap.size w ((w3.setCell ⟨w.heap.size, 0, none⟩ (.int .i64 s)).setCell ⟨w.heap.size, 1, none⟩ (.slice gu (setB s l).length cu)) := by (have hzS := HB3.out.size; (repeat (with_reducible first | exact HB3.out | refine Below.setCell ?_ ?_ _ | refine Below.alloc ?_ ?_ _ | refine Below.drew ?_ | refine bDrewN ?_ _)); all_goals ((try simp) <;> omega))
  have hV2 := (HU.out.set w.heap.size 0 (.int .i64 s) (by omega)).set w.heap.size 1 (.slice gu (setB s l).length cu) (by omega)
  refine bodyPost_ret (v := .tuple #[.agg #[.int .i64 s, .slice gu (setB s l).length cu], .int .i64 0]) (by simp [results, Try.results31, go_sem, c3_0_0, c3_0_1]) rfl ⟨_, rfl, ⟨_, rfl, ?_⟩, HB4⟩
  have := (hV2.more (m := w.heap.size) (by omega)).fb
  simpa using this
theorem Of_new (n : Int) (v : Value) (l : List Gr) (w : World) (hv : GS w v l) (hm : l.length ≤ 4611686018427387904) :
    Calls Try.prog 31 #[.int .i64 n, v] w fun en w' => ∃ r, en = .returned (.tuple #[r, .int .i64 (ofE n l)]) ∧ VF w.heap.size w' r (ofS n l) (ofL n l) ∧ Below w.heap.size w w' := by
  have no : ∀ r, ofE n l = r → r ≠ 0 → Calls Try.prog 31 #[.int .i64 n, v] w (OfNo w r) → Calls Try.prog 31 #[.int .i64 n, v] w fun en w' => ∃ r, en = .returned (.tuple #[r, .int .i64 (ofE n l)]) ∧ VF w.heap.size w' r (ofS n l) (ofL n l) ∧ Below w.heap.size w w' := fun r h1 h2 h3 => by
    obtain ⟨e1, e2⟩ := of_bad h1 h2
    rw [h1, e1, e2]
    exact h3.mono fun en w' ⟨ha, hb⟩ => ⟨_, ha, VF.nil _ _, hb⟩
  cases h : sideB n with
  | false => exact no 7 (by unfold ofE; rw [h, if_neg (by simp)]) (by decide) (Of_side n v l w hv h)
  | true =>
    cases g : allB n l with
    | false => exact no 7 (by unfold ofE; rw [g, if_neg (by simp)]) (by decide) (Of_out n v l w hv hm h g)
    | true =>
      have hs := side_iff.1 h
      obtain ⟨s, rfl⟩ : ∃ s : Nat, n = s := ⟨n.toNat, by omega⟩
      have ho : ∀ x ∈ l, x.ok := fun x hx => ins_ok (s := s) (by omega) (by
        unfold allB at g
        rw [List.all_eq_true] at g
        rw [← inB_ins]
        exact g x hx)
      obtain ⟨d1, d2⟩ := size_dup _ rfl ho
      by_cases hn : l.Nodup
      · have e0 : ofE s l = 0 := by unfold ofE; rw [if_pos ⟨h, g⟩, if_pos hn]
        have e1 : ofS s l = s := by unfold ofS; rw [e0]; rfl
        have e2 : ofL s l = setB s l := by unfold ofL; rw [e0]; rfl
        rw [e0, e1, e2]
        exact Of_ok s v l w hv hm h g (d2.2 hn) ho
      · have hlt : sizeL l < l.length := Nat.lt_of_le_of_ne d1 (fun e => hn (d2.1 e))
        exact no 6 (by unfold ofE; rw [if_pos ⟨h, g⟩, if_neg hn]) (by decide) (Of_twice s v l w hv hm h g hlt ho)
theorem Of_any (n : Int) (v : Value) (l : List Gr) (w : World) (hv : GS w v l) (hm : l.length ≤ 4611686018427387904) :
    Calls Try.prog 31 #[.int .i64 n, v] w fun en w' => ∃ r, en = .returned (.tuple #[r, .int .i64 (ofE n l)]) ∧ VB w' r (ofS n l) (ofL n l) ∧ Below w.heap.size w w' :=
  (Of_new n v l w hv hm).mono fun _ _ ⟨r, h1, h2, h3⟩ => ⟨r, h1, h2.vb, h3⟩
end Go.Proofs.Ytcjlijiifhggfaa.Cv
