/-
  WALKS (layer 4, cold): the longest stretch of cold hours, by the program.
-/
import Derived.Test.YteidabpflfkdcaaDoorCdCold
import Derived.Test.YteidabpflfkdcaaDoorCdAt
import Derived.Test.YteidabpflfkdcaaDoorCdKill
namespace Go.Proofs.YteidabpflfkdcaaDoor.Cd
open Go Go.RowKit Go.Sort
attribute [local go_sem] Oper.semAt_some

/-- What a stretch does to where a row of cold hours begins, and to the longest one. -/
def lgS (temp : Int) (q : Int × Int × Int) (x : Sg) : Int × Int × Int := if temp < x.c then (x.t, q.2) else if q.2.2 < x.t - q.1 then (q.1, q.1, x.t - q.1) else q
def lgF (temp b0 : Int) (xs : List Sg) : Int × Int × Int := xs.foldl (lgS temp) (b0, 0, 0)
theorem lgF_snoc (temp b0 : Int) (xs : List Sg) (x : Sg) : lgF temp b0 (xs ++ [x]) = lgS temp (lgF temp b0 xs) x := by
  unfold lgF; rw [List.foldl_append]; rfl
theorem lg_warm {temp : Int} {q : Int × Int × Int} {x : Sg} (h : temp < x.c) : lgS temp q x = (x.t, q.2) := by unfold lgS; rw [if_pos h]
theorem lg_more {temp : Int} {q : Int × Int × Int} {x : Sg} (h : ¬ temp < x.c) (g : q.2.2 < x.t - q.1) : lgS temp q x = (q.1, q.1, x.t - q.1) := by unfold lgS; rw [if_neg h, if_pos g]
theorem lg_less {temp : Int} {q : Int × Int × Int} {x : Sg} (h : ¬ temp < x.c) (g : ¬ q.2.2 < x.t - q.1) : lgS temp q x = q := by unfold lgS; rw [if_neg h, if_neg g]
/-- What is known behind each stretch. -/
theorem lg_bd {l : List Rd} {e : Int} (h : Good l e) {temp : Int} {k : Nat} (hk : k ≤ l.length) : ∀ q, lgF temp (firstH l) (strs l e k) = q → (0 ≤ q.1 ∧ q.1 ≤ 1000000) ∧ (0 ≤ q.2.1 ∧ q.2.1 ≤ 1000000) ∧ (0 ≤ q.2.2 ∧ q.2.2 ≤ 1000000) := by
  induction k with
  | zero =>
    intro q hq
    have h0 := (h.sg (i := 0) (by have := h.len; omega)).1
    have e0 : lgF temp (firstH l) (strs l e 0) = (firstH l, 0, 0) := rfl
    have e1 : firstH l = (sgAt l e 0).f := rfl
    rw [e0] at hq
    subst hq
    simp only
    omega
  | succ k ih =>
    intro q hq
    have h1 := ih (by omega) _ rfl
    have h2 := (h.sg (show k < l.length by omega)).1
    rw [strs_succ, lgF_snoc] at hq
    subst hq
    unfold lgS
    split
    · simp only; omega
    · split
      · simp only; omega
      · exact h1
def lgR (l : List Rd) (e temp : Int) : Int × Int × Int := if chkE l e [temp] = 0 then (if (lgF temp (firstH l) (strs l e l.length)).2.2 = 0 then (0, 0, 8) else ((lgF temp (firstH l) (strs l e l.length)).2.1, (lgF temp (firstH l) (strs l e l.length)).2.2, 0)) else (0, 0, chkE l e [temp])
/-- The call's own cells. -/
def lgB (Z Y : Nat) (temp : Int) (q : Int × Int × Int) : List (Nat × Nat × Value) := [(Z, 0, .int .i64 temp), (Z + 1, 0, .int .i64 q.2.1), (Z + 1 + 1, 0, .int .i64 q.2.2), (Y, 0, .int .i64 q.1)]
theorem lgB_abide {w : World} {Z Y B : Nat} {temp : Int} {q : Int × Int × Int} (hB : w.heap.size ≤ B) (h : Z + 2 < Y ∧ Y < B) : Abides B (Hd w (lgB Z Y temp q)) :=
  Hd.abide hB fun p hp => by
    simp only [lgB, List.mem_cons, List.not_mem_nil, or_false] at hp
    rcases hp with rfl | rfl | rfl | rfl <;> simp only <;> omega
theorem lgB_begin {w W : World} {Z Y : Nat} {temp qb qf qh t : Int} (hi : Hd w (lgB Z Y temp (qb, qf, qh)) W) (h : w.heap.size ≤ Y) (hy : Z + 2 < Y) : Hd w (lgB Z Y temp (t, qf, qh)) (W.setCell ⟨Y, 0, none⟩ (.int .i64 t)) := by
  obtain ⟨h7, z7⟩ := hi.cells (Z, 0, .int .i64 temp) (by simp [lgB])
  obtain ⟨h5, z5⟩ := hi.cells (Z + 1, 0, .int .i64 qf) (by simp [lgB])
  obtain ⟨h6, z6⟩ := hi.cells (Z + 1 + 1, 0, .int .i64 qh) (by simp [lgB])
  obtain ⟨h8, z8⟩ := hi.cells (Y, 0, .int .i64 qb) (by simp [lgB])
  simp only at h7 z7 h8 z8 h5 z5 h6 z6
  refine ⟨hi.below.setCell (by simp; omega) _, ?_⟩
  intro p hp
  simp only [lgB, List.mem_cons, List.not_mem_nil, or_false] at hp
  rcases hp with rfl | rfl | rfl | rfl <;> constructor <;> simp [go_sem, h7, z7, h8, z8, h5, z5, h6, z6]
theorem lgB_more {w W : World} {Z Y : Nat} {temp qb qf qh u t : Int} (hi : Hd w (lgB Z Y temp (qb, qf, qh)) W) (h : w.heap.size ≤ Z) (hy : Z + 2 < Y) : Hd w (lgB Z Y temp (qb, u, t)) (((W.setCell ⟨Z + 1, 0, none⟩ (.int .i64 u)).setCell ⟨Z + 1 + 1, 0, none⟩ (.int .i64 t)).drew) := by
  obtain ⟨h7, z7⟩ := hi.cells (Z, 0, .int .i64 temp) (by simp [lgB])
  obtain ⟨h5, z5⟩ := hi.cells (Z + 1, 0, .int .i64 qf) (by simp [lgB])
  obtain ⟨h6, z6⟩ := hi.cells (Z + 1 + 1, 0, .int .i64 qh) (by simp [lgB])
  obtain ⟨h8, z8⟩ := hi.cells (Y, 0, .int .i64 qb) (by simp [lgB])
  simp only at h7 z7 h8 z8 h5 z5 h6 z6
  refine Hd.drew ⟨(hi.below.setCell (by simp; omega) _).setCell (by simp; omega) _, ?_⟩
  intro p hp
  simp only [lgB, List.mem_cons, List.not_mem_nil, or_false] at hp
  rcases hp with rfl | rfl | rfl | rfl <;> constructor <;> simp (maxDischargeDepth := 9) [go_sem, h7, z7, h8, z8, h5, z5, h6, z6]
theorem lgB_more' {w W : World} {Z Y : Nat} {temp qb qf qh u t : Int} (hi : Hd w (lgB Z Y temp (qb, qf, qh)) W) (h : w.heap.size ≤ Z) (hy : Z + 2 < Y) : Hd w (lgB Z Y temp (qb, u, t)) ((W.setCell ⟨Z + 1, 0, none⟩ (.int .i64 u)).setCell ⟨Z + 1 + 1, 0, none⟩ (.int .i64 t)) :=
  have hd := lgB_more (u := u) (t := t) hi h hy
  ⟨(hi.below.setCell (by simp; omega) _).setCell (by simp; omega) _, fun p hp => hd.cells p hp⟩
theorem two_keeps {W : World} {B Z : Nat} {u v : Value} (h : Z + 2 < B) : KeepsFrom B W (((W.setCell ⟨Z + 1, 0, none⟩ u).setCell ⟨Z + 1 + 1, 0, none⟩ v).drew) :=
  (KeepsFrom.of_grownBy (setCell_grown W (Z + 1) 0 u) (fun j e => by simp only [Option.some.injEq] at e; omega)).trans ((KeepsFrom.of_grownBy (setCell_grown _ (Z + 1 + 1) 0 v) (fun j e => by simp only [Option.some.injEq] at e; omega)).trans (KeepsFrom.of_grownBy (grown_below (Below.drew (Below.refl _ _)) none) (fun j e => by cases e)))
theorem two_keep3 {S : Nat → Prop} {n : Nat} {W : World} {Z : Nat} {u v : Value} (hS : ∀ k, S k → k < W.heap.size) (h : ∀ k, S k → k ≠ Z + 1 ∧ k ≠ Z + 1 + 1) : Keep3 S n W (((W.setCell ⟨Z + 1, 0, none⟩ u).setCell ⟨Z + 1 + 1, 0, none⟩ v).drew) :=
  (Keep3.of_grown (setCell_grown W (Z + 1) 0 u) hS (fun k hk e => (h k hk).1 (by simpa using e))).trans ((Keep3.of_grown (setCell_grown _ (Z + 1 + 1) 0 v) (fun k hk => by simpa using hS k hk) (fun k hk e => (h k hk).2 (by simpa using e))).trans (Keep3.of_grown (grown_below (Below.drew (Below.refl _ _)) none) (fun k hk => by simpa using hS k hk) (fun k hk e => by cases e)))
theorem two_heap' {W : World} {Z D : Nat} {u v : Value} (h : Z + 2 < D) : ((W.setCell ⟨Z + 1, 0, none⟩ u).setCell ⟨Z + 1 + 1, 0, none⟩ v).heap[D]? = W.heap[D]? :=
  (Below.heap_setCell _ _ _ _ (by simp only; omega)).trans (Below.heap_setCell _ _ _ _ (by simp only; omega))
theorem two_heap {W : World} {Z D : Nat} {u v : Value} (h : Z + 2 < D) : (((W.setCell ⟨Z + 1, 0, none⟩ u).setCell ⟨Z + 1 + 1, 0, none⟩ v).drew).heap[D]? = W.heap[D]? := two_heap' h
/-- The end of the walk: the results are stored, the deferred calls taken. -/
theorem lg_end {w X : World} {Z Y B D : Nat} {temp : Int} {q : Int × Int × Int} (hX : Hd w (lgB Z Y temp q) X) (hB : w.heap.size ≤ B) (h : Z + 2 < Y ∧ Y < B) (hD : B ≤ D) (hd : X.heap[D]? = some (.deferred (some []))) :
    X.heap[D]? = some (.deferred (some [])) ∧ (X.putObj D (.deferred none)).cell? ⟨Z + 1, 0, none⟩ = some (.int .i64 q.2.1) ∧ (X.putObj D (.deferred none)).cell? ⟨Z + 1 + 1, 0, none⟩ = some (.int .i64 q.2.2) ∧ Below w.heap.size w (X.putObj D (.deferred none)) := by
  have hi := lgB_abide hB h _ _ (some D) hX (grownBy_putObj' _ D (.deferred none)) (fun r e => by cases e; exact .inr ⟨hD, _, hd, rfl⟩)
  exact ⟨hd, (hi.cells (Z + 1, 0, .int .i64 q.2.1) (by simp [lgB])).1, (hi.cells (Z + 1 + 1, 0, .int .i64 q.2.2) (by simp [lgB])).1, hi.below⟩
theorem Longest_bad (v : Value) (l : List Rd) (e temp r : Int) (w : World) (hs : RS w v l) (h : chkE l e [temp] = r) (hr : (r != 0) = true) :
    Calls Tryd.prog 15 #[v, .int .i64 e, .int .i64 temp] w fun en w' => en = .returned (.tuple #[.int .i64 0, .int .i64 0, .int .i64 r]) ∧ Below w.heap.size w w' := by
  have HQ : Kp (∀ W tv, Below w.heap.size w W → NS W tv [temp] → Calls Tryd.prog 39 #[v, .int .i64 e, tv] W fun en w' => en = .returned (.int .i64 r) ∧ Below W.heap.size W w') := ⟨fun W tv hW ht => h ▸ check_any v l e tv [temp] W (hs.below hW) ht (by simp)⟩
  obtain ⟨g, c, rfl⟩ := hs.shape
  clear hs h
  go_enter Tryd.func15, Tryd.ntmps15
  go_wp2_with fail
  refine (HQ.out _ _ (by repeat (first | exact Below.refl _ _ | refine Below.alloc ?_ (by simp <;> omega) _ | refine bDrewN ?_ _ | refine Below.drew ?_)) (NS.one (by go_simp))).mono ?_
  rintro en w1 ⟨rfl, hb1⟩
  have HB1 : Kp (Below w.heap.size w w1) := ⟨Below.trans (by repeat (first | refine Below.alloc ?_ (by (try simp) <;> omega) _ | refine bDrewN ?_ _ | refine Below.drew ?_ | exact Below.refl _ _)) (hb1.mono (by (try simp) <;> omega))⟩
  have hz1_0 : w.heap.size < w1.heap.size := by have := hb1.size; (try simp at this); omega
  have hz1_1 : w.heap.size + 1 < w1.heap.size := by have := hb1.size; (try simp at this); omega
  have hz1_2 : w.heap.size + 2 < w1.heap.size := by have := hb1.size; (try simp at this); omega
  obtain ⟨hc, hf⟩ := bcell hb1
  have c1_0_0 : w1.cell? ⟨w.heap.size, 0, none⟩ = some (.int .i64 temp) := (hc _ _ (by (try simp) <;> omega)).trans (by go_simp)
  have z1_0 : ∀ j, w1.frozen? ⟨w.heap.size, j, none⟩ = false := fun j => (hf _ _ (by (try simp) <;> omega)).trans (by go_simp)
  have c1_1_0 : w1.cell? ⟨w.heap.size + 1, 0, none⟩ = some (.int .i64 0) := (hc _ _ (by (try simp) <;> omega)).trans (by go_simp)
  have z1_1 : ∀ j, w1.frozen? ⟨w.heap.size + 1, j, none⟩ = false := fun j => (hf _ _ (by (try simp) <;> omega)).trans (by go_simp)
  have c1_2_0 : w1.cell? ⟨w.heap.size + 2, 0, none⟩ = some (.int .i64 0) := (hc _ _ (by (try simp) <;> omega)).trans (by go_simp)
  have z1_2 : ∀ j, w1.frozen? ⟨w.heap.size + 2, j, none⟩ = false := fun j => (hf _ _ (by (try simp) <;> omega)).trans (by go_simp)
  clear hc hf hb1
  go_wp2
  refine bodyPost_ret (v := .tuple #[.int .i64 0, .int .i64 0, .int .i64 r]) ?_ rfl ⟨rfl, ?_⟩
  · simp [results, Tryd.results15, go_sem, c1_1_0, c1_2_0]
  · have hzS := HB1.out.size
    (repeat (with_reducible first | exact HB1.out | refine Below.setCell ?_ ?_ _ | refine Below.alloc ?_ ?_ _ | refine Below.drew ?_ | refine bDrewN ?_ _)); all_goals ((try simp) <;> omega)
set_option maxRecDepth 100000 in
set_option maxHeartbeats 4000000 in
theorem Longest_in (v : Value) (l : List Rd) (e temp : Int) (w : World) (hs : RS w v l) (h : Good l e) (ht : allB (-1000) 1000 [temp] = true) :
    Calls Tryd.prog 15 #[v, .int .i64 e, .int .i64 temp] w fun en w' => en = .returned (.tuple #[.int .i64 (lgR l e temp).1, .int .i64 (lgR l e temp).2.1, .int .i64 (lgR l e temp).2.2]) ∧ Below w.heap.size w w' := by
  have HG := Kp.mk h
  have HQ : Kp (∀ W tv, Below w.heap.size w W → NS W tv [temp] → Calls Tryd.prog 39 #[v, .int .i64 e, tv] W fun en w' => en = .returned (.int .i64 0) ∧ Below W.heap.size W w') := ⟨fun W tv hW htv => good_chk h ht ▸ check_any v l e tv [temp] W (hs.below hW) htv (by simp)⟩
  have HLR : Kp (lgR l e temp = if (lgF temp (firstH l) (strs l e l.length)).2.2 = 0 then (0, 0, 8) else ((lgF temp (firstH l) (strs l e l.length)).2.1, (lgF temp (firstH l) (strs l e l.length)).2.2, 0)) := ⟨by unfold lgR; rw [if_pos (good_chk h ht)]⟩
  obtain ⟨R, hR⟩ : ∃ R, lgR l e temp = R := ⟨_, rfl⟩
  rw [hR] at HLR ⊢
  clear hR
  obtain ⟨F, hF⟩ : ∃ F, firstH l = F := ⟨_, rfl⟩
  have HF0 := Kp.mk hF
  obtain ⟨b, o, m, c, y, rfl, hm, hm9, hb, -, -, -⟩ := last_of hs h.read
  have HC0 : Kp (w.cell? ⟨b, o, none⟩ = some (.int .i64 F)) := ⟨by
    obtain ⟨b1, o1, c1, hv1, -, hc1⟩ := first_of hs h.len.1
    simp only [Value.slice.injEq, Option.some.injEq, Addr.mk.injEq, and_true] at hv1
    obtain ⟨⟨rfl, rfl⟩, -, -⟩ := hv1
    rw [← hF]; exact hc1⟩
  have hl0 : (0 : Int) < (m : Int) + 1 := by omega
  have HS := Kp.mk hs
  have HM := Kp.mk (And.intro hm hb)
  obtain ⟨Z, hZ⟩ : ∃ Z, w.heap.size = Z := ⟨_, rfl⟩
  have HZ : Kp (w.heap.size = Z) := ⟨hZ⟩
  clear hs h hm hb ht hZ hF
  refine (callsIn_wide (n := 6)).1 ?_
  refine callsIn_of_wp_marks Tryd.func15 rfl trivial ?_ rfl
  simp only [Tryd.ntmps15, List.size_toArray, List.length_cons, List.length_nil, Nat.reduceAdd, Nat.reduceSub, Array.replicate_succ, Array.replicate_zero, List.push_toArray, List.append_toArray, List.nil_append, List.cons_append]
  gi_wp2_with fail
  refine ⟨trivial, (callsIn_wide.2 (HQ.out _ _ (by repeat (first | exact Below.refl _ _ | refine Below.alloc ?_ (by simp <;> omega) _ | refine bDrewN ?_ _ | refine Below.drew ?_)) (NS.one (by go_simp)))).mono ?_⟩
  rintro en w1 ⟨rfl, hb1⟩
  have HB1 : Kp (Below w.heap.size w w1) := ⟨Below.trans (by repeat (first | refine Below.alloc ?_ (by (try simp) <;> omega) _ | refine bDrewN ?_ _ | refine Below.drew ?_ | exact Below.refl _ _)) (hb1.mono (by (try simp) <;> omega))⟩
  have hz1_0 : w.heap.size < w1.heap.size := by have := hb1.size; (try simp at this); omega
  have hz1_1 : w.heap.size + 1 < w1.heap.size := by have := hb1.size; (try simp at this); omega
  have hz1_2 : w.heap.size + 2 < w1.heap.size := by have := hb1.size; (try simp at this); omega
  obtain ⟨hc, hf⟩ := bcell hb1
  have c1_0_0 : w1.cell? ⟨w.heap.size, 0, none⟩ = some (.int .i64 temp) := (hc _ _ (by (try simp) <;> omega)).trans (by go_simp)
  have z1_0 : ∀ j, w1.frozen? ⟨w.heap.size, j, none⟩ = false := fun j => (hf _ _ (by (try simp) <;> omega)).trans (by go_simp)
  have c1_1_0 : w1.cell? ⟨w.heap.size + 1, 0, none⟩ = some (.int .i64 0) := (hc _ _ (by (try simp) <;> omega)).trans (by go_simp)
  have z1_1 : ∀ j, w1.frozen? ⟨w.heap.size + 1, j, none⟩ = false := fun j => (hf _ _ (by (try simp) <;> omega)).trans (by go_simp)
  have c1_2_0 : w1.cell? ⟨w.heap.size + 2, 0, none⟩ = some (.int .i64 0) := (hc _ _ (by (try simp) <;> omega)).trans (by go_simp)
  have z1_2 : ∀ j, w1.frozen? ⟨w.heap.size + 2, j, none⟩ = false := fun j => (hf _ _ (by (try simp) <;> omega)).trans (by go_simp)
  clear hc hf hb1
  have c0 := (HB1.out.cell (p := ⟨b, _, none⟩) HM.out.2).trans HC0.out
  have lb : b < w1.heap.size := Nat.lt_of_lt_of_le HM.out.2 HB1.out.size
  gi_wp2_with fail
  refine ⟨trivial, (callsIn_wide.2 (stretches_any _ _ _ e _)).mono ?_⟩
  rintro en W0 ⟨rfl, hW0⟩
  obtain ⟨Y, hY⟩ : ∃ Y, w1.heap.size = Y := ⟨_, rfl⟩
  have hzy : Z + 2 < Y := by have := HZ.out; omega
  have HX : Kp (Hd w ([(w.heap.size, 0, .int .i64 temp), (w.heap.size + 1, 0, .int .i64 0), (w.heap.size + 1 + 1, 0, .int .i64 0)] ++ [(Y, 0, .int .i64 F)]) (w1.alloc (.cells #[.int .i64 F] 3))) := ⟨Hd.box ⟨HB1.out, by
    intro p hp
    simp only [List.mem_cons, List.not_mem_nil, or_false] at hp
    rcases hp with rfl | rfl | rfl
    · exact ⟨c1_0_0, z1_0 _⟩
    · exact ⟨c1_1_0, z1_1 _⟩
    · exact ⟨c1_2_0, z1_2 _⟩⟩ (.int .i64 F) 3 hY (by have := HZ.out; omega)⟩
  have HW := Lib.hid (str_start (Y := Y + 1) (by rw [World.size_alloc, hY]) hW0)
  rw [HZ.out] at HX
  have HH : Kp (Hd w (lgB Z Y temp (F, 0, 0)) W0) := ⟨HX.out.on HW.out.2.1⟩
  have HSW : Kp (RS W0 (.slice (some ⟨b, o, none⟩) l.length c) l) := ⟨by rw [HM.out.1]; exact HS.out.below HH.out.below⟩
  have HBW : Kp (b < W0.heap.size) := ⟨Nat.lt_of_lt_of_le HM.out.2 HH.out.below.size⟩
  have HY : Kp (w1.heap.size = Y) := ⟨hY⟩
  have HBD : Kp (∀ k, k ≤ l.length → ∀ q, lgF temp F (strs l e k) = q → (0 ≤ q.1 ∧ q.1 ≤ 1000000) ∧ (0 ≤ q.2.1 ∧ q.2.1 ≤ 1000000) ∧ (0 ≤ q.2.2 ∧ q.2.2 ≤ 1000000)) := ⟨by rw [← HF0.out]; exact fun k hk => lg_bd HG.out hk⟩
  rw [HF0.out] at HLR
  clear hW0 HX HB1 c1_0_0 z1_0 hz1_0 c1_1_0 z1_1 hz1_1 c1_2_0 z1_2 hz1_2 hY HQ HC0 c0 lb HF0
  gi_wp2
  simp only [HY.out, HZ.out]
  refine wpIn_yieldsS (enc := encS) (xs := strs l e l.length) rfl (by omega) (gf := 72) (lb := #[.pointer (some ⟨Y + 1, 0, none⟩), .pointer (some ⟨Y + 1 + 1, 0, none⟩)]) rfl trivial (enters_of Tryd.func72 (by kernel_rfl) rfl) (fun _ => rfl)
    (stretches_yields 5 (by omega) (Y + 1) (Y + 1 + 1) b o c l e W0 (by have := HM.out.1; omega) HSW.out HBW.out (by rw [HM.out.1]; exact HW.out.2.2.1) HW.out.2.2.2) Keep3.trans (fun W lq ob ob' hl _ _ _ => Keep3.putObj (B := W0.heap.size) (fun k hk => by have := HW.out.1; have := HBW.out; rcases hk with rfl | rfl | rfl <;> omega) W lq ob' hl)
    (fun pre W => Hd w (lgB Z Y temp (lgF temp F pre)) W)
    (fun _ _ _ => False)
    (fun s => lgB_abide (by have := HZ.out; have := HW.out.1; omega) (by have := HW.out.1; omega)) (fun _ _ => abide_const) HH.out
    (fun pre x a' W => Hd w (lgB Z Y temp (lgF temp F pre)) W ∧ ∃ Nb, Y + 5 < Nb ∧ SgAt W Nb x ∧ a' = { tmps := #[.slice (some ⟨b, o, none⟩) (m + 1) c, .int .i64 e, .int .i64 temp, undef, undef, .pointer (some ⟨Z, 0, none⟩), .pointer (some ⟨Z + 1, 0, none⟩), .pointer (some ⟨Z + 1 + 1, 0, none⟩), .int .i64 0, .int .i64 0, .pointer (some ⟨Y, 0, none⟩), .pointer (some ⟨Nb, 0, none⟩), .int .i64 x.c, .slice (some ⟨b, o, none⟩) (m + 1) c, .int .i64 e, .int .i64 temp, .slice (some ⟨Z + 1 + 1 + 1, 0, none⟩) 1 1, .int .i64 0, .int .i64 0, .bool false, undef, .slice (some ⟨b, o, none⟩) (m + 1) c, .pointer (some ⟨b, o, none⟩), .pointer (some ⟨b, o, none⟩), .int .i64 F, .slice (some ⟨b, o, none⟩) (m + 1) c, .int .i64 e, .func (.func 72) #[] #[.pointer (some ⟨Y + 1, 0, none⟩), .pointer (some ⟨Y + 1 + 1, 0, none⟩)], .agg #[.int .i64 x.f, .int .i64 x.t], .int .i64 x.c, undef, undef, undef, undef, undef, undef, undef, undef, undef, undef, undef, undef, undef, undef, undef, undef, undef, undef, undef, undef], defers := [] })
    ?ax ?assign ?body ?done ?stop
  case ax =>
    rintro pre x a' X V row ⟨hi, Nb, hNb, hx, ha⟩ g hr
    exact ⟨lgB_abide (by have := HZ.out; have := HW.out.1; omega) (by have := HW.out.1; omega) X V row hi g hr, Nb, hNb, hx.abide g hr (by have := HW.out.1; omega), ha⟩
  case assign =>
    rintro lp pre ⟨f, t, cc⟩ W hi _ hsz
    have HI := Kp.mk hi
    have hsz' : Y + 5 < W.heap.size := by have := HW.out.1; omega
    clear hi
    have ez : ((#[28, 29] : Array Tmp).zip (encS ⟨f, t, cc⟩)).foldl (fun tmps (q : Tmp × Value) => tmps.setIfInBounds q.1 q.2) #[.slice (some ⟨b, o, none⟩) (m + 1) c, .int .i64 e, .int .i64 temp, undef, undef, .pointer (some ⟨Z, 0, none⟩), .pointer (some ⟨Z + 1, 0, none⟩), .pointer (some ⟨Z + 1 + 1, 0, none⟩), .int .i64 0, .int .i64 0, .pointer (some ⟨Y, 0, none⟩), undef, undef, .slice (some ⟨b, o, none⟩) (m + 1) c, .int .i64 e, .int .i64 temp, .slice (some ⟨Z + 1 + 1 + 1, 0, none⟩) 1 1, .int .i64 0, .int .i64 0, .bool false, undef, .slice (some ⟨b, o, none⟩) (m + 1) c, .pointer (some ⟨b, o, none⟩), .pointer (some ⟨b, o, none⟩), .int .i64 F, .slice (some ⟨b, o, none⟩) (m + 1) c, .int .i64 e, .func (.func 72) #[] #[.pointer (some ⟨Y + 1, 0, none⟩), .pointer (some ⟨Y + 1 + 1, 0, none⟩)], undef, undef, undef, undef, undef, undef, undef, undef, undef, undef, undef, undef, undef, undef, undef, undef, undef, undef, undef, undef, undef, undef] = #[.slice (some ⟨b, o, none⟩) (m + 1) c, .int .i64 e, .int .i64 temp, undef, undef, .pointer (some ⟨Z, 0, none⟩), .pointer (some ⟨Z + 1, 0, none⟩), .pointer (some ⟨Z + 1 + 1, 0, none⟩), .int .i64 0, .int .i64 0, .pointer (some ⟨Y, 0, none⟩), undef, undef, .slice (some ⟨b, o, none⟩) (m + 1) c, .int .i64 e, .int .i64 temp, .slice (some ⟨Z + 1 + 1 + 1, 0, none⟩) 1 1, .int .i64 0, .int .i64 0, .bool false, undef, .slice (some ⟨b, o, none⟩) (m + 1) c, .pointer (some ⟨b, o, none⟩), .pointer (some ⟨b, o, none⟩), .int .i64 F, .slice (some ⟨b, o, none⟩) (m + 1) c, .int .i64 e, .func (.func 72) #[] #[.pointer (some ⟨Y + 1, 0, none⟩), .pointer (some ⟨Y + 1 + 1, 0, none⟩)], .agg #[.int .i64 f, .int .i64 t], .int .i64 cc, undef, undef, undef, undef, undef, undef, undef, undef, undef, undef, undef, undef, undef, undef, undef, undef, undef, undef, undef, undef] := by simp [encS]
    rw [ez]
    clear ez
    gi_wp2
    refine ⟨alloc_keeps _ _ _, alloc_keep3 _ _ (fun k hk => by have := HW.out.1; have := HBW.out; rcases hk with rfl | rfl | rfl <;> omega), HI.out.on ((Below.refl _ _).alloc (Nat.le_refl _) _), W.heap.size, hsz', ?_, rfl⟩
    constructor <;> go_simp
  case body =>
    rintro lp pre x a' W ⟨hi, Nb, hNb, hx, rfl⟩ hpre hsz
    obtain ⟨hp1, hp2, hp3⟩ := strs_pre hpre
    have hbd := HG.out.sg (e := e) hp1
    rw [← hp3] at hbd
    have hq := HBD.out pre.length (Nat.le_of_lt hp1) _ rfl
    rw [← hp2] at hq
    have hsn := lgF_snoc temp F pre x
    obtain ⟨Q, hQ⟩ : ∃ Q, lgF temp F pre = Q := ⟨_, rfl⟩
    have HQ0 := Kp.mk hQ
    rw [hQ] at hsn hq hi
    have HI := Kp.mk hi
    obtain ⟨h7, z7⟩ := hi.cells (Z, 0, .int .i64 temp) (by simp [lgB])
    obtain ⟨h5, z5⟩ := hi.cells (Z + 1, 0, .int .i64 Q.2.1) (by simp [lgB])
    obtain ⟨h6, z6⟩ := hi.cells (Z + 1 + 1, 0, .int .i64 Q.2.2) (by simp [lgB])
    obtain ⟨h8, z8⟩ := hi.cells (Y, 0, .int .i64 Q.1) (by simp [lgB])
    simp only at h7 z7 h8 z8 h5 z5 h6 z6
    have l8 := World.block_lt_of_cell? _ _ h8
    obtain ⟨f, t, cc⟩ := x
    obtain ⟨s0, s1⟩ := hx
    simp only at s0 s1 hbd
    obtain ⟨qb, qf, qh⟩ := Q
    simp only at h7 h8 h5 h6 hq
    by_cases hle : temp < cc
    · rw [lg_warm hle] at hsn
      have HSN : Kp (lgF temp F (pre ++ [⟨f, t, cc⟩]) = (t, qf, qh)) := ⟨hsn⟩
      have HK : Kp (Hd w (lgB Z Y temp (t, qf, qh)) (W.setCell ⟨Y, 0, none⟩ (.int .i64 t))) := ⟨lgB_begin hi (by have := HZ.out; omega) hzy⟩
      have HF : Kp (KeepsFrom W0.heap.size W (W.setCell ⟨Y, 0, none⟩ (.int .i64 t))) := ⟨KeepsFrom.of_grownBy (setCell_grown W Y 0 _) (fun j e => by simp only [Option.some.injEq] at e; have := HW.out.1; omega)⟩
      have H3 : Kp (Keep3 (S3 (Y + 1) (Y + 1 + 1) b) (W0.heap.size + 2) W (W.setCell ⟨Y, 0, none⟩ (.int .i64 t))) := ⟨Keep3.of_grown (setCell_grown W Y 0 _) (fun k hk => by have := HW.out.1; have := HBW.out; rcases hk with rfl | rfl | rfl <;> omega) (fun k hk e => by have := HM.out.2; have := HZ.out; simp only [Option.some.injEq] at e; rcases hk with rfl | rfl | rfl <;> omega)⟩
      clear hsn hi hQ hp1 hp2 hp3 hpre
      gi_wp2
      exact ⟨HF.out, H3.out, by show Hd w (lgB Z Y temp (lgF temp F (pre ++ [⟨f, t, cc⟩]))) _; rw [HSN.out]; exact HK.out⟩
    · have i1 : IntKind.i64.wrap (t - qb) = t - qb := IntWalk.i64_in _ (by omega)
      by_cases hmo : qh < t - qb
      · rw [lg_more hle hmo] at hsn
        have HSN : Kp (lgF temp F (pre ++ [⟨f, t, cc⟩]) = (qb, qb, t - qb)) := ⟨hsn⟩
        have HK : Kp (KeepsFrom W0.heap.size W (((W.setCell ⟨Z + 1, 0, none⟩ (.int .i64 qb)).setCell ⟨Z + 1 + 1, 0, none⟩ (.int .i64 (t - qb))).drew) ∧ Keep3 (S3 (Y + 1) (Y + 1 + 1) b) (W0.heap.size + 2) W (((W.setCell ⟨Z + 1, 0, none⟩ (.int .i64 qb)).setCell ⟨Z + 1 + 1, 0, none⟩ (.int .i64 (t - qb))).drew) ∧ Hd w (lgB Z Y temp (lgF temp F (pre ++ [⟨f, t, cc⟩]))) (((W.setCell ⟨Z + 1, 0, none⟩ (.int .i64 qb)).setCell ⟨Z + 1 + 1, 0, none⟩ (.int .i64 (t - qb))).drew)) := ⟨two_keeps (by have := HW.out.1; omega), two_keep3 (fun k hk => by have := HW.out.1; have := HBW.out; rcases hk with rfl | rfl | rfl <;> omega) (fun k hk => by have := HM.out.2; have := HZ.out; rcases hk with rfl | rfl | rfl <;> omega), by rw [HSN.out]; exact lgB_more hi (by have := HZ.out; omega) hzy⟩
        clear hsn hi hQ hp1 hp2 hp3 hpre HSN
        gi_wp2
        gi_region
        all_goals (gi_wp2; exact HK.out)
      · rw [lg_less hle hmo, ← hQ] at hsn
        have HSN : Kp (lgF temp F (pre ++ [⟨f, t, cc⟩]) = lgF temp F pre) := ⟨hsn⟩
        clear hsn hi hQ hp1 hp2 hp3 hpre
        gi_wp2
        exact ⟨KeepsFrom.refl _ _, Keep3.refl _ _ _, by show Hd w (lgB Z Y temp (lgF temp F (pre ++ [⟨f, t, cc⟩]))) _; rw [HSN.out, HQ0.out]; exact HI.out⟩
  case done =>
    rintro D W hD hi hd
    obtain ⟨Q, hQ⟩ : ∃ Q, lgF temp F (strs l e l.length) = Q := ⟨_, rfl⟩
    rw [hQ] at hi HLR
    obtain ⟨h5, z5⟩ := hi.cells (Z + 1, 0, .int .i64 Q.2.1) (by simp [lgB])
    obtain ⟨h6, z6⟩ := hi.cells (Z + 1 + 1, 0, .int .i64 Q.2.2) (by simp [lgB])
    simp only at h5 z5 h6 z6
    obtain ⟨qb, qf, qh⟩ := Q
    simp only at h5 h6 HLR
    have hZ : w.heap.size ≤ Z := by have := HZ.out; omega
    have hzd : Z + 2 < D := by have := HW.out.1; omega
    have hB : w.heap.size ≤ W0.heap.size := by have := HW.out.1; omega
    have hYB : Z + 2 < Y ∧ Y < W0.heap.size := by have := HW.out.1; omega
    by_cases h0 : qh = 0
    · rw [if_pos h0] at HLR
      have HE := Kp.mk (lg_end (lgB_more' (u := 0) (t := 0) hi hZ hzy) hB hYB hD (by rw [two_heap' hzd]; exact hd))
      clear hi hd hQ hZ hzd hB hYB
      subst h0
      gi_wp2
      all_goals (refine ⟨by simp, .inl ⟨_, _, rfl, run_takeDeferred HE.out.1, ?_⟩⟩)
      all_goals (obtain ⟨-, E1, E2, E3⟩ := HE.out)
      all_goals (have HR := HLR.out; subst HR)
      all_goals (exact ⟨.tuple #[.int .i64 0, .int .i64 0, .int .i64 8], by simp [results, Tryd.results15, go_sem, E1, E2], rfl, E3⟩)
    · rw [if_neg h0] at HLR
      have HE := Kp.mk (lg_end (lgB_more (u := qf) (t := qh) hi hZ hzy) hB hYB hD (by rw [two_heap hzd]; exact hd))
      clear hi hd hQ hZ hzd hB hYB
      gi_wp2
      gi_region
      all_goals gi_wp2
      all_goals (refine ⟨by simp, .inl ⟨_, _, rfl, run_takeDeferred HE.out.1, ?_⟩⟩)
      all_goals (obtain ⟨-, E1, E2, E3⟩ := HE.out)
      all_goals (have HR := HLR.out; subst HR)
      all_goals (exact ⟨.tuple #[.int .i64 qf, .int .i64 qh, .int .i64 0], by simp [results, Tryd.results15, go_sem, E1, E2], rfl, E3⟩)
  case stop =>
    rintro D cd ys W hD hys hi hd
    exact hi.elim
end Go.Proofs.YteidabpflfkdcaaDoor.Cd
