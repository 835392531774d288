/-
  WALKS (layer 4, cold): Peak and Most, by the program.
-/
import Derived.Test.YtbbbnfodjkpiaaaCdGreatB
import Derived.Test.YtbbbnfodjkpiaaaCdRPeak
namespace Go.Proofs.Ytbbbnfodjkpiaaa.Cd
open Go Go.RowKit Go.Sort

theorem greatest_room_any (v : Value) (l : List Bx) (w : World) (hs : BS w v l) :
    Calls Try.prog 69 #[v, .func (.func 66) #[] #[]] w fun en w' => en = .returned (.tuple #[.int .i64 (pkV szQ l).1, .int .i64 (pkV szQ l).2, .int .i64 (pkE l)]) ∧ Below w.heap.size w w' := by
  have HQ : Kp (∀ W, Below w.heap.size w W → Calls Try.prog 36 #[v] W fun en w' => en = .returned (.bool (boxesB l)) ∧ Below W.heap.size W w') := ⟨fun W hW => ValidBoxes_any v l W (hs.below hW)⟩
  cases hv : boxesB l with
  | false =>
    have e1 : pkE l = 1 := by unfold pkE; rw [hv]; rfl
    have e2 : pkV szQ l = (0, 0) := by unfold pkV; rw [hv]; rfl
    rw [hv] at HQ
    rw [e1, e2]
    obtain ⟨g, c, rfl⟩ := hs.shape
    clear hs hv e1 e2
    go_enter Try.func69, Try.ntmps69
    go_wp2_with fail
    refine (HQ.out _ (by repeat (first | exact Below.refl _ _ | refine Below.alloc ?_ (by simp <;> omega) _ | refine bDrewN ?_ _ | refine Below.drew ?_))).mono ?_
    rintro en w1 ⟨rfl, hb1⟩
    have HB1 : Kp (Below w.heap.size w w1) := ⟨Below.trans (by repeat (first | refine Below.alloc ?_ (by (try simp) <;> omega) _ | refine bDrewN ?_ _ | refine Below.drew ?_ | exact Below.refl _ _)) (hb1.mono (by (try simp) <;> omega))⟩
    have hz1_0 : w.heap.size < w1.heap.size := by have := hb1.size; (try simp at this); omega
    have hz1_1 : w.heap.size + 1 < w1.heap.size := by have := hb1.size; (try simp at this); omega
    obtain ⟨hc, hf⟩ := bcell hb1
    have c1_0_0 : w1.cell? ⟨w.heap.size, 0, none⟩ = some (.int .i64 0) := (hc _ _ (by (try simp) <;> omega)).trans (by go_simp)
    have z1_0 : ∀ j, w1.frozen? ⟨w.heap.size, j, none⟩ = false := fun j => (hf _ _ (by (try simp) <;> omega)).trans (by go_simp)
    have c1_1_0 : w1.cell? ⟨w.heap.size + 1, 0, none⟩ = some (.int .i64 0) := (hc _ _ (by (try simp) <;> omega)).trans (by go_simp)
    have z1_1 : ∀ j, w1.frozen? ⟨w.heap.size + 1, j, none⟩ = false := fun j => (hf _ _ (by (try simp) <;> omega)).trans (by go_simp)
    clear hc hf hb1
    go_wp2
    refine bodyPost_ret (v := .tuple #[.int .i64 0, .int .i64 0, .int .i64 1]) ?_ rfl ⟨rfl, ?_⟩
    · simp [results, Try.results69, go_sem, c1_0_0, c1_1_0]
    · have hzS := HB1.out.size
      (repeat (with_reducible first | exact HB1.out | refine Below.setCell ?_ ?_ _ | refine Below.alloc ?_ ?_ _ | refine Below.drew ?_ | refine bDrewN ?_ _)); all_goals ((try simp) <;> omega)
  | true =>
    by_cases hl : l.length = 0
    · have e1 : pkE l = 8 := by unfold pkE; rw [hv, hl]; rfl
      have e2 : pkV szQ l = (0, 0) := by unfold pkV; rw [hv, hl]; rfl
      rw [hv] at HQ
      rw [e1, e2]
      obtain ⟨g, c, rfl⟩ := hs.shape
      have hl2 : ((l.length : Int) == 0) = true := by rw [hl]; rfl
      clear hs hv e1 e2 hl
      go_enter Try.func69, Try.ntmps69
      go_wp2_with fail
      refine (HQ.out _ (by repeat (first | exact Below.refl _ _ | refine Below.alloc ?_ (by simp <;> omega) _ | refine bDrewN ?_ _ | refine Below.drew ?_))).mono ?_
      rintro en w1 ⟨rfl, hb1⟩
      have HB1 : Kp (Below w.heap.size w w1) := ⟨Below.trans (by repeat (first | refine Below.alloc ?_ (by (try simp) <;> omega) _ | refine bDrewN ?_ _ | refine Below.drew ?_ | exact Below.refl _ _)) (hb1.mono (by (try simp) <;> omega))⟩
      have hz1_0 : w.heap.size < w1.heap.size := by have := hb1.size; (try simp at this); omega
      have hz1_1 : w.heap.size + 1 < w1.heap.size := by have := hb1.size; (try simp at this); omega
      obtain ⟨hc, hf⟩ := bcell hb1
      have c1_0_0 : w1.cell? ⟨w.heap.size, 0, none⟩ = some (.int .i64 0) := (hc _ _ (by (try simp) <;> omega)).trans (by go_simp)
      have z1_0 : ∀ j, w1.frozen? ⟨w.heap.size, j, none⟩ = false := fun j => (hf _ _ (by (try simp) <;> omega)).trans (by go_simp)
      have c1_1_0 : w1.cell? ⟨w.heap.size + 1, 0, none⟩ = some (.int .i64 0) := (hc _ _ (by (try simp) <;> omega)).trans (by go_simp)
      have z1_1 : ∀ j, w1.frozen? ⟨w.heap.size + 1, j, none⟩ = false := fun j => (hf _ _ (by (try simp) <;> omega)).trans (by go_simp)
      clear hc hf hb1
      go_wp2
      refine bodyPost_ret (v := .tuple #[.int .i64 0, .int .i64 0, .int .i64 8]) ?_ rfl ⟨rfl, ?_⟩
      · simp [results, Try.results69, go_sem, c1_0_0, c1_1_0]
      · have hzS := HB1.out.size
        (repeat (with_reducible first | exact HB1.out | refine Below.setCell ?_ ?_ _ | refine Below.alloc ?_ ?_ _ | refine Below.drew ?_ | refine bDrewN ?_ _)); all_goals ((try simp) <;> omega)
    · have e1 : pkE l = 0 := by unfold pkE; rw [if_pos hv, if_neg hl]
      have e2 : pkV szQ l = goG (sumQ szQ l) (comes l) := by
        unfold pkV
        rw [if_pos hv, if_neg hl, gR_all]
        exact (great_same hv (fun x hx => by have := bx_iff.1 ((boxes_iff.1 hv).2 x hx); unfold szQ; omega) (fun e => hl (by rw [e]; rfl))).symm
      rw [e1, e2]
      exact greatest_room v l w hs hv (by omega)
theorem Peak_any (v : Value) (l : List Bx) (w : World) (hs : BS w v l) :
    Calls Try.prog 40 #[v] w fun en w' => en = .returned (.tuple #[.int .i64 (pkV szQ l).1, .int .i64 (pkV szQ l).2, .int .i64 (pkE l)]) ∧ Below w.heap.size w w' := by
  have HQ : Kp (∀ W, Below w.heap.size w W → Calls Try.prog 69 #[v, .func (.func 66) #[] #[]] W fun en w' => en = .returned (.tuple #[.int .i64 (pkV szQ l).1, .int .i64 (pkV szQ l).2, .int .i64 (pkE l)]) ∧ Below W.heap.size W w') := ⟨fun W hW => greatest_room_any v l W (hs.below hW)⟩
  obtain ⟨V, hV⟩ : ∃ V, pkV szQ l = V := ⟨_, rfl⟩
  obtain ⟨E, hE⟩ : ∃ E, pkE l = E := ⟨_, rfl⟩
  rw [hV, hE] at HQ
  rw [hV, hE]
  obtain ⟨g, c, rfl⟩ := hs.shape
  clear hs hV hE
  go_enter Try.func40, Try.ntmps40
  go_wp2_with fail
  refine (HQ.out _ (by repeat (first | exact Below.refl _ _ | refine Below.alloc ?_ (by simp <;> omega) _ | refine bDrewN ?_ _ | refine Below.drew ?_))).mono ?_
  rintro en w1 ⟨rfl, hb1⟩
  have HB1 : Kp (Below w.heap.size w w1) := ⟨Below.trans (by repeat (first | exact Below.refl _ _ | refine Below.alloc ?_ (by simp <;> omega) _ | refine bDrewN ?_ _ | refine Below.drew ?_)) (hb1.mono (by simp <;> omega))⟩
  clear hb1
  go_wp2
  refine bodyPost_ret (v := .tuple #[.int .i64 V.1, .int .i64 V.2, .int .i64 E]) (by simp [results, Try.results40, go_sem]) rfl ⟨rfl, HB1.out⟩
theorem greatest_one_any (v : Value) (l : List Bx) (w : World) (hs : BS w v l) :
    Calls Try.prog 69 #[v, .func (.func 71) #[] #[]] w fun en w' => en = .returned (.tuple #[.int .i64 (pkV oneQ l).1, .int .i64 (pkV oneQ l).2, .int .i64 (pkE l)]) ∧ Below w.heap.size w w' := by
  have HQ : Kp (∀ W, Below w.heap.size w W → Calls Try.prog 36 #[v] W fun en w' => en = .returned (.bool (boxesB l)) ∧ Below W.heap.size W w') := ⟨fun W hW => ValidBoxes_any v l W (hs.below hW)⟩
  cases hv : boxesB l with
  | false =>
    have e1 : pkE l = 1 := by unfold pkE; rw [hv]; rfl
    have e2 : pkV oneQ l = (0, 0) := by unfold pkV; rw [hv]; rfl
    rw [hv] at HQ
    rw [e1, e2]
    obtain ⟨g, c, rfl⟩ := hs.shape
    clear hs hv e1 e2
    go_enter Try.func69, Try.ntmps69
    go_wp2_with fail
    refine (HQ.out _ (by repeat (first | exact Below.refl _ _ | refine Below.alloc ?_ (by simp <;> omega) _ | refine bDrewN ?_ _ | refine Below.drew ?_))).mono ?_
    rintro en w1 ⟨rfl, hb1⟩
    have HB1 : Kp (Below w.heap.size w w1) := ⟨Below.trans (by repeat (first | refine Below.alloc ?_ (by (try simp) <;> omega) _ | refine bDrewN ?_ _ | refine Below.drew ?_ | exact Below.refl _ _)) (hb1.mono (by (try simp) <;> omega))⟩
    have hz1_0 : w.heap.size < w1.heap.size := by have := hb1.size; (try simp at this); omega
    have hz1_1 : w.heap.size + 1 < w1.heap.size := by have := hb1.size; (try simp at this); omega
    obtain ⟨hc, hf⟩ := bcell hb1
    have c1_0_0 : w1.cell? ⟨w.heap.size, 0, none⟩ = some (.int .i64 0) := (hc _ _ (by (try simp) <;> omega)).trans (by go_simp)
    have z1_0 : ∀ j, w1.frozen? ⟨w.heap.size, j, none⟩ = false := fun j => (hf _ _ (by (try simp) <;> omega)).trans (by go_simp)
    have c1_1_0 : w1.cell? ⟨w.heap.size + 1, 0, none⟩ = some (.int .i64 0) := (hc _ _ (by (try simp) <;> omega)).trans (by go_simp)
    have z1_1 : ∀ j, w1.frozen? ⟨w.heap.size + 1, j, none⟩ = false := fun j => (hf _ _ (by (try simp) <;> omega)).trans (by go_simp)
    clear hc hf hb1
    go_wp2
    refine bodyPost_ret (v := .tuple #[.int .i64 0, .int .i64 0, .int .i64 1]) ?_ rfl ⟨rfl, ?_⟩
    · simp [results, Try.results69, go_sem, c1_0_0, c1_1_0]
    · have hzS := HB1.out.size
      (repeat (with_reducible first | exact HB1.out | refine Below.setCell ?_ ?_ _ | refine Below.alloc ?_ ?_ _ | refine Below.drew ?_ | refine bDrewN ?_ _)); all_goals ((try simp) <;> omega)
  | true =>
    by_cases hl : l.length = 0
    · have e1 : pkE l = 8 := by unfold pkE; rw [hv, hl]; rfl
      have e2 : pkV oneQ l = (0, 0) := by unfold pkV; rw [hv, hl]; rfl
      rw [hv] at HQ
      rw [e1, e2]
      obtain ⟨g, c, rfl⟩ := hs.shape
      have hl2 : ((l.length : Int) == 0) = true := by rw [hl]; rfl
      clear hs hv e1 e2 hl
      go_enter Try.func69, Try.ntmps69
      go_wp2_with fail
      refine (HQ.out _ (by repeat (first | exact Below.refl _ _ | refine Below.alloc ?_ (by simp <;> omega) _ | refine bDrewN ?_ _ | refine Below.drew ?_))).mono ?_
      rintro en w1 ⟨rfl, hb1⟩
      have HB1 : Kp (Below w.heap.size w w1) := ⟨Below.trans (by repeat (first | refine Below.alloc ?_ (by (try simp) <;> omega) _ | refine bDrewN ?_ _ | refine Below.drew ?_ | exact Below.refl _ _)) (hb1.mono (by (try simp) <;> omega))⟩
      have hz1_0 : w.heap.size < w1.heap.size := by have := hb1.size; (try simp at this); omega
      have hz1_1 : w.heap.size + 1 < w1.heap.size := by have := hb1.size; (try simp at this); omega
      obtain ⟨hc, hf⟩ := bcell hb1
      have c1_0_0 : w1.cell? ⟨w.heap.size, 0, none⟩ = some (.int .i64 0) := (hc _ _ (by (try simp) <;> omega)).trans (by go_simp)
      have z1_0 : ∀ j, w1.frozen? ⟨w.heap.size, j, none⟩ = false := fun j => (hf _ _ (by (try simp) <;> omega)).trans (by go_simp)
      have c1_1_0 : w1.cell? ⟨w.heap.size + 1, 0, none⟩ = some (.int .i64 0) := (hc _ _ (by (try simp) <;> omega)).trans (by go_simp)
      have z1_1 : ∀ j, w1.frozen? ⟨w.heap.size + 1, j, none⟩ = false := fun j => (hf _ _ (by (try simp) <;> omega)).trans (by go_simp)
      clear hc hf hb1
      go_wp2
      refine bodyPost_ret (v := .tuple #[.int .i64 0, .int .i64 0, .int .i64 8]) ?_ rfl ⟨rfl, ?_⟩
      · simp [results, Try.results69, go_sem, c1_0_0, c1_1_0]
      · have hzS := HB1.out.size
        (repeat (with_reducible first | exact HB1.out | refine Below.setCell ?_ ?_ _ | refine Below.alloc ?_ ?_ _ | refine Below.drew ?_ | refine bDrewN ?_ _)); all_goals ((try simp) <;> omega)
    · have e1 : pkE l = 0 := by unfold pkE; rw [if_pos hv, if_neg hl]
      have e2 : pkV oneQ l = goG (sumQ oneQ l) (comes l) := by
        unfold pkV
        rw [if_pos hv, if_neg hl, gR_all]
        exact (great_same hv (fun x hx => by unfold oneQ; omega) (fun e => hl (by rw [e]; rfl))).symm
      rw [e1, e2]
      exact greatest_one v l w hs hv (by omega)
theorem Most_any (v : Value) (l : List Bx) (w : World) (hs : BS w v l) :
    Calls Try.prog 42 #[v] w fun en w' => en = .returned (.tuple #[.int .i64 (pkV oneQ l).1, .int .i64 (pkV oneQ l).2, .int .i64 (pkE l)]) ∧ Below w.heap.size w w' := by
  have HQ : Kp (∀ W, Below w.heap.size w W → Calls Try.prog 69 #[v, .func (.func 71) #[] #[]] W fun en w' => en = .returned (.tuple #[.int .i64 (pkV oneQ l).1, .int .i64 (pkV oneQ l).2, .int .i64 (pkE l)]) ∧ Below W.heap.size W w') := ⟨fun W hW => greatest_one_any v l W (hs.below hW)⟩
  obtain ⟨V, hV⟩ : ∃ V, pkV oneQ l = V := ⟨_, rfl⟩
  obtain ⟨E, hE⟩ : ∃ E, pkE l = E := ⟨_, rfl⟩
  rw [hV, hE] at HQ
  rw [hV, hE]
  obtain ⟨g, c, rfl⟩ := hs.shape
  clear hs hV hE
  go_enter Try.func42, Try.ntmps42
  go_wp2_with fail
  refine (HQ.out _ (by repeat (first | exact Below.refl _ _ | refine Below.alloc ?_ (by simp <;> omega) _ | refine bDrewN ?_ _ | refine Below.drew ?_))).mono ?_
  rintro en w1 ⟨rfl, hb1⟩
  have HB1 : Kp (Below w.heap.size w w1) := ⟨Below.trans (by repeat (first | exact Below.refl _ _ | refine Below.alloc ?_ (by simp <;> omega) _ | refine bDrewN ?_ _ | refine Below.drew ?_)) (hb1.mono (by simp <;> omega))⟩
  clear hb1
  go_wp2
  refine bodyPost_ret (v := .tuple #[.int .i64 V.1, .int .i64 V.2, .int .i64 E]) (by simp [results, Try.results42, go_sem]) rfl ⟨rfl, HB1.out⟩
end Go.Proofs.Ytbbbnfodjkpiaaa.Cd
