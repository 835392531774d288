/-
  WALKS (layer 5, carve): two blocks joined place by place, by the reference.
-/
import Derived.Test.YticcafjogmjkiaaCvRefF
namespace Go.Proofs.Yticcafjogmjkiaa.Cv
open Go Go.RowKit Go.Sort

/-- The cells of the call's own while the row is filled: the two blocks, the block that is made, the result. -/
def jnP (Z s N M Q : Nat) (g1 g2 : Option Addr) (c1 c2 : Nat) : List (Nat × Nat × Value) := [(Z, 1, .slice g1 N c1), (Z + 1, 1, .slice g2 N c2), (Q, 0, .int .i64 s), (Q, 1, .slice (some ⟨M, 0, none⟩) N N), (Z + 2, 0, .int .i64 0), (Z + 2, 1, .slice none 0 0)]
structure JI (w : World) (Z s N M Q : Nat) (g1 g2 : Option Addr) (c1 c2 : Nat) (L : List Bool) (W : World) : Prop where
  hd : Hd w (jnP Z s N M Q g1 g2 c1 c2) W
  mr : MR M N N L W
theorem JI.on {w W V : World} {Z s N M Q : Nat} {g1 g2 : Option Addr} {c1 c2 : Nat} {L : List Bool} (k : JI w Z s N M Q g1 g2 c1 c2 L W) (hN : 0 < N) (hb : Below W.heap.size W V) : JI w Z s N M Q g1 g2 c1 c2 L V := ⟨k.hd.on hb, k.mr.on hN hb⟩
theorem JI.set_ {w W : World} {Z s N M Q j : Nat} {g1 g2 : Option Addr} {c1 c2 : Nat} {L : List Bool} (k : JI w Z s N M Q g1 g2 c1 c2 L W) (hj : j < N) (x : Bool) (hZ : w.heap.size = Z) (hM : Z + 2 < M) (hMQ : M ≠ Q) : JI w Z s N M Q g1 g2 c1 c2 (L.set j x) (W.setCell ⟨M, j, none⟩ (.bool x)) :=
  ⟨k.hd.store (by omega) (fun p hp => by
    simp only [jnP, List.mem_cons, List.not_mem_nil, or_false] at hp
    rcases hp with rfl | rfl | rfl | rfl | rfl | rfl <;> simp only <;> omega), k.mr.set_ hj x⟩
theorem JI.fill {w W : World} {Z s N M Q j : Nat} {g1 g2 : Option Addr} {c1 c2 : Nat} {L : List Bool} {x : Bool} (k : JI w Z s N M Q g1 g2 c1 c2 (fillL L j) W) (hx : L[j]? = some x) (hj : j < N) (hZ : w.heap.size = Z) (hM : Z + 2 < M) (hMQ : M ≠ Q) : JI w Z s N M Q g1 g2 c1 c2 (fillL L (j + 1)) (W.setCell ⟨M, j, none⟩ (.bool x)) := by
  have h := k.set_ hj x hZ hM hMQ
  rwa [fill_set hx] at h
theorem JI.cells {w W : World} {Z s N M Q : Nat} {g1 g2 : Option Addr} {c1 c2 : Nat} {L : List Bool} (k : JI w Z s N M Q g1 g2 c1 c2 L W) : W.cell? ⟨Z, 1, none⟩ = some (.slice g1 N c1) ∧ W.cell? ⟨Z + 1, 1, none⟩ = some (.slice g2 N c2) ∧ W.cell? ⟨Q, 0, none⟩ = some (.int .i64 s) ∧ W.cell? ⟨Q, 1, none⟩ = some (.slice (some ⟨M, 0, none⟩) N N) ∧ W.cell? ⟨Z + 2, 0, none⟩ = some (.int .i64 0) ∧ W.cell? ⟨Z + 2, 1, none⟩ = some (.slice none 0 0) ∧ W.frozen? ⟨Z + 2, 0, none⟩ = false ∧ W.frozen? ⟨Z + 2, 1, none⟩ = false := by
  have h := k.hd.cells
  exact ⟨(h (Z, 1, .slice g1 N c1) (by simp [jnP])).1, (h (Z + 1, 1, .slice g2 N c2) (by simp [jnP])).1, (h (Q, 0, .int .i64 s) (by simp [jnP])).1, (h (Q, 1, .slice (some ⟨M, 0, none⟩) N N) (by simp [jnP])).1, (h (Z + 2, 0, .int .i64 0) (by simp [jnP])).1, (h (Z + 2, 1, .slice none 0 0) (by simp [jnP])).1, (h (Z + 2, 0, .int .i64 0) (by simp [jnP])).2, (h (Z + 2, 1, .slice none 0 0) (by simp [jnP])).2⟩
theorem JI.start {w w3 V : World} {Z s N M : Nat} {g1 g2 : Option Addr} {c1 c2 : Nat} {t : TypeId} {L : List Bool} (h : w3.alloc (.cells #[.int .i64 s, .slice (some ⟨M, 0, none⟩) N N] t) = V) (hN : 0 < N) (hb : Below w.heap.size w w3) (hm : MR M N N L w3)
    (h1 : w3.cell? ⟨Z, 1, none⟩ = some (.slice g1 N c1)) (h2 : w3.cell? ⟨Z + 1, 1, none⟩ = some (.slice g2 N c2)) (h3 : w3.cell? ⟨Z + 2, 0, none⟩ = some (.int .i64 0)) (h4 : w3.cell? ⟨Z + 2, 1, none⟩ = some (.slice none 0 0)) (z1 : ∀ j, w3.frozen? ⟨Z, j, none⟩ = false) (z2 : ∀ j, w3.frozen? ⟨Z + 1, j, none⟩ = false) (z3 : ∀ j, w3.frozen? ⟨Z + 2, j, none⟩ = false) : JI w Z s N M w3.heap.size g1 g2 c1 c2 L V ∧ M ≠ w3.heap.size := by
  subst h
  have hb2 : Below w3.heap.size w3 (w3.alloc (.cells #[.int .i64 s, .slice (some ⟨M, 0, none⟩) N N] t)) := by repeat (first | exact Below.refl _ _ | refine Below.alloc ?_ (by simp <;> omega) _ | refine bDrewN ?_ _ | refine Below.drew ?_)
  refine ⟨⟨⟨hb.alloc hb.size _, ?_⟩, hm.on hN hb2⟩, Nat.ne_of_lt (hm.lt hN)⟩
  intro p hp
  simp only [jnP, List.mem_cons, List.not_mem_nil, or_false] at hp
  rcases hp with rfl | rfl | rfl | rfl | rfl | rfl
  · exact ⟨(hb2.cell (p := ⟨_, _, none⟩) (World.block_lt_of_cell? _ _ h1)).trans h1, (hb2.frozen (p := ⟨_, _, none⟩) (World.block_lt_of_cell? _ _ h1)).trans (z1 _)⟩
  · exact ⟨(hb2.cell (p := ⟨_, _, none⟩) (World.block_lt_of_cell? _ _ h2)).trans h2, (hb2.frozen (p := ⟨_, _, none⟩) (World.block_lt_of_cell? _ _ h2)).trans (z2 _)⟩
  · exact ⟨by go_simp, by go_simp⟩
  · exact ⟨by go_simp, by go_simp⟩
  · exact ⟨(hb2.cell (p := ⟨_, _, none⟩) (World.block_lt_of_cell? _ _ h3)).trans h3, (hb2.frozen (p := ⟨_, _, none⟩) (World.block_lt_of_cell? _ _ h3)).trans (z3 _)⟩
  · exact ⟨(hb2.cell (p := ⟨_, _, none⟩) (World.block_lt_of_cell? _ _ h4)).trans h4, (hb2.frozen (p := ⟨_, _, none⟩) (World.block_lt_of_cell? _ _ h4)).trans (z3 _)⟩
theorem rBoth_no (s t : Int) (g1 g2 : Option Addr) (m n c1 c2 : Nat) (w : World) (h : alikeB s t m n = false) : Calls Try.prog 44 #[.agg #[.int .i64 s, .slice g1 m c1], .agg #[.int .i64 t, .slice g2 n c2]] w (OfNo w 1) := by
  have HA : Kp (∀ W, Calls Try.prog 18 #[.agg #[.int .i64 s, .slice g1 m c1]] W fun e w' => e = .returned (.bool (blockB s m)) ∧ Below W.heap.size W w') := ⟨fun W => rValidBlock_any s g1 m c1 W⟩
  have HB : Kp (∀ W, Calls Try.prog 18 #[.agg #[.int .i64 t, .slice g2 n c2]] W fun e w' => e = .returned (.bool (blockB t n)) ∧ Below W.heap.size W w') := ⟨fun W => rValidBlock_any t g2 n c2 W⟩
  cases ha : blockB s m with
  | false =>
    rw [ha] at HA
    clear h ha
    go_enter Try.func44, Try.ntmps44
    go_wp2_with fail
    refine (HA.out _).mono ?_
    rintro en w1 ⟨rfl, hb1⟩
    have HB1 : Kp (Below w.heap.size w w1) := ⟨Below.trans (by repeat (first | refine Below.alloc ?_ (by (try simp) <;> omega) _ | refine bDrewN ?_ _ | refine Below.drew ?_ | refine Below.setCell ?_ (by (try simp) <;> omega) _ | exact Below.refl _ _)) (hb1.mono (by (try simp) <;> omega))⟩
    have hz1_0 : w.heap.size < w1.heap.size := by have := hb1.size; (try simp at this); omega
    have hz1_1 : w.heap.size + 1 < w1.heap.size := by have := hb1.size; (try simp at this); omega
    have hz1_2 : w.heap.size + 1 + 1 < w1.heap.size := by have := hb1.size; (try simp at this); omega
    obtain ⟨hc, hf⟩ := bcell hb1
    have c1_0_0 : w1.cell? ⟨w.heap.size, 0, none⟩ = some (.int .i64 s) := (hc _ _ (by (try simp) <;> omega)).trans (by go_simp)
    have c1_0_1 : w1.cell? ⟨w.heap.size, 1, none⟩ = some ((.slice g1 m c1)) := (hc _ _ (by (try simp) <;> omega)).trans (by go_simp)
    have z1_0 : ∀ j, w1.frozen? ⟨w.heap.size, j, none⟩ = false := fun j => (hf _ _ (by (try simp) <;> omega)).trans (by go_simp)
    have c1_1_0 : w1.cell? ⟨w.heap.size + 1, 0, none⟩ = some (.int .i64 t) := (hc _ _ (by (try simp) <;> omega)).trans (by go_simp)
    have c1_1_1 : w1.cell? ⟨w.heap.size + 1, 1, none⟩ = some ((.slice g2 n c2)) := (hc _ _ (by (try simp) <;> omega)).trans (by go_simp)
    have z1_1 : ∀ j, w1.frozen? ⟨w.heap.size + 1, j, none⟩ = false := fun j => (hf _ _ (by (try simp) <;> omega)).trans (by go_simp)
    have c1_2_0 : w1.cell? ⟨w.heap.size + 1 + 1, 0, none⟩ = some (.int .i64 0) := (hc _ _ (by (try simp) <;> omega)).trans (by go_simp)
    have c1_2_1 : w1.cell? ⟨w.heap.size + 1 + 1, 1, none⟩ = some ((.slice none 0 0)) := (hc _ _ (by (try simp) <;> omega)).trans (by go_simp)
    have z1_2 : ∀ j, w1.frozen? ⟨w.heap.size + 1 + 1, j, none⟩ = false := fun j => (hf _ _ (by (try simp) <;> omega)).trans (by go_simp)
    clear hc hf hb1
    go_wp2
    exact bodyPost_ret (v := .tuple #[.agg #[.int .i64 0, .slice none 0 0], .int .i64 1]) (by simp [results, Try.results44, go_sem, c1_2_0, c1_2_1]) rfl ⟨rfl, by (have hzS := HB1.out.size; (repeat (with_reducible first | exact HB1.out | refine Below.setCell ?_ ?_ _ | refine Below.alloc ?_ ?_ _ | refine Below.drew ?_ | refine bDrewN ?_ _)); all_goals ((try simp) <;> omega))⟩
  | true =>
    cases hb : blockB t n with
    | false =>
      rw [ha] at HA
      rw [hb] at HB
      clear h ha hb
      go_enter Try.func44, Try.ntmps44
      go_wp2_with fail
      refine (HA.out _).mono ?_
      rintro en w1 ⟨rfl, hb1⟩
      have HB1 : Kp (Below w.heap.size w w1) := ⟨Below.trans (by repeat (first | refine Below.alloc ?_ (by (try simp) <;> omega) _ | refine bDrewN ?_ _ | refine Below.drew ?_ | refine Below.setCell ?_ (by (try simp) <;> omega) _ | exact Below.refl _ _)) (hb1.mono (by (try simp) <;> omega))⟩
      have hz1_0 : w.heap.size < w1.heap.size := by have := hb1.size; (try simp at this); omega
      have hz1_1 : w.heap.size + 1 < w1.heap.size := by have := hb1.size; (try simp at this); omega
      have hz1_2 : w.heap.size + 1 + 1 < w1.heap.size := by have := hb1.size; (try simp at this); omega
      obtain ⟨hc, hf⟩ := bcell hb1
      have c1_0_0 : w1.cell? ⟨w.heap.size, 0, none⟩ = some (.int .i64 s) := (hc _ _ (by (try simp) <;> omega)).trans (by go_simp)
      have c1_0_1 : w1.cell? ⟨w.heap.size, 1, none⟩ = some ((.slice g1 m c1)) := (hc _ _ (by (try simp) <;> omega)).trans (by go_simp)
      have z1_0 : ∀ j, w1.frozen? ⟨w.heap.size, j, none⟩ = false := fun j => (hf _ _ (by (try simp) <;> omega)).trans (by go_simp)
      have c1_1_0 : w1.cell? ⟨w.heap.size + 1, 0, none⟩ = some (.int .i64 t) := (hc _ _ (by (try simp) <;> omega)).trans (by go_simp)
      have c1_1_1 : w1.cell? ⟨w.heap.size + 1, 1, none⟩ = some ((.slice g2 n c2)) := (hc _ _ (by (try simp) <;> omega)).trans (by go_simp)
      have z1_1 : ∀ j, w1.frozen? ⟨w.heap.size + 1, j, none⟩ = false := fun j => (hf _ _ (by (try simp) <;> omega)).trans (by go_simp)
      have c1_2_0 : w1.cell? ⟨w.heap.size + 1 + 1, 0, none⟩ = some (.int .i64 0) := (hc _ _ (by (try simp) <;> omega)).trans (by go_simp)
      have c1_2_1 : w1.cell? ⟨w.heap.size + 1 + 1, 1, none⟩ = some ((.slice none 0 0)) := (hc _ _ (by (try simp) <;> omega)).trans (by go_simp)
      have z1_2 : ∀ j, w1.frozen? ⟨w.heap.size + 1 + 1, j, none⟩ = false := fun j => (hf _ _ (by (try simp) <;> omega)).trans (by go_simp)
      clear hc hf hb1
      go_wp2_with fail
      refine (HB.out _).mono ?_
      rintro en w2 ⟨rfl, hb2⟩
      have HB2 : Kp (Below w.heap.size w w2) := ⟨Below.trans (by repeat (first | refine Below.alloc ?_ (by have := HB1.out.size; (try simp) <;> omega) _ | refine bDrewN ?_ _ | refine Below.drew ?_ | refine Below.setCell ?_ (by have := HB1.out.size; (try simp) <;> omega) _ | exact HB1.out)) (hb2.mono (by have := HB1.out.size; (try simp) <;> omega))⟩
      have hz2_0 : w.heap.size < w2.heap.size := by have := hb2.size; (try simp at this); omega
      have hz2_1 : w.heap.size + 1 < w2.heap.size := by have := hb2.size; (try simp at this); omega
      have hz2_2 : w.heap.size + 1 + 1 < w2.heap.size := by have := hb2.size; (try simp at this); omega
      obtain ⟨hc, hf⟩ := bcell hb2
      have c2_0_0 : w2.cell? ⟨w.heap.size, 0, none⟩ = some (.int .i64 s) := (hc _ _ (by (try simp) <;> omega)).trans (by go_simp)
      have c2_0_1 : w2.cell? ⟨w.heap.size, 1, none⟩ = some ((.slice g1 m c1)) := (hc _ _ (by (try simp) <;> omega)).trans (by go_simp)
      have z2_0 : ∀ j, w2.frozen? ⟨w.heap.size, j, none⟩ = false := fun j => (hf _ _ (by (try simp) <;> omega)).trans (by go_simp)
      have c2_1_0 : w2.cell? ⟨w.heap.size + 1, 0, none⟩ = some (.int .i64 t) := (hc _ _ (by (try simp) <;> omega)).trans (by go_simp)
      have c2_1_1 : w2.cell? ⟨w.heap.size + 1, 1, none⟩ = some ((.slice g2 n c2)) := (hc _ _ (by (try simp) <;> omega)).trans (by go_simp)
      have z2_1 : ∀ j, w2.frozen? ⟨w.heap.size + 1, j, none⟩ = false := fun j => (hf _ _ (by (try simp) <;> omega)).trans (by go_simp)
      have c2_2_0 : w2.cell? ⟨w.heap.size + 1 + 1, 0, none⟩ = some (.int .i64 0) := (hc _ _ (by (try simp) <;> omega)).trans (by go_simp)
      have c2_2_1 : w2.cell? ⟨w.heap.size + 1 + 1, 1, none⟩ = some ((.slice none 0 0)) := (hc _ _ (by (try simp) <;> omega)).trans (by go_simp)
      have z2_2 : ∀ j, w2.frozen? ⟨w.heap.size + 1 + 1, j, none⟩ = false := fun j => (hf _ _ (by (try simp) <;> omega)).trans (by go_simp)
      clear hc hf hb2 c1_0_0 c1_0_1 z1_0 c1_1_0 c1_1_1 z1_1 c1_2_0 c1_2_1 z1_2
      go_wp2
      exact bodyPost_ret (v := .tuple #[.agg #[.int .i64 0, .slice none 0 0], .int .i64 1]) (by simp [results, Try.results44, go_sem, c2_2_0, c2_2_1]) rfl ⟨rfl, by (have hzS := HB2.out.size; (repeat (with_reducible first | exact HB2.out | refine Below.setCell ?_ ?_ _ | refine Below.alloc ?_ ?_ _ | refine Below.drew ?_ | refine bDrewN ?_ _)); all_goals ((try simp) <;> omega))⟩
    | true =>
      have hst : (s != t) = true := by
        unfold alikeB at h
        rw [ha, hb, Bool.true_and, Bool.true_and, decide_eq_false_iff_not] at h
        simpa using h
      rw [ha] at HA
      rw [hb] at HB
      clear h ha hb
      go_enter Try.func44, Try.ntmps44
      go_wp2_with fail
      refine (HA.out _).mono ?_
      rintro en w1 ⟨rfl, hb1⟩
      have HB1 : Kp (Below w.heap.size w w1) := ⟨Below.trans (by repeat (first | refine Below.alloc ?_ (by (try simp) <;> omega) _ | refine bDrewN ?_ _ | refine Below.drew ?_ | refine Below.setCell ?_ (by (try simp) <;> omega) _ | exact Below.refl _ _)) (hb1.mono (by (try simp) <;> omega))⟩
      have hz1_0 : w.heap.size < w1.heap.size := by have := hb1.size; (try simp at this); omega
      have hz1_1 : w.heap.size + 1 < w1.heap.size := by have := hb1.size; (try simp at this); omega
      have hz1_2 : w.heap.size + 1 + 1 < w1.heap.size := by have := hb1.size; (try simp at this); omega
      obtain ⟨hc, hf⟩ := bcell hb1
      have c1_0_0 : w1.cell? ⟨w.heap.size, 0, none⟩ = some (.int .i64 s) := (hc _ _ (by (try simp) <;> omega)).trans (by go_simp)
      have c1_0_1 : w1.cell? ⟨w.heap.size, 1, none⟩ = some ((.slice g1 m c1)) := (hc _ _ (by (try simp) <;> omega)).trans (by go_simp)
      have z1_0 : ∀ j, w1.frozen? ⟨w.heap.size, j, none⟩ = false := fun j => (hf _ _ (by (try simp) <;> omega)).trans (by go_simp)
      have c1_1_0 : w1.cell? ⟨w.heap.size + 1, 0, none⟩ = some (.int .i64 t) := (hc _ _ (by (try simp) <;> omega)).trans (by go_simp)
      have c1_1_1 : w1.cell? ⟨w.heap.size + 1, 1, none⟩ = some ((.slice g2 n c2)) := (hc _ _ (by (try simp) <;> omega)).trans (by go_simp)
      have z1_1 : ∀ j, w1.frozen? ⟨w.heap.size + 1, j, none⟩ = false := fun j => (hf _ _ (by (try simp) <;> omega)).trans (by go_simp)
      have c1_2_0 : w1.cell? ⟨w.heap.size + 1 + 1, 0, none⟩ = some (.int .i64 0) := (hc _ _ (by (try simp) <;> omega)).trans (by go_simp)
      have c1_2_1 : w1.cell? ⟨w.heap.size + 1 + 1, 1, none⟩ = some ((.slice none 0 0)) := (hc _ _ (by (try simp) <;> omega)).trans (by go_simp)
      have z1_2 : ∀ j, w1.frozen? ⟨w.heap.size + 1 + 1, j, none⟩ = false := fun j => (hf _ _ (by (try simp) <;> omega)).trans (by go_simp)
      clear hc hf hb1
      go_wp2_with fail
      refine (HB.out _).mono ?_
      rintro en w2 ⟨rfl, hb2⟩
      have HB2 : Kp (Below w.heap.size w w2) := ⟨Below.trans (by repeat (first | refine Below.alloc ?_ (by have := HB1.out.size; (try simp) <;> omega) _ | refine bDrewN ?_ _ | refine Below.drew ?_ | refine Below.setCell ?_ (by have := HB1.out.size; (try simp) <;> omega) _ | exact HB1.out)) (hb2.mono (by have := HB1.out.size; (try simp) <;> omega))⟩
      have hz2_0 : w.heap.size < w2.heap.size := by have := hb2.size; (try simp at this); omega
      have hz2_1 : w.heap.size + 1 < w2.heap.size := by have := hb2.size; (try simp at this); omega
      have hz2_2 : w.heap.size + 1 + 1 < w2.heap.size := by have := hb2.size; (try simp at this); omega
      obtain ⟨hc, hf⟩ := bcell hb2
      have c2_0_0 : w2.cell? ⟨w.heap.size, 0, none⟩ = some (.int .i64 s) := (hc _ _ (by (try simp) <;> omega)).trans (by go_simp)
      have c2_0_1 : w2.cell? ⟨w.heap.size, 1, none⟩ = some ((.slice g1 m c1)) := (hc _ _ (by (try simp) <;> omega)).trans (by go_simp)
      have z2_0 : ∀ j, w2.frozen? ⟨w.heap.size, j, none⟩ = false := fun j => (hf _ _ (by (try simp) <;> omega)).trans (by go_simp)
      have c2_1_0 : w2.cell? ⟨w.heap.size + 1, 0, none⟩ = some (.int .i64 t) := (hc _ _ (by (try simp) <;> omega)).trans (by go_simp)
      have c2_1_1 : w2.cell? ⟨w.heap.size + 1, 1, none⟩ = some ((.slice g2 n c2)) := (hc _ _ (by (try simp) <;> omega)).trans (by go_simp)
      have z2_1 : ∀ j, w2.frozen? ⟨w.heap.size + 1, j, none⟩ = false := fun j => (hf _ _ (by (try simp) <;> omega)).trans (by go_simp)
      have c2_2_0 : w2.cell? ⟨w.heap.size + 1 + 1, 0, none⟩ = some (.int .i64 0) := (hc _ _ (by (try simp) <;> omega)).trans (by go_simp)
      have c2_2_1 : w2.cell? ⟨w.heap.size + 1 + 1, 1, none⟩ = some ((.slice none 0 0)) := (hc _ _ (by (try simp) <;> omega)).trans (by go_simp)
      have z2_2 : ∀ j, w2.frozen? ⟨w.heap.size + 1 + 1, j, none⟩ = false := fun j => (hf _ _ (by (try simp) <;> omega)).trans (by go_simp)
      clear hc hf hb2 c1_0_0 c1_0_1 z1_0 c1_1_0 c1_1_1 z1_1 c1_2_0 c1_2_1 z1_2
      go_wp2
      exact bodyPost_ret (v := .tuple #[.agg #[.int .i64 0, .slice none 0 0], .int .i64 1]) (by simp [results, Try.results44, go_sem, c2_2_0, c2_2_1]) rfl ⟨rfl, by (have hzS := HB2.out.size; (repeat (with_reducible first | exact HB2.out | refine Below.setCell ?_ ?_ _ | refine Below.alloc ?_ ?_ _ | refine Below.drew ?_ | refine bDrewN ?_ _)); all_goals ((try simp) <;> omega))⟩
set_option maxRecDepth 100000 in
set_option maxHeartbeats 2000000 in
theorem rBoth_in (s N : Nat) (g1 g2 : Option Addr) (c1 c2 : Nat) (h k : List Bool) (w : World) (hs2 : s ≤ 10) (hu : LB w (.slice g1 N c1) h) (hv : LB w (.slice g2 N c2) k) (lh : h.length = N) (lk : k.length = N) (hN : s * s * s = N) (h0 : 0 < N) (hb : blockB s N = true) :
    Calls Try.prog 44 #[.agg #[.int .i64 s, .slice g1 N c1], .agg #[.int .i64 s, .slice g2 N c2]] w fun en w' => ∃ r, en = .returned (.tuple #[r, .int .i64 0]) ∧ VB w' r s (jnL (fun x y => x && y) s h k) ∧ Below w.heap.size w w' := by
  have HW : Kp (∀ W g c, Calls Try.prog 18 #[.agg #[.int .i64 s, .slice g N c]] W fun e w' => e = .returned (.bool true) ∧ Below W.heap.size W w') := ⟨fun W g c => hb ▸ rValidBlock_any s g N c W⟩
  obtain ⟨L, hL⟩ : ∃ L, jnL (fun x y => x && y) s h k = L := ⟨_, rfl⟩
  have HLL : Kp (L.length = N) := ⟨by rw [← hL, jnL_len, hN]⟩
  have HLA : Kp (∀ j x y, h[j]? = some x → k[j]? = some y → L[j]? = some (x && y)) := ⟨fun j x y hx hy => hL ▸ jnL_at (by rw [lh, hN]) hx hy⟩
  rw [hL]
  have HE : Kp (∀ W, Calls Try.prog 81 #[.int .i64 s] W fun e w' => ∃ M, e = .returned (.agg #[.int .i64 s, .slice (some ⟨M, 0, none⟩) N N]) ∧ W.heap.size < M ∧ MR M N N (List.replicate N false) w' ∧ Below W.heap.size W w') := ⟨fun W => hN ▸ rempty_any s hs2 W⟩
  have HN : Kp (N ≤ 1000) := ⟨hN ▸ (cube_bd hs2).2⟩
  have HP := Kp.mk h0
  obtain ⟨ga, ca, ea, -, hia⟩ := hu
  obtain ⟨gb, cb, eb, -, hib⟩ := hv
  simp only [Value.slice.injEq] at ea eb
  obtain ⟨rfl, -, rfl⟩ := ea
  obtain ⟨rfl, -, rfl⟩ := eb
  have HA := Lib.hid hia
  have HB := Lib.hid hib
  have HL := Kp.mk (And.intro lh lk)
  have t1 : ((s : Int) != (s : Int)) = false := by simp
  clear hia hib lh lk hb hN h0 hL hs2
  go_enter Try.func44, Try.ntmps44
  go_wp2_with fail
  refine (HW.out _ _ _).mono ?_
  rintro en w1 ⟨rfl, hb1⟩
  have HB1 : Kp (Below w.heap.size w w1) := ⟨Below.trans (by repeat (first | refine Below.alloc ?_ (by (try simp) <;> omega) _ | refine bDrewN ?_ _ | refine Below.drew ?_ | refine Below.setCell ?_ (by (try simp) <;> omega) _ | exact Below.refl _ _)) (hb1.mono (by (try simp) <;> omega))⟩
  have hz1_0 : w.heap.size < w1.heap.size := by have := hb1.size; (try simp at this); omega
  have hz1_1 : w.heap.size + 1 < w1.heap.size := by have := hb1.size; (try simp at this); omega
  have hz1_2 : w.heap.size + 1 + 1 < w1.heap.size := by have := hb1.size; (try simp at this); omega
  obtain ⟨hc, hf⟩ := bcell hb1
  have c1_0_0 : w1.cell? ⟨w.heap.size, 0, none⟩ = some (.int .i64 s) := (hc _ _ (by (try simp) <;> omega)).trans (by go_simp)
  have c1_0_1 : w1.cell? ⟨w.heap.size, 1, none⟩ = some ((.slice g1 N c1)) := (hc _ _ (by (try simp) <;> omega)).trans (by go_simp)
  have z1_0 : ∀ j, w1.frozen? ⟨w.heap.size, j, none⟩ = false := fun j => (hf _ _ (by (try simp) <;> omega)).trans (by go_simp)
  have c1_1_0 : w1.cell? ⟨w.heap.size + 1, 0, none⟩ = some (.int .i64 s) := (hc _ _ (by (try simp) <;> omega)).trans (by go_simp)
  have c1_1_1 : w1.cell? ⟨w.heap.size + 1, 1, none⟩ = some ((.slice g2 N c2)) := (hc _ _ (by (try simp) <;> omega)).trans (by go_simp)
  have z1_1 : ∀ j, w1.frozen? ⟨w.heap.size + 1, j, none⟩ = false := fun j => (hf _ _ (by (try simp) <;> omega)).trans (by go_simp)
  have c1_2_0 : w1.cell? ⟨w.heap.size + 1 + 1, 0, none⟩ = some (.int .i64 0) := (hc _ _ (by (try simp) <;> omega)).trans (by go_simp)
  have c1_2_1 : w1.cell? ⟨w.heap.size + 1 + 1, 1, none⟩ = some ((.slice none 0 0)) := (hc _ _ (by (try simp) <;> omega)).trans (by go_simp)
  have z1_2 : ∀ j, w1.frozen? ⟨w.heap.size + 1 + 1, j, none⟩ = false := fun j => (hf _ _ (by (try simp) <;> omega)).trans (by go_simp)
  clear hc hf hb1
  go_wp2_with fail
  refine (HW.out _ _ _).mono ?_
  rintro en w2 ⟨rfl, hb2⟩
  have HB2 : Kp (Below w.heap.size w w2) := ⟨Below.trans (by repeat (first | refine Below.alloc ?_ (by have := HB1.out.size; (try simp) <;> omega) _ | refine bDrewN ?_ _ | refine Below.drew ?_ | refine Below.setCell ?_ (by have := HB1.out.size; (try simp) <;> omega) _ | exact HB1.out)) (hb2.mono (by have := HB1.out.size; (try simp) <;> omega))⟩
  have hz2_0 : w.heap.size < w2.heap.size := by have := hb2.size; (try simp at this); omega
  have hz2_1 : w.heap.size + 1 < w2.heap.size := by have := hb2.size; (try simp at this); omega
  have hz2_2 : w.heap.size + 1 + 1 < w2.heap.size := by have := hb2.size; (try simp at this); omega
  obtain ⟨hc, hf⟩ := bcell hb2
  have c2_0_0 : w2.cell? ⟨w.heap.size, 0, none⟩ = some (.int .i64 s) := (hc _ _ (by (try simp) <;> omega)).trans (by go_simp)
  have c2_0_1 : w2.cell? ⟨w.heap.size, 1, none⟩ = some ((.slice g1 N c1)) := (hc _ _ (by (try simp) <;> omega)).trans (by go_simp)
  have z2_0 : ∀ j, w2.frozen? ⟨w.heap.size, j, none⟩ = false := fun j => (hf _ _ (by (try simp) <;> omega)).trans (by go_simp)
  have c2_1_0 : w2.cell? ⟨w.heap.size + 1, 0, none⟩ = some (.int .i64 s) := (hc _ _ (by (try simp) <;> omega)).trans (by go_simp)
  have c2_1_1 : w2.cell? ⟨w.heap.size + 1, 1, none⟩ = some ((.slice g2 N c2)) := (hc _ _ (by (try simp) <;> omega)).trans (by go_simp)
  have z2_1 : ∀ j, w2.frozen? ⟨w.heap.size + 1, j, none⟩ = false := fun j => (hf _ _ (by (try simp) <;> omega)).trans (by go_simp)
  have c2_2_0 : w2.cell? ⟨w.heap.size + 1 + 1, 0, none⟩ = some (.int .i64 0) := (hc _ _ (by (try simp) <;> omega)).trans (by go_simp)
  have c2_2_1 : w2.cell? ⟨w.heap.size + 1 + 1, 1, none⟩ = some ((.slice none 0 0)) := (hc _ _ (by (try simp) <;> omega)).trans (by go_simp)
  have z2_2 : ∀ j, w2.frozen? ⟨w.heap.size + 1 + 1, j, none⟩ = false := fun j => (hf _ _ (by (try simp) <;> omega)).trans (by go_simp)
  clear hc hf hb2 c1_0_0 c1_0_1 z1_0 c1_1_0 c1_1_1 z1_1 c1_2_0 c1_2_1 z1_2
  go_wp2_with fail
  refine (HE.out _).mono ?_
  rintro en w3 ⟨M, rfl, hM, hmr, hb3⟩
  have HM : Kp (w.heap.size + 2 < M) := ⟨by omega⟩
  have HB3 : Kp (Below w.heap.size w w3) := ⟨Below.trans (by repeat (first | refine Below.alloc ?_ (by have := HB2.out.size; (try simp) <;> omega) _ | refine bDrewN ?_ _ | refine Below.drew ?_ | refine Below.setCell ?_ (by have := HB2.out.size; (try simp) <;> omega) _ | exact HB2.out)) (hb3.mono (by have := HB2.out.size; (try simp) <;> omega))⟩
  have hz3_0 : w.heap.size < w3.heap.size := by have := hb3.size; (try simp at this); omega
  have hz3_1 : w.heap.size + 1 < w3.heap.size := by have := hb3.size; (try simp at this); omega
  have hz3_2 : w.heap.size + 1 + 1 < w3.heap.size := by have := hb3.size; (try simp at this); omega
  obtain ⟨hc, hf⟩ := bcell hb3
  have c3_0_0 : w3.cell? ⟨w.heap.size, 0, none⟩ = some (.int .i64 s) := (hc _ _ (by (try simp) <;> omega)).trans (by go_simp)
  have c3_0_1 : w3.cell? ⟨w.heap.size, 1, none⟩ = some ((.slice g1 N c1)) := (hc _ _ (by (try simp) <;> omega)).trans (by go_simp)
  have z3_0 : ∀ j, w3.frozen? ⟨w.heap.size, j, none⟩ = false := fun j => (hf _ _ (by (try simp) <;> omega)).trans (by go_simp)
  have c3_1_0 : w3.cell? ⟨w.heap.size + 1, 0, none⟩ = some (.int .i64 s) := (hc _ _ (by (try simp) <;> omega)).trans (by go_simp)
  have c3_1_1 : w3.cell? ⟨w.heap.size + 1, 1, none⟩ = some ((.slice g2 N c2)) := (hc _ _ (by (try simp) <;> omega)).trans (by go_simp)
  have z3_1 : ∀ j, w3.frozen? ⟨w.heap.size + 1, j, none⟩ = false := fun j => (hf _ _ (by (try simp) <;> omega)).trans (by go_simp)
  have c3_2_0 : w3.cell? ⟨w.heap.size + 1 + 1, 0, none⟩ = some (.int .i64 0) := (hc _ _ (by (try simp) <;> omega)).trans (by go_simp)
  have c3_2_1 : w3.cell? ⟨w.heap.size + 1 + 1, 1, none⟩ = some ((.slice none 0 0)) := (hc _ _ (by (try simp) <;> omega)).trans (by go_simp)
  have z3_2 : ∀ j, w3.frozen? ⟨w.heap.size + 1 + 1, j, none⟩ = false := fun j => (hf _ _ (by (try simp) <;> omega)).trans (by go_simp)
  clear hc hf hb3 c2_0_0 c2_0_1 z2_0 c2_1_0 c2_1_1 z2_1 c2_2_0 c2_2_1 z2_2
  go_wp2
  obtain ⟨W3, hW3⟩ : ∃ W3, w3.alloc (.cells #[.int .i64 s, .slice (some ⟨M, 0, none⟩) N N] 24) = W3 := ⟨_, rfl⟩
  rw [hW3]
  obtain ⟨hji, hne⟩ := JI.start (w := w) (Z := w.heap.size) hW3 HP.out HB3.out hmr c3_0_1 c3_1_1 c3_2_0 c3_2_1 z3_0 z3_1 z3_2
  rw [← HLL.out, ← fill_zero, HLL.out] at hji
  have HJ := Kp.mk hji
  have HNE := Kp.mk hne
  obtain ⟨p1, p2, p3, p4, p5, p6, p7, p8⟩ := hji.cells
  clear hW3 hji hne hmr hM c3_0_0 c3_0_1 z3_0 hz3_0 c3_1_0 c3_1_1 z3_1 hz3_1 c3_2_0 c3_2_1 z3_2 hz3_2 HB3 HW HE p1 p2 p3 p5 p6 p7 p8
  generalize w3.heap.size = Q at *
  go_wp2
  clear p4
  go_loopw [30] (fun i wr => ∃ j : Nat, j ≤ N ∧ i = .int .i64 j ∧ Kp (JI w w.heap.size s N M Q g1 g2 c1 c2 (fillL L j) wr)) (fun i _ => N - (intOf i).toNat)
  case atStart => exact ⟨0, Nat.zero_le _, rfl, HJ⟩
  case round =>
    clear HJ
    obtain ⟨j, hj, rfl, HJ⟩ := hrel
    by_cases hlt : j < N
    · obtain ⟨x, hx⟩ : ∃ x, h[j]? = some x := ⟨_, List.getElem?_eq_getElem (by rw [HL.out.1]; exact hlt)⟩
      obtain ⟨y, hy⟩ : ∃ y, k[j]? = some y := ⟨_, List.getElem?_eq_getElem (by rw [HL.out.2]; exact hlt)⟩
      have HX := Kp.mk (HLA.out j x y hx hy)
      obtain ⟨b, o, hg, hbl, hca⟩ := HA.out j x hx
      subst hg
      obtain ⟨b', o', hg', hbl', hcb⟩ := HB.out j y hy
      subst hg'
      have HBX := Kp.mk (And.intro (And.intro hbl hca) (And.intro hbl' hcb))
      have o1 : (j : Int) < (N : Int) := by omega
      have o4 : j ≤ 1000 := by have := HN.out; omega
      have HJL := Kp.mk hlt
      clear hx hy hca hcb hbl hbl'
      cases x
      all_goals
        go_wp2
        refine region_tail 16 (by kernel_rfl) (by kernel_rfl) ?_
        intro wd hwd
        have hbd : Below wr.heap.size wr wd := by rw [hwd]; exact (Below.refl _ _).drew
        have HJ2 := Kp.mk (HJ.out.on HP.out hbd)
        obtain ⟨p1, p2, -, p4, -, -, -, -⟩ := HJ2.out.cells
        have a1 := (HJ2.out.hd.below.cell (p := ⟨b, o + j, none⟩) HBX.out.1.1).trans HBX.out.1.2
        have a2 := (HJ2.out.hd.below.cell (p := ⟨b', o' + j, none⟩) HBX.out.2.1).trans HBX.out.2.2
        have a3 := HJ2.out.mr.cell (fill_at (L := L) (k := j) (by rw [HLL.out]; exact HJL.out))
        have a4 := HJ2.out.mr.z j
        clear hwd hbd
        simp only [List.take_succ_cons, List.take_zero, List.drop_succ_cons, List.drop_zero]
        repeat still_step
        refine wpStill_nil ?_
        change wpList _ _ _ _ _ _
        go_wp2
        go_roundw
        case rel =>
          exact ⟨j + 1, by omega, by go_num, ⟨HJ2.out.fill HX.out HJL.out rfl HM.out HNE.out⟩⟩
        case measure => simp [intOf]; omega
    · have hjn : j = N := by omega
      subst hjn
      have hJ := HJ.out
      rw [← HLL.out, fill_all, HLL.out] at hJ
      have HJ2 := Kp.mk hJ
      obtain ⟨p1, p2, p3, p4, p5, p6, p7, p8⟩ := hJ.cells
      have o2 : ¬ (j : Int) < (j : Int) := by omega
      clear hJ HJ
      go_wp2
      refine bodyPost_ret (v := .tuple #[.agg #[.int .i64 s, .slice (some ⟨M, 0, none⟩) j j], .int .i64 0]) ?_ rfl ?_
      · simp [results, Try.results44, go_sem, p5, p6]
      have g1 := setCell_grown wr (w.heap.size + 2) 0 (.int .i64 s)
      have g2 := setCell_grown (wr.setCell ⟨w.heap.size + 2, 0, none⟩ (.int .i64 s)) (w.heap.size + 2) 1 (.slice (some ⟨M, 0, none⟩) j j)
      have hne : some M ≠ some (w.heap.size + 2) := fun e => by have := HM.out; simp only [Option.some.injEq] at e; omega
      have hM := HJ2.out.mr.lt HP.out
      have hr := (HJ2.out.mr.same (Nat.le_trans g1.size g2.size) ((g2.block M (Nat.lt_of_lt_of_le hM g1.size) hne).trans (g1.block M hM hne))).row
      exact ⟨_, rfl, ⟨_, rfl, hr⟩, (HJ2.out.hd.below.setCell (by simp only; omega) _).setCell (by simp only; omega) _⟩
theorem rBoth_any (s t : Int) (u v : Value) (h k : List Bool) (w : World) (hu : LB w u h) (hv : LB w v k) :
    Calls Try.prog 44 #[.agg #[.int .i64 s, u], .agg #[.int .i64 t, v]] w fun en w' => ∃ r, en = .returned (.tuple #[r, .int .i64 (jnE s t h.length k.length)]) ∧ VB w' r (jnS s t h.length k.length) (jnR (fun x y => x && y) s t h k) ∧ Below w.heap.size w w' := by
  obtain ⟨g1, c1, rfl⟩ := hu.shape
  obtain ⟨g2, c2, rfl⟩ := hv.shape
  unfold jnE jnS jnR
  cases ha : alikeB s t h.length k.length with
  | false =>
    rw [if_neg (by decide), if_neg (by decide), if_neg (by decide)]
    exact (rBoth_no s t g1 g2 h.length k.length c1 c2 w ha).mono fun en w' ⟨e, hb⟩ => ⟨_, e, VB.nil _, hb⟩
  | true =>
    have hb : blockB s h.length = true := by
      unfold alikeB at ha
      rw [Bool.and_eq_true] at ha
      exact ha.1
    obtain ⟨x, rfl, rfl, h1, h2, l1, l2⟩ := jn_sides ha
    rw [if_pos rfl, if_pos rfl, if_pos rfl, Int.toNat_natCast]
    have hkl : k.length = h.length := by omega
    rw [hkl] at hv ⊢
    exact rBoth_in x h.length g1 g2 c1 c2 h k w h2 hu hv rfl hkl l1.symm (by rw [l1]; exact Nat.mul_pos (Nat.mul_pos h1 h1) h1) hb
theorem rEither_no (s t : Int) (g1 g2 : Option Addr) (m n c1 c2 : Nat) (w : World) (h : alikeB s t m n = false) : Calls Try.prog 48 #[.agg #[.int .i64 s, .slice g1 m c1], .agg #[.int .i64 t, .slice g2 n c2]] w (OfNo w 1) := by
  have HA : Kp (∀ W, Calls Try.prog 18 #[.agg #[.int .i64 s, .slice g1 m c1]] W fun e w' => e = .returned (.bool (blockB s m)) ∧ Below W.heap.size W w') := ⟨fun W => rValidBlock_any s g1 m c1 W⟩
  have HB : Kp (∀ W, Calls Try.prog 18 #[.agg #[.int .i64 t, .slice g2 n c2]] W fun e w' => e = .returned (.bool (blockB t n)) ∧ Below W.heap.size W w') := ⟨fun W => rValidBlock_any t g2 n c2 W⟩
  cases ha : blockB s m with
  | false =>
    rw [ha] at HA
    clear h ha
    go_enter Try.func48, Try.ntmps48
    go_wp2_with fail
    refine (HA.out _).mono ?_
    rintro en w1 ⟨rfl, hb1⟩
    have HB1 : Kp (Below w.heap.size w w1) := ⟨Below.trans (by repeat (first | refine Below.alloc ?_ (by (try simp) <;> omega) _ | refine bDrewN ?_ _ | refine Below.drew ?_ | refine Below.setCell ?_ (by (try simp) <;> omega) _ | exact Below.refl _ _)) (hb1.mono (by (try simp) <;> omega))⟩
    have hz1_0 : w.heap.size < w1.heap.size := by have := hb1.size; (try simp at this); omega
    have hz1_1 : w.heap.size + 1 < w1.heap.size := by have := hb1.size; (try simp at this); omega
    have hz1_2 : w.heap.size + 1 + 1 < w1.heap.size := by have := hb1.size; (try simp at this); omega
    obtain ⟨hc, hf⟩ := bcell hb1
    have c1_0_0 : w1.cell? ⟨w.heap.size, 0, none⟩ = some (.int .i64 s) := (hc _ _ (by (try simp) <;> omega)).trans (by go_simp)
    have c1_0_1 : w1.cell? ⟨w.heap.size, 1, none⟩ = some ((.slice g1 m c1)) := (hc _ _ (by (try simp) <;> omega)).trans (by go_simp)
    have z1_0 : ∀ j, w1.frozen? ⟨w.heap.size, j, none⟩ = false := fun j => (hf _ _ (by (try simp) <;> omega)).trans (by go_simp)
    have c1_1_0 : w1.cell? ⟨w.heap.size + 1, 0, none⟩ = some (.int .i64 t) := (hc _ _ (by (try simp) <;> omega)).trans (by go_simp)
    have c1_1_1 : w1.cell? ⟨w.heap.size + 1, 1, none⟩ = some ((.slice g2 n c2)) := (hc _ _ (by (try simp) <;> omega)).trans (by go_simp)
    have z1_1 : ∀ j, w1.frozen? ⟨w.heap.size + 1, j, none⟩ = false := fun j => (hf _ _ (by (try simp) <;> omega)).trans (by go_simp)
    have c1_2_0 : w1.cell? ⟨w.heap.size + 1 + 1, 0, none⟩ = some (.int .i64 0) := (hc _ _ (by (try simp) <;> omega)).trans (by go_simp)
    have c1_2_1 : w1.cell? ⟨w.heap.size + 1 + 1, 1, none⟩ = some ((.slice none 0 0)) := (hc _ _ (by (try simp) <;> omega)).trans (by go_simp)
    have z1_2 : ∀ j, w1.frozen? ⟨w.heap.size + 1 + 1, j, none⟩ = false := fun j => (hf _ _ (by (try simp) <;> omega)).trans (by go_simp)
    clear hc hf hb1
    go_wp2
    exact bodyPost_ret (v := .tuple #[.agg #[.int .i64 0, .slice none 0 0], .int .i64 1]) (by simp [results, Try.results48, go_sem, c1_2_0, c1_2_1]) rfl ⟨rfl, by (have hzS := HB1.out.size; (repeat (with_reducible first | exact HB1.out | refine Below.setCell ?_ ?_ _ | refine Below.alloc ?_ ?_ _ | refine Below.drew ?_ | refine bDrewN ?_ _)); all_goals ((try simp) <;> omega))⟩
  | true =>
    cases hb : blockB t n with
    | false =>
      rw [ha] at HA
      rw [hb] at HB
      clear h ha hb
      go_enter Try.func48, Try.ntmps48
      go_wp2_with fail
      refine (HA.out _).mono ?_
      rintro en w1 ⟨rfl, hb1⟩
      have HB1 : Kp (Below w.heap.size w w1) := ⟨Below.trans (by repeat (first | refine Below.alloc ?_ (by (try simp) <;> omega) _ | refine bDrewN ?_ _ | refine Below.drew ?_ | refine Below.setCell ?_ (by (try simp) <;> omega) _ | exact Below.refl _ _)) (hb1.mono (by (try simp) <;> omega))⟩
      have hz1_0 : w.heap.size < w1.heap.size := by have := hb1.size; (try simp at this); omega
      have hz1_1 : w.heap.size + 1 < w1.heap.size := by have := hb1.size; (try simp at this); omega
      have hz1_2 : w.heap.size + 1 + 1 < w1.heap.size := by have := hb1.size; (try simp at this); omega
      obtain ⟨hc, hf⟩ := bcell hb1
      have c1_0_0 : w1.cell? ⟨w.heap.size, 0, none⟩ = some (.int .i64 s) := (hc _ _ (by (try simp) <;> omega)).trans (by go_simp)
      have c1_0_1 : w1.cell? ⟨w.heap.size, 1, none⟩ = some ((.slice g1 m c1)) := (hc _ _ (by (try simp) <;> omega)).trans (by go_simp)
      have z1_0 : ∀ j, w1.frozen? ⟨w.heap.size, j, none⟩ = false := fun j => (hf _ _ (by (try simp) <;> omega)).trans (by go_simp)
      have c1_1_0 : w1.cell? ⟨w.heap.size + 1, 0, none⟩ = some (.int .i64 t) := (hc _ _ (by (try simp) <;> omega)).trans (by go_simp)
      have c1_1_1 : w1.cell? ⟨w.heap.size + 1, 1, none⟩ = some ((.slice g2 n c2)) := (hc _ _ (by (try simp) <;> omega)).trans (by go_simp)
      have z1_1 : ∀ j, w1.frozen? ⟨w.heap.size + 1, j, none⟩ = false := fun j => (hf _ _ (by (try simp) <;> omega)).trans (by go_simp)
      have c1_2_0 : w1.cell? ⟨w.heap.size + 1 + 1, 0, none⟩ = some (.int .i64 0) := (hc _ _ (by (try simp) <;> omega)).trans (by go_simp)
      have c1_2_1 : w1.cell? ⟨w.heap.size + 1 + 1, 1, none⟩ = some ((.slice none 0 0)) := (hc _ _ (by (try simp) <;> omega)).trans (by go_simp)
      have z1_2 : ∀ j, w1.frozen? ⟨w.heap.size + 1 + 1, j, none⟩ = false := fun j => (hf _ _ (by (try simp) <;> omega)).trans (by go_simp)
      clear hc hf hb1
      go_wp2_with fail
      refine (HB.out _).mono ?_
      rintro en w2 ⟨rfl, hb2⟩
      have HB2 : Kp (Below w.heap.size w w2) := ⟨Below.trans (by repeat (first | refine Below.alloc ?_ (by have := HB1.out.size; (try simp) <;> omega) _ | refine bDrewN ?_ _ | refine Below.drew ?_ | refine Below.setCell ?_ (by have := HB1.out.size; (try simp) <;> omega) _ | exact HB1.out)) (hb2.mono (by have := HB1.out.size; (try simp) <;> omega))⟩
      have hz2_0 : w.heap.size < w2.heap.size := by have := hb2.size; (try simp at this); omega
      have hz2_1 : w.heap.size + 1 < w2.heap.size := by have := hb2.size; (try simp at this); omega
      have hz2_2 : w.heap.size + 1 + 1 < w2.heap.size := by have := hb2.size; (try simp at this); omega
      obtain ⟨hc, hf⟩ := bcell hb2
      have c2_0_0 : w2.cell? ⟨w.heap.size, 0, none⟩ = some (.int .i64 s) := (hc _ _ (by (try simp) <;> omega)).trans (by go_simp)
      have c2_0_1 : w2.cell? ⟨w.heap.size, 1, none⟩ = some ((.slice g1 m c1)) := (hc _ _ (by (try simp) <;> omega)).trans (by go_simp)
      have z2_0 : ∀ j, w2.frozen? ⟨w.heap.size, j, none⟩ = false := fun j => (hf _ _ (by (try simp) <;> omega)).trans (by go_simp)
      have c2_1_0 : w2.cell? ⟨w.heap.size + 1, 0, none⟩ = some (.int .i64 t) := (hc _ _ (by (try simp) <;> omega)).trans (by go_simp)
      have c2_1_1 : w2.cell? ⟨w.heap.size + 1, 1, none⟩ = some ((.slice g2 n c2)) := (hc _ _ (by (try simp) <;> omega)).trans (by go_simp)
      have z2_1 : ∀ j, w2.frozen? ⟨w.heap.size + 1, j, none⟩ = false := fun j => (hf _ _ (by (try simp) <;> omega)).trans (by go_simp)
      have c2_2_0 : w2.cell? ⟨w.heap.size + 1 + 1, 0, none⟩ = some (.int .i64 0) := (hc _ _ (by (try simp) <;> omega)).trans (by go_simp)
      have c2_2_1 : w2.cell? ⟨w.heap.size + 1 + 1, 1, none⟩ = some ((.slice none 0 0)) := (hc _ _ (by (try simp) <;> omega)).trans (by go_simp)
      have z2_2 : ∀ j, w2.frozen? ⟨w.heap.size + 1 + 1, j, none⟩ = false := fun j => (hf _ _ (by (try simp) <;> omega)).trans (by go_simp)
      clear hc hf hb2 c1_0_0 c1_0_1 z1_0 c1_1_0 c1_1_1 z1_1 c1_2_0 c1_2_1 z1_2
      go_wp2
      exact bodyPost_ret (v := .tuple #[.agg #[.int .i64 0, .slice none 0 0], .int .i64 1]) (by simp [results, Try.results48, go_sem, c2_2_0, c2_2_1]) rfl ⟨rfl, by (have hzS := HB2.out.size; (repeat (with_reducible first | exact HB2.out | refine Below.setCell ?_ ?_ _ | refine Below.alloc ?_ ?_ _ | refine Below.drew ?_ | refine bDrewN ?_ _)); all_goals ((try simp) <;> omega))⟩
    | true =>
      have hst : (s != t) = true := by
        unfold alikeB at h
        rw [ha, hb, Bool.true_and, Bool.true_and, decide_eq_false_iff_not] at h
        simpa using h
      rw [ha] at HA
      rw [hb] at HB
      clear h ha hb
      go_enter Try.func48, Try.ntmps48
      go_wp2_with fail
      refine (HA.out _).mono ?_
      rintro en w1 ⟨rfl, hb1⟩
      have HB1 : Kp (Below w.heap.size w w1) := ⟨Below.trans (by repeat (first | refine Below.alloc ?_ (by (try simp) <;> omega) _ | refine bDrewN ?_ _ | refine Below.drew ?_ | refine Below.setCell ?_ (by (try simp) <;> omega) _ | exact Below.refl _ _)) (hb1.mono (by (try simp) <;> omega))⟩
      have hz1_0 : w.heap.size < w1.heap.size := by have := hb1.size; (try simp at this); omega
      have hz1_1 : w.heap.size + 1 < w1.heap.size := by have := hb1.size; (try simp at this); omega
      have hz1_2 : w.heap.size + 1 + 1 < w1.heap.size := by have := hb1.size; (try simp at this); omega
      obtain ⟨hc, hf⟩ := bcell hb1
      have c1_0_0 : w1.cell? ⟨w.heap.size, 0, none⟩ = some (.int .i64 s) := (hc _ _ (by (try simp) <;> omega)).trans (by go_simp)
      have c1_0_1 : w1.cell? ⟨w.heap.size, 1, none⟩ = some ((.slice g1 m c1)) := (hc _ _ (by (try simp) <;> omega)).trans (by go_simp)
      have z1_0 : ∀ j, w1.frozen? ⟨w.heap.size, j, none⟩ = false := fun j => (hf _ _ (by (try simp) <;> omega)).trans (by go_simp)
      have c1_1_0 : w1.cell? ⟨w.heap.size + 1, 0, none⟩ = some (.int .i64 t) := (hc _ _ (by (try simp) <;> omega)).trans (by go_simp)
      have c1_1_1 : w1.cell? ⟨w.heap.size + 1, 1, none⟩ = some ((.slice g2 n c2)) := (hc _ _ (by (try simp) <;> omega)).trans (by go_simp)
      have z1_1 : ∀ j, w1.frozen? ⟨w.heap.size + 1, j, none⟩ = false := fun j => (hf _ _ (by (try simp) <;> omega)).trans (by go_simp)
      have c1_2_0 : w1.cell? ⟨w.heap.size + 1 + 1, 0, none⟩ = some (.int .i64 0) := (hc _ _ (by (try simp) <;> omega)).trans (by go_simp)
      have c1_2_1 : w1.cell? ⟨w.heap.size + 1 + 1, 1, none⟩ = some ((.slice none 0 0)) := (hc _ _ (by (try simp) <;> omega)).trans (by go_simp)
      have z1_2 : ∀ j, w1.frozen? ⟨w.heap.size + 1 + 1, j, none⟩ = false := fun j => (hf _ _ (by (try simp) <;> omega)).trans (by go_simp)
      clear hc hf hb1
      go_wp2_with fail
      refine (HB.out _).mono ?_
      rintro en w2 ⟨rfl, hb2⟩
      have HB2 : Kp (Below w.heap.size w w2) := ⟨Below.trans (by repeat (first | refine Below.alloc ?_ (by have := HB1.out.size; (try simp) <;> omega) _ | refine bDrewN ?_ _ | refine Below.drew ?_ | refine Below.setCell ?_ (by have := HB1.out.size; (try simp) <;> omega) _ | exact HB1.out)) (hb2.mono (by have := HB1.out.size; (try simp) <;> omega))⟩
      have hz2_0 : w.heap.size < w2.heap.size := by have := hb2.size; (try simp at this); omega
      have hz2_1 : w.heap.size + 1 < w2.heap.size := by have := hb2.size; (try simp at this); omega
      have hz2_2 : w.heap.size + 1 + 1 < w2.heap.size := by have := hb2.size; (try simp at this); omega
      obtain ⟨hc, hf⟩ := bcell hb2
      have c2_0_0 : w2.cell? ⟨w.heap.size, 0, none⟩ = some (.int .i64 s) := (hc _ _ (by (try simp) <;> omega)).trans (by go_simp)
      have c2_0_1 : w2.cell? ⟨w.heap.size, 1, none⟩ = some ((.slice g1 m c1)) := (hc _ _ (by (try simp) <;> omega)).trans (by go_simp)
      have z2_0 : ∀ j, w2.frozen? ⟨w.heap.size, j, none⟩ = false := fun j => (hf _ _ (by (try simp) <;> omega)).trans (by go_simp)
      have c2_1_0 : w2.cell? ⟨w.heap.size + 1, 0, none⟩ = some (.int .i64 t) := (hc _ _ (by (try simp) <;> omega)).trans (by go_simp)
      have c2_1_1 : w2.cell? ⟨w.heap.size + 1, 1, none⟩ = some ((.slice g2 n c2)) := (hc _ _ (by (try simp) <;> omega)).trans (by go_simp)
      have z2_1 : ∀ j, w2.frozen? ⟨w.heap.size + 1, j, none⟩ = false := fun j => (hf _ _ (by (try simp) <;> omega)).trans (by go_simp)
      have c2_2_0 : w2.cell? ⟨w.heap.size + 1 + 1, 0, none⟩ = some (.int .i64 0) := (hc _ _ (by (try simp) <;> omega)).trans (by go_simp)
      have c2_2_1 : w2.cell? ⟨w.heap.size + 1 + 1, 1, none⟩ = some ((.slice none 0 0)) := (hc _ _ (by (try simp) <;> omega)).trans (by go_simp)
      have z2_2 : ∀ j, w2.frozen? ⟨w.heap.size + 1 + 1, j, none⟩ = false := fun j => (hf _ _ (by (try simp) <;> omega)).trans (by go_simp)
      clear hc hf hb2 c1_0_0 c1_0_1 z1_0 c1_1_0 c1_1_1 z1_1 c1_2_0 c1_2_1 z1_2
      go_wp2
      exact bodyPost_ret (v := .tuple #[.agg #[.int .i64 0, .slice none 0 0], .int .i64 1]) (by simp [results, Try.results48, go_sem, c2_2_0, c2_2_1]) rfl ⟨rfl, by (have hzS := HB2.out.size; (repeat (with_reducible first | exact HB2.out | refine Below.setCell ?_ ?_ _ | refine Below.alloc ?_ ?_ _ | refine Below.drew ?_ | refine bDrewN ?_ _)); all_goals ((try simp) <;> omega))⟩
set_option maxRecDepth 100000 in
set_option maxHeartbeats 2000000 in
theorem rEither_in (s N : Nat) (g1 g2 : Option Addr) (c1 c2 : Nat) (h k : List Bool) (w : World) (hs2 : s ≤ 10) (hu : LB w (.slice g1 N c1) h) (hv : LB w (.slice g2 N c2) k) (lh : h.length = N) (lk : k.length = N) (hN : s * s * s = N) (h0 : 0 < N) (hb : blockB s N = true) :
    Calls Try.prog 48 #[.agg #[.int .i64 s, .slice g1 N c1], .agg #[.int .i64 s, .slice g2 N c2]] w fun en w' => ∃ r, en = .returned (.tuple #[r, .int .i64 0]) ∧ VB w' r s (jnL (fun x y => x || y) s h k) ∧ Below w.heap.size w w' := by
  have HW : Kp (∀ W g c, Calls Try.prog 18 #[.agg #[.int .i64 s, .slice g N c]] W fun e w' => e = .returned (.bool true) ∧ Below W.heap.size W w') := ⟨fun W g c => hb ▸ rValidBlock_any s g N c W⟩
  obtain ⟨L, hL⟩ : ∃ L, jnL (fun x y => x || y) s h k = L := ⟨_, rfl⟩
  have HLL : Kp (L.length = N) := ⟨by rw [← hL, jnL_len, hN]⟩
  have HLA : Kp (∀ j x y, h[j]? = some x → k[j]? = some y → L[j]? = some (x || y)) := ⟨fun j x y hx hy => hL ▸ jnL_at (by rw [lh, hN]) hx hy⟩
  rw [hL]
  have HE : Kp (∀ W, Calls Try.prog 81 #[.int .i64 s] W fun e w' => ∃ M, e = .returned (.agg #[.int .i64 s, .slice (some ⟨M, 0, none⟩) N N]) ∧ W.heap.size < M ∧ MR M N N (List.replicate N false) w' ∧ Below W.heap.size W w') := ⟨fun W => hN ▸ rempty_any s hs2 W⟩
  have HN : Kp (N ≤ 1000) := ⟨hN ▸ (cube_bd hs2).2⟩
  have HP := Kp.mk h0
  obtain ⟨ga, ca, ea, -, hia⟩ := hu
  obtain ⟨gb, cb, eb, -, hib⟩ := hv
  simp only [Value.slice.injEq] at ea eb
  obtain ⟨rfl, -, rfl⟩ := ea
  obtain ⟨rfl, -, rfl⟩ := eb
  have HA := Lib.hid hia
  have HB := Lib.hid hib
  have HL := Kp.mk (And.intro lh lk)
  have t1 : ((s : Int) != (s : Int)) = false := by simp
  clear hia hib lh lk hb hN h0 hL hs2
  go_enter Try.func48, Try.ntmps48
  go_wp2_with fail
  refine (HW.out _ _ _).mono ?_
  rintro en w1 ⟨rfl, hb1⟩
  have HB1 : Kp (Below w.heap.size w w1) := ⟨Below.trans (by repeat (first | refine Below.alloc ?_ (by (try simp) <;> omega) _ | refine bDrewN ?_ _ | refine Below.drew ?_ | refine Below.setCell ?_ (by (try simp) <;> omega) _ | exact Below.refl _ _)) (hb1.mono (by (try simp) <;> omega))⟩
  have hz1_0 : w.heap.size < w1.heap.size := by have := hb1.size; (try simp at this); omega
  have hz1_1 : w.heap.size + 1 < w1.heap.size := by have := hb1.size; (try simp at this); omega
  have hz1_2 : w.heap.size + 1 + 1 < w1.heap.size := by have := hb1.size; (try simp at this); omega
  obtain ⟨hc, hf⟩ := bcell hb1
  have c1_0_0 : w1.cell? ⟨w.heap.size, 0, none⟩ = some (.int .i64 s) := (hc _ _ (by (try simp) <;> omega)).trans (by go_simp)
  have c1_0_1 : w1.cell? ⟨w.heap.size, 1, none⟩ = some ((.slice g1 N c1)) := (hc _ _ (by (try simp) <;> omega)).trans (by go_simp)
  have z1_0 : ∀ j, w1.frozen? ⟨w.heap.size, j, none⟩ = false := fun j => (hf _ _ (by (try simp) <;> omega)).trans (by go_simp)
  have c1_1_0 : w1.cell? ⟨w.heap.size + 1, 0, none⟩ = some (.int .i64 s) := (hc _ _ (by (try simp) <;> omega)).trans (by go_simp)
  have c1_1_1 : w1.cell? ⟨w.heap.size + 1, 1, none⟩ = some ((.slice g2 N c2)) := (hc _ _ (by (try simp) <;> omega)).trans (by go_simp)
  have z1_1 : ∀ j, w1.frozen? ⟨w.heap.size + 1, j, none⟩ = false := fun j => (hf _ _ (by (try simp) <;> omega)).trans (by go_simp)
  have c1_2_0 : w1.cell? ⟨w.heap.size + 1 + 1, 0, none⟩ = some (.int .i64 0) := (hc _ _ (by (try simp) <;> omega)).trans (by go_simp)
  have c1_2_1 : w1.cell? ⟨w.heap.size + 1 + 1, 1, none⟩ = some ((.slice none 0 0)) := (hc _ _ (by (try simp) <;> omega)).trans (by go_simp)
  have z1_2 : ∀ j, w1.frozen? ⟨w.heap.size + 1 + 1, j, none⟩ = false := fun j => (hf _ _ (by (try simp) <;> omega)).trans (by go_simp)
  clear hc hf hb1
  go_wp2_with fail
  refine (HW.out _ _ _).mono ?_
  rintro en w2 ⟨rfl, hb2⟩
  have HB2 : Kp (Below w.heap.size w w2) := ⟨Below.trans (by repeat (first | refine Below.alloc ?_ (by have := HB1.out.size; (try simp) <;> omega) _ | refine bDrewN ?_ _ | refine Below.drew ?_ | refine Below.setCell ?_ (by have := HB1.out.size; (try simp) <;> omega) _ | exact HB1.out)) (hb2.mono (by have := HB1.out.size; (try simp) <;> omega))⟩
  have hz2_0 : w.heap.size < w2.heap.size := by have := hb2.size; (try simp at this); omega
  have hz2_1 : w.heap.size + 1 < w2.heap.size := by have := hb2.size; (try simp at this); omega
  have hz2_2 : w.heap.size + 1 + 1 < w2.heap.size := by have := hb2.size; (try simp at this); omega
  obtain ⟨hc, hf⟩ := bcell hb2
  have c2_0_0 : w2.cell? ⟨w.heap.size, 0, none⟩ = some (.int .i64 s) := (hc _ _ (by (try simp) <;> omega)).trans (by go_simp)
  have c2_0_1 : w2.cell? ⟨w.heap.size, 1, none⟩ = some ((.slice g1 N c1)) := (hc _ _ (by (try simp) <;> omega)).trans (by go_simp)
  have z2_0 : ∀ j, w2.frozen? ⟨w.heap.size, j, none⟩ = false := fun j => (hf _ _ (by (try simp) <;> omega)).trans (by go_simp)
  have c2_1_0 : w2.cell? ⟨w.heap.size + 1, 0, none⟩ = some (.int .i64 s) := (hc _ _ (by (try simp) <;> omega)).trans (by go_simp)
  have c2_1_1 : w2.cell? ⟨w.heap.size + 1, 1, none⟩ = some ((.slice g2 N c2)) := (hc _ _ (by (try simp) <;> omega)).trans (by go_simp)
  have z2_1 : ∀ j, w2.frozen? ⟨w.heap.size + 1, j, none⟩ = false := fun j => (hf _ _ (by (try simp) <;> omega)).trans (by go_simp)
  have c2_2_0 : w2.cell? ⟨w.heap.size + 1 + 1, 0, none⟩ = some (.int .i64 0) := (hc _ _ (by (try simp) <;> omega)).trans (by go_simp)
  have c2_2_1 : w2.cell? ⟨w.heap.size + 1 + 1, 1, none⟩ = some ((.slice none 0 0)) := (hc _ _ (by (try simp) <;> omega)).trans (by go_simp)
  have z2_2 : ∀ j, w2.frozen? ⟨w.heap.size + 1 + 1, j, none⟩ = false := fun j => (hf _ _ (by (try simp) <;> omega)).trans (by go_simp)
  clear hc hf hb2
  go_wp2_with fail
  refine (HE.out _).mono ?_
  rintro en w3 ⟨M, rfl, hM, hmr, hb3⟩
  have HM : Kp (w.heap.size + 2 < M) := ⟨by omega⟩
  have HB3 : Kp (Below w.heap.size w w3) := ⟨Below.trans (by repeat (first | refine Below.alloc ?_ (by have := HB2.out.size; (try simp) <;> omega) _ | refine bDrewN ?_ _ | refine Below.drew ?_ | refine Below.setCell ?_ (by have := HB2.out.size; (try simp) <;> omega) _ | exact HB2.out)) (hb3.mono (by have := HB2.out.size; (try simp) <;> omega))⟩
  have hz3_0 : w.heap.size < w3.heap.size := by have := hb3.size; (try simp at this); omega
  have hz3_1 : w.heap.size + 1 < w3.heap.size := by have := hb3.size; (try simp at this); omega
  have hz3_2 : w.heap.size + 1 + 1 < w3.heap.size := by have := hb3.size; (try simp at this); omega
  obtain ⟨hc, hf⟩ := bcell hb3
  have c3_0_0 : w3.cell? ⟨w.heap.size, 0, none⟩ = some (.int .i64 s) := (hc _ _ (by (try simp) <;> omega)).trans (by go_simp)
  have c3_0_1 : w3.cell? ⟨w.heap.size, 1, none⟩ = some ((.slice g1 N c1)) := (hc _ _ (by (try simp) <;> omega)).trans (by go_simp)
  have z3_0 : ∀ j, w3.frozen? ⟨w.heap.size, j, none⟩ = false := fun j => (hf _ _ (by (try simp) <;> omega)).trans (by go_simp)
  have c3_1_0 : w3.cell? ⟨w.heap.size + 1, 0, none⟩ = some (.int .i64 s) := (hc _ _ (by (try simp) <;> omega)).trans (by go_simp)
  have c3_1_1 : w3.cell? ⟨w.heap.size + 1, 1, none⟩ = some ((.slice g2 N c2)) := (hc _ _ (by (try simp) <;> omega)).trans (by go_simp)
  have z3_1 : ∀ j, w3.frozen? ⟨w.heap.size + 1, j, none⟩ = false := fun j => (hf _ _ (by (try simp) <;> omega)).trans (by go_simp)
  have c3_2_0 : w3.cell? ⟨w.heap.size + 1 + 1, 0, none⟩ = some (.int .i64 0) := (hc _ _ (by (try simp) <;> omega)).trans (by go_simp)
  have c3_2_1 : w3.cell? ⟨w.heap.size + 1 + 1, 1, none⟩ = some ((.slice none 0 0)) := (hc _ _ (by (try simp) <;> omega)).trans (by go_simp)
  have z3_2 : ∀ j, w3.frozen? ⟨w.heap.size + 1 + 1, j, none⟩ = false := fun j => (hf _ _ (by (try simp) <;> omega)).trans (by go_simp)
  clear hc hf hb3
  go_wp2
  obtain ⟨W3, hW3⟩ : ∃ W3, w3.alloc (.cells #[.int .i64 s, .slice (some ⟨M, 0, none⟩) N N] 24) = W3 := ⟨_, rfl⟩
  rw [hW3]
  obtain ⟨hji, hne⟩ := JI.start (w := w) (Z := w.heap.size) hW3 HP.out HB3.out hmr c3_0_1 c3_1_1 c3_2_0 c3_2_1 z3_0 z3_1 z3_2
  rw [← HLL.out, ← fill_zero, HLL.out] at hji
  have HJ := Kp.mk hji
  have HNE := Kp.mk hne
  obtain ⟨p1, p2, p3, p4, p5, p6, p7, p8⟩ := hji.cells
  clear hW3 hji hne hmr hM c3_0_0 c3_0_1 z3_0 hz3_0 c3_1_0 c3_1_1 z3_1 hz3_1 c3_2_0 c3_2_1 z3_2 hz3_2 HB3 HW HE p1 p2 p3 p5 p6 p7 p8
  generalize w3.heap.size = Q at *
  go_wp2
  clear p4
  go_loopw [30] (fun i wr => ∃ j : Nat, j ≤ N ∧ i = .int .i64 j ∧ Kp (JI w w.heap.size s N M Q g1 g2 c1 c2 (fillL L j) wr)) (fun i _ => N - (intOf i).toNat)
  case atStart => exact ⟨0, Nat.zero_le _, rfl, HJ⟩
  case round =>
    clear HJ
    obtain ⟨j, hj, rfl, HJ⟩ := hrel
    by_cases hlt : j < N
    · obtain ⟨x, hx⟩ : ∃ x, h[j]? = some x := ⟨_, List.getElem?_eq_getElem (by rw [HL.out.1]; exact hlt)⟩
      obtain ⟨y, hy⟩ : ∃ y, k[j]? = some y := ⟨_, List.getElem?_eq_getElem (by rw [HL.out.2]; exact hlt)⟩
      have HX := Kp.mk (HLA.out j x y hx hy)
      obtain ⟨b, o, hg, hbl, hca⟩ := HA.out j x hx
      subst hg
      obtain ⟨b', o', hg', hbl', hcb⟩ := HB.out j y hy
      subst hg'
      have HBX := Kp.mk (And.intro (And.intro hbl hca) (And.intro hbl' hcb))
      have o1 : (j : Int) < (N : Int) := by omega
      have o4 : j ≤ 1000 := by have := HN.out; omega
      have HJL := Kp.mk hlt
      clear hx hy hca hcb hbl hbl'
      cases x
      all_goals
        go_wp2
        refine region_tail 16 (by kernel_rfl) (by kernel_rfl) ?_
        intro wd hwd
        have hbd : Below wr.heap.size wr wd := by rw [hwd]; exact (Below.refl _ _).drew
        have HJ2 := Kp.mk (HJ.out.on HP.out hbd)
        obtain ⟨p1, p2, -, p4, -, -, -, -⟩ := HJ2.out.cells
        have a1 := (HJ2.out.hd.below.cell (p := ⟨b, o + j, none⟩) HBX.out.1.1).trans HBX.out.1.2
        have a2 := (HJ2.out.hd.below.cell (p := ⟨b', o' + j, none⟩) HBX.out.2.1).trans HBX.out.2.2
        have a3 := HJ2.out.mr.cell (fill_at (L := L) (k := j) (by rw [HLL.out]; exact HJL.out))
        have a4 := HJ2.out.mr.z j
        clear hwd hbd
        simp only [List.take_succ_cons, List.take_zero, List.drop_succ_cons, List.drop_zero]
        repeat still_step
        refine wpStill_nil ?_
        change wpList _ _ _ _ _ _
        go_wp2
        go_roundw
        case rel =>
          exact ⟨j + 1, by omega, by go_num, ⟨HJ2.out.fill HX.out HJL.out rfl HM.out HNE.out⟩⟩
        case measure => simp [intOf]; omega
    · have hjn : j = N := by omega
      subst hjn
      have hJ := HJ.out
      rw [← HLL.out, fill_all, HLL.out] at hJ
      have HJ2 := Kp.mk hJ
      obtain ⟨p1, p2, p3, p4, p5, p6, p7, p8⟩ := hJ.cells
      have o2 : ¬ (j : Int) < (j : Int) := by omega
      clear hJ HJ
      go_wp2
      refine bodyPost_ret (v := .tuple #[.agg #[.int .i64 s, .slice (some ⟨M, 0, none⟩) j j], .int .i64 0]) ?_ rfl ?_
      · simp [results, Try.results48, go_sem, p5, p6]
      have g1 := setCell_grown wr (w.heap.size + 2) 0 (.int .i64 s)
      have g2 := setCell_grown (wr.setCell ⟨w.heap.size + 2, 0, none⟩ (.int .i64 s)) (w.heap.size + 2) 1 (.slice (some ⟨M, 0, none⟩) j j)
      have hne : some M ≠ some (w.heap.size + 2) := fun e => by have := HM.out; simp only [Option.some.injEq] at e; omega
      have hM := HJ2.out.mr.lt HP.out
      have hr := (HJ2.out.mr.same (Nat.le_trans g1.size g2.size) ((g2.block M (Nat.lt_of_lt_of_le hM g1.size) hne).trans (g1.block M hM hne))).row
      exact ⟨_, rfl, ⟨_, rfl, hr⟩, (HJ2.out.hd.below.setCell (by simp only; omega) _).setCell (by simp only; omega) _⟩
theorem rEither_any (s t : Int) (u v : Value) (h k : List Bool) (w : World) (hu : LB w u h) (hv : LB w v k) :
    Calls Try.prog 48 #[.agg #[.int .i64 s, u], .agg #[.int .i64 t, v]] w fun en w' => ∃ r, en = .returned (.tuple #[r, .int .i64 (jnE s t h.length k.length)]) ∧ VB w' r (jnS s t h.length k.length) (jnR (fun x y => x || y) s t h k) ∧ Below w.heap.size w w' := by
  obtain ⟨g1, c1, rfl⟩ := hu.shape
  obtain ⟨g2, c2, rfl⟩ := hv.shape
  unfold jnE jnS jnR
  cases ha : alikeB s t h.length k.length with
  | false =>
    rw [if_neg (by decide), if_neg (by decide), if_neg (by decide)]
    exact (rEither_no s t g1 g2 h.length k.length c1 c2 w ha).mono fun en w' ⟨e, hb⟩ => ⟨_, e, VB.nil _, hb⟩
  | true =>
    have hb : blockB s h.length = true := by
      unfold alikeB at ha
      rw [Bool.and_eq_true] at ha
      exact ha.1
    obtain ⟨x, rfl, rfl, h1, h2, l1, l2⟩ := jn_sides ha
    rw [if_pos rfl, if_pos rfl, if_pos rfl, Int.toNat_natCast]
    have hkl : k.length = h.length := by omega
    rw [hkl] at hv ⊢
    exact rEither_in x h.length g1 g2 c1 c2 h k w h2 hu hv rfl hkl l1.symm (by rw [l1]; exact Nat.mul_pos (Nat.mul_pos h1 h1) h1) hb
end Go.Proofs.Yticcafjogmjkiaa.Cv
