/-
  WALKS (layer 3, baths): the first hour at which something holds, by the program.
-/
import Derived.Test.YtakldbpfdoeimaaBtWait
import Derived.Test.YtakldbpfdoeimaaBtWater
namespace Go.Proofs.Ytakldbpfdoeimaa.Bt
open Go Go.RowKit
attribute [local go_sem] Oper.semAt_some

/-- The first hour at which the acid in the skin passes. -/
def firstL (t : Int → Bool) (v : Va) (n : Nat) : Option Nat := (List.range (n + 1)).find? fun h => t (hoursN h v).s.a
def firE (t : Int → Bool) (v : Va) (acid most : Int) : Int := if vatB v then if rngB 1000000000 acid && rngB 10000 most then if (firstL t v most.toNat).isSome then 0 else 8 else 7 else 1
def firA (t : Int → Bool) (v : Va) (acid most : Int) : Int := if firE t v acid most = 0 then ((firstL t v most.toNat).getD 0 : Nat) else 0
def FirPost (t : Int → Bool) (v : Va) (acid most : Int) (w : World) (e : Ending) (w' : World) : Prop := e = .returned (.tuple #[.int .i64 (firA t v acid most), .int .i64 (firE t v acid most)]) ∧ Below w.heap.size w w'
theorem firPost_of {t : Int → Bool} {v : Va} {acid most a b : Int} {w w' : World} {e : Ending} (h : firA t v acid most = a ∧ firE t v acid most = b) (he : e = .returned (.tuple #[.int .i64 a, .int .i64 b])) (hb : Below w.heap.size w w') : FirPost t v acid most w e w' :=
  ⟨by rw [he, h.1, h.2], hb⟩
theorem fir_inv {t : Int → Bool} {v : Va} {acid most : Int} (h : vatB v = false) : firA t v acid most = 0 ∧ firE t v acid most = 1 := by
  have e : firE t v acid most = 1 := by unfold firE; rw [h]; rfl
  exact ⟨by unfold firA; rw [e]; rfl, e⟩
theorem fir_rng {t : Int → Bool} {v : Va} {acid most : Int} (h : vatB v = true) (g : (rngB 1000000000 acid && rngB 10000 most) = false) : firA t v acid most = 0 ∧ firE t v acid most = 7 := by
  have e : firE t v acid most = 7 := by unfold firE; rw [h, g]; rfl
  exact ⟨by unfold firA; rw [e]; rfl, e⟩
theorem fir_none {t : Int → Bool} {v : Va} {acid : Int} {m : Nat} (h : vatB v = true) (g : (rngB 1000000000 acid && rngB 10000 m) = true) (k : firstL t v m = none) : firA t v acid m = 0 ∧ firE t v acid m = 8 := by
  have e : firE t v acid m = 8 := by unfold firE; rw [h, g, Int.toNat_natCast, k]; rfl
  exact ⟨by unfold firA; rw [e]; rfl, e⟩
theorem fir_some {t : Int → Bool} {v : Va} {acid : Int} {m k : Nat} (h : vatB v = true) (g : (rngB 1000000000 acid && rngB 10000 m) = true) (hk : firstL t v m = some k) : firA t v acid m = k ∧ firE t v acid m = 0 := by
  have e : firE t v acid m = 0 := by unfold firE; rw [h, g, Int.toNat_natCast, hk]; rfl
  exact ⟨by unfold firA; rw [e, if_pos rfl, Int.toNat_natCast, hk]; rfl, e⟩
theorem first_none {t : Int → Bool} {v : Va} {m : Nat} (h : ∀ x ∈ hrs v (m + 1), t x.2.s.a = false) : firstL t v m = none := by
  unfold firstL
  rw [List.find?_eq_none]
  intro k hk
  have := h (k, hoursN k v) (List.mem_map.2 ⟨k, hk, rfl⟩)
  simpa using this
theorem first_some {t : Int → Bool} {v : Va} {m : Nat} {pre : List (Nat × Va)} {x : Nat × Va} (hp : pre ++ [x] <+: hrs v (m + 1)) (h : ∀ y ∈ pre, t y.2.s.a = false) (hx : t x.2.s.a = true) : firstL t v m = some x.1 := by
  obtain ⟨d, hd⟩ := hp
  have e : firstL t v m = ((hrs v (m + 1)).find? fun y => t y.2.s.a).map (·.1) := by
    unfold firstL hrs
    rw [List.find?_map]
    cases h : List.find? ((fun y : Nat × Va => t y.2.s.a) ∘ fun h => (h, hoursN h v)) (List.range (m + 1)) with
    | none =>
      have : List.find? (fun h => t (hoursN h v).s.a) (List.range (m + 1)) = none := h
      rw [this]; rfl
    | some k =>
      have : List.find? (fun h => t (hoursN h v).s.a) (List.range (m + 1)) = some k := h
      rw [this]; rfl
  rw [e, ← hd, List.append_assoc, List.find?_append, List.find?_eq_none.2 (fun y hy => by rw [h y hy]; simp)]
  simp [hx]
/-- What the search keeps. -/
structure FirI (w : World) (Z : Nat) (fv : Value) (a b : Int) (W : World) : Prop where
  below : Below w.heap.size w W
  c7 : W.cell? ⟨Z + 1, 0, none⟩ = some fv
  c8 : W.cell? ⟨Z + 1 + 1, 0, none⟩ = some (.int .i64 a)
  c9 : W.cell? ⟨Z + 1 + 1 + 1, 0, none⟩ = some (.int .i64 b)
  z8 : W.frozen? ⟨Z + 1 + 1, 0, none⟩ = false
  z9 : W.frozen? ⟨Z + 1 + 1 + 1, 0, none⟩ = false
theorem FirI.same {w W W' : World} {Z : Nat} {fv : Value} {a b : Int} (h : FirI w Z fv a b W) (hb : Below w.heap.size w W') (h1 : W'.heap[Z + 1]? = W.heap[Z + 1]?) (h2 : W'.heap[Z + 1 + 1]? = W.heap[Z + 1 + 1]?) (h3 : W'.heap[Z + 1 + 1 + 1]? = W.heap[Z + 1 + 1 + 1]?) : FirI w Z fv a b W' :=
  ⟨hb, (World.cell?_of_block (a := ⟨Z + 1, 0, none⟩) h1).trans h.c7, (World.cell?_of_block (a := ⟨Z + 1 + 1, 0, none⟩) h2).trans h.c8, (World.cell?_of_block (a := ⟨Z + 1 + 1 + 1, 0, none⟩) h3).trans h.c9,
    (World.frozen?_of_block (a := ⟨Z + 1 + 1, 0, none⟩) h2).trans h.z8, (World.frozen?_of_block (a := ⟨Z + 1 + 1 + 1, 0, none⟩) h3).trans h.z9⟩
theorem FirI.abide {w : World} {Z B : Nat} {fv : Value} {a b : Int} (hB : w.heap.size ≤ B) (hZ : Z + 3 < B) : Abides B (FirI w Z fv a b) := by
  intro X Y row h g hr
  have hr' : ∀ r, row = some r → B ≤ r := fun r e => by rcases hr r e with h | h <;> omega
  have blk : ∀ k, k ≤ Z + 3 → k < X.heap.size → Y.heap[k]? = X.heap[k]? := fun k hk hlt => g.block k hlt (fun e => by have := hr' k e.symm; omega)
  have l7 := World.block_lt_of_cell? _ _ h.c7
  have l8 := World.block_lt_of_cell? _ _ h.c8
  have l9 := World.block_lt_of_cell? _ _ h.c9
  refine h.same ⟨g.os.trans h.below.os, g.tape.trans h.below.tape, g.output.trans h.below.output, Nat.le_trans h.below.size g.size, fun k hk => ?_⟩ (blk _ (by omega) l7) (blk _ (by omega) l8) (blk _ (by omega) l9)
  exact (g.block k (Nat.lt_of_lt_of_le hk h.below.size) (fun e => by have := hr' k e.symm; omega)).trans (h.below.block k hk)
/-- The contract of what is asked of each hour. -/
def AskC (t : Int → Bool) (f C : Nat) (w : World) : Prop := ∀ (x : Int) (W : World), Below w.heap.size w W → Calls Try.prog f #[.int .i64 x, .pointer (some ⟨C, 0, none⟩)] W fun e w' => e = .returned (.bool (t x)) ∧ W = w'
theorem firstHour_inv (bw bs ba sw ss sa so gw gs ga acid m : Int) (f C : Nat) (t : Int → Bool) (w : World) (hv : vatB ⟨⟨bw, bs, ba⟩, ⟨sw, ss, sa, so⟩, ⟨gw, gs, ga⟩⟩ = false) :
    Calls Try.prog 69 #[.agg #[.int .i64 bw, .int .i64 bs, .int .i64 ba, .int .i64 sw, .int .i64 ss, .int .i64 sa, .int .i64 so, .int .i64 gw, .int .i64 gs, .int .i64 ga], .int .i64 acid, .int .i64 m, .func (.func f) #[] #[.pointer (some ⟨C, 0, none⟩)]] w (FirPost t ⟨⟨bw, bs, ba⟩, ⟨sw, ss, sa, so⟩, ⟨gw, gs, ga⟩⟩ acid m w) := by
  have HV : Kp (vatB ⟨⟨bw, bs, ba⟩, ⟨sw, ss, sa, so⟩, ⟨gw, gs, ga⟩⟩ = false) := ⟨hv⟩
  have HE := Lib.hid (fir_inv (t := t) (acid := acid) (most := m) hv)
  clear hv
  go_enter Try.func69, Try.ntmps69
  go_wp2_with fail
  refine (ValidVat_no bw bs ba sw ss sa so gw gs ga _ HV.out).mono ?_
  rintro e w1 ⟨rfl, hb1⟩
  have HB1 : Kp (Below w.heap.size w w1) := ⟨Below.trans (by repeat (first | refine Below.alloc ?_ (by (try simp) <;> omega) _ | refine bDrewN ?_ _ | refine Below.drew ?_ | exact Below.refl _ _)) (hb1.mono (by (try simp) <;> omega))⟩
  have hz1_0 : w.heap.size < w1.heap.size := by have := hb1.size; (try simp at this); omega
  have hz1_1 : w.heap.size + 1 + 1 < w1.heap.size := by have := hb1.size; (try simp at this); omega
  have hz1_2 : w.heap.size + 1 + 1 + 1 < w1.heap.size := by have := hb1.size; (try simp at this); omega
  obtain ⟨hc, hf⟩ := bcell hb1
  have c1_0_0 : w1.cell? ⟨w.heap.size, 0, none⟩ = some (.int .i64 bw) := (hc _ _ (by (try simp) <;> omega)).trans (by go_simp)
  have c1_0_1 : w1.cell? ⟨w.heap.size, 1, none⟩ = some (.int .i64 bs) := (hc _ _ (by (try simp) <;> omega)).trans (by go_simp)
  have c1_0_2 : w1.cell? ⟨w.heap.size, 2, none⟩ = some (.int .i64 ba) := (hc _ _ (by (try simp) <;> omega)).trans (by go_simp)
  have c1_0_3 : w1.cell? ⟨w.heap.size, 3, none⟩ = some (.int .i64 sw) := (hc _ _ (by (try simp) <;> omega)).trans (by go_simp)
  have c1_0_4 : w1.cell? ⟨w.heap.size, 4, none⟩ = some (.int .i64 ss) := (hc _ _ (by (try simp) <;> omega)).trans (by go_simp)
  have c1_0_5 : w1.cell? ⟨w.heap.size, 5, none⟩ = some (.int .i64 sa) := (hc _ _ (by (try simp) <;> omega)).trans (by go_simp)
  have c1_0_6 : w1.cell? ⟨w.heap.size, 6, none⟩ = some (.int .i64 so) := (hc _ _ (by (try simp) <;> omega)).trans (by go_simp)
  have c1_0_7 : w1.cell? ⟨w.heap.size, 7, none⟩ = some (.int .i64 gw) := (hc _ _ (by (try simp) <;> omega)).trans (by go_simp)
  have c1_0_8 : w1.cell? ⟨w.heap.size, 8, none⟩ = some (.int .i64 gs) := (hc _ _ (by (try simp) <;> omega)).trans (by go_simp)
  have c1_0_9 : w1.cell? ⟨w.heap.size, 9, none⟩ = some (.int .i64 ga) := (hc _ _ (by (try simp) <;> omega)).trans (by go_simp)
  have z1_0 : ∀ j, w1.frozen? ⟨w.heap.size, j, none⟩ = false := fun j => (hf _ _ (by (try simp) <;> omega)).trans (by go_simp)
  have c1_1_0 : w1.cell? ⟨w.heap.size + 1 + 1, 0, none⟩ = some (.int .i64 0) := (hc _ _ (by (try simp) <;> omega)).trans (by go_simp)
  have z1_1 : ∀ j, w1.frozen? ⟨w.heap.size + 1 + 1, j, none⟩ = false := fun j => (hf _ _ (by (try simp) <;> omega)).trans (by go_simp)
  have c1_2_0 : w1.cell? ⟨w.heap.size + 1 + 1 + 1, 0, none⟩ = some (.int .i64 0) := (hc _ _ (by (try simp) <;> omega)).trans (by go_simp)
  have z1_2 : ∀ j, w1.frozen? ⟨w.heap.size + 1 + 1 + 1, j, none⟩ = false := fun j => (hf _ _ (by (try simp) <;> omega)).trans (by go_simp)
  clear hc hf hb1
  go_wp2
  refine bodyPost_ret (v := .tuple #[.int .i64 0, .int .i64 1]) ?_ rfl (firPost_of HE.out rfl ?_)
  · simp [results, Try.results69, go_sem, c1_1_0, c1_2_0]
  · (have hzS := HB1.out.size; (repeat (with_reducible first | exact HB1.out | refine Below.setCell ?_ ?_ _ | refine Below.alloc ?_ ?_ _ | refine Below.drew ?_ | refine bDrewN ?_ _)); all_goals ((try simp) <;> omega))
theorem firstHour_rng1 (bw bs ba sw ss sa so gw gs ga acid m : Int) (f C : Nat) (t : Int → Bool) (w : World) (hv : vatB ⟨⟨bw, bs, ba⟩, ⟨sw, ss, sa, so⟩, ⟨gw, gs, ga⟩⟩ = true) (ha : rngB 1000000000 acid = false) :
    Calls Try.prog 69 #[.agg #[.int .i64 bw, .int .i64 bs, .int .i64 ba, .int .i64 sw, .int .i64 ss, .int .i64 sa, .int .i64 so, .int .i64 gw, .int .i64 gs, .int .i64 ga], .int .i64 acid, .int .i64 m, .func (.func f) #[] #[.pointer (some ⟨C, 0, none⟩)]] w (FirPost t ⟨⟨bw, bs, ba⟩, ⟨sw, ss, sa, so⟩, ⟨gw, gs, ga⟩⟩ acid m w) := by
  have HV : Kp (vatB ⟨⟨bw, bs, ba⟩, ⟨sw, ss, sa, so⟩, ⟨gw, gs, ga⟩⟩ = true) := ⟨hv⟩
  have HA : Kp (allB 1000000000 [acid] = false) := ⟨(allB1 _ _).trans ha⟩
  have HE := Lib.hid (fir_rng (t := t) (acid := acid) (most := m) hv (by rw [ha]; rfl))
  clear hv ha
  go_enter Try.func69, Try.ntmps69
  go_wp2_with fail
  refine (ValidVat_yes bw bs ba sw ss sa so gw gs ga _ HV.out).mono ?_
  rintro e w1 ⟨rfl, hb1⟩
  have HB1 : Kp (Below w.heap.size w w1) := ⟨Below.trans (by repeat (first | refine Below.alloc ?_ (by (try simp) <;> omega) _ | refine bDrewN ?_ _ | refine Below.drew ?_ | exact Below.refl _ _)) (hb1.mono (by (try simp) <;> omega))⟩
  have hz1_0 : w.heap.size < w1.heap.size := by have := hb1.size; (try simp at this); omega
  have hz1_1 : w.heap.size + 1 + 1 < w1.heap.size := by have := hb1.size; (try simp at this); omega
  have hz1_2 : w.heap.size + 1 + 1 + 1 < w1.heap.size := by have := hb1.size; (try simp at this); omega
  obtain ⟨hc, hf⟩ := bcell hb1
  have c1_0_0 : w1.cell? ⟨w.heap.size, 0, none⟩ = some (.int .i64 bw) := (hc _ _ (by (try simp) <;> omega)).trans (by go_simp)
  have c1_0_1 : w1.cell? ⟨w.heap.size, 1, none⟩ = some (.int .i64 bs) := (hc _ _ (by (try simp) <;> omega)).trans (by go_simp)
  have c1_0_2 : w1.cell? ⟨w.heap.size, 2, none⟩ = some (.int .i64 ba) := (hc _ _ (by (try simp) <;> omega)).trans (by go_simp)
  have c1_0_3 : w1.cell? ⟨w.heap.size, 3, none⟩ = some (.int .i64 sw) := (hc _ _ (by (try simp) <;> omega)).trans (by go_simp)
  have c1_0_4 : w1.cell? ⟨w.heap.size, 4, none⟩ = some (.int .i64 ss) := (hc _ _ (by (try simp) <;> omega)).trans (by go_simp)
  have c1_0_5 : w1.cell? ⟨w.heap.size, 5, none⟩ = some (.int .i64 sa) := (hc _ _ (by (try simp) <;> omega)).trans (by go_simp)
  have c1_0_6 : w1.cell? ⟨w.heap.size, 6, none⟩ = some (.int .i64 so) := (hc _ _ (by (try simp) <;> omega)).trans (by go_simp)
  have c1_0_7 : w1.cell? ⟨w.heap.size, 7, none⟩ = some (.int .i64 gw) := (hc _ _ (by (try simp) <;> omega)).trans (by go_simp)
  have c1_0_8 : w1.cell? ⟨w.heap.size, 8, none⟩ = some (.int .i64 gs) := (hc _ _ (by (try simp) <;> omega)).trans (by go_simp)
  have c1_0_9 : w1.cell? ⟨w.heap.size, 9, none⟩ = some (.int .i64 ga) := (hc _ _ (by (try simp) <;> omega)).trans (by go_simp)
  have z1_0 : ∀ j, w1.frozen? ⟨w.heap.size, j, none⟩ = false := fun j => (hf _ _ (by (try simp) <;> omega)).trans (by go_simp)
  have c1_1_0 : w1.cell? ⟨w.heap.size + 1 + 1, 0, none⟩ = some (.int .i64 0) := (hc _ _ (by (try simp) <;> omega)).trans (by go_simp)
  have z1_1 : ∀ j, w1.frozen? ⟨w.heap.size + 1 + 1, j, none⟩ = false := fun j => (hf _ _ (by (try simp) <;> omega)).trans (by go_simp)
  have c1_2_0 : w1.cell? ⟨w.heap.size + 1 + 1 + 1, 0, none⟩ = some (.int .i64 0) := (hc _ _ (by (try simp) <;> omega)).trans (by go_simp)
  have z1_2 : ∀ j, w1.frozen? ⟨w.heap.size + 1 + 1 + 1, j, none⟩ = false := fun j => (hf _ _ (by (try simp) <;> omega)).trans (by go_simp)
  clear hc hf hb1
  go_wp2_with fail
  refine (within_any 1000000000 [acid] _ _ (by simp) ?_).mono ?_
  · intro k h
    obtain rfl : k = 0 := by simp at h; omega
    first | (simp; done) | (simp; go_simp; done) | (go_simp; done)
  rw [HA.out]
  rintro e w2 ⟨rfl, rfl⟩
  go_wp2
  refine bodyPost_ret (v := .tuple #[.int .i64 0, .int .i64 7]) ?_ rfl (firPost_of HE.out rfl ?_)
  · simp [results, Try.results69, go_sem, c1_1_0, c1_2_0, hz1_1, hz1_2]
  · (have hzS := HB1.out.size; (repeat (with_reducible first | exact HB1.out | refine Below.setCell ?_ ?_ _ | refine Below.alloc ?_ ?_ _ | refine Below.drew ?_ | refine bDrewN ?_ _)); all_goals ((try simp) <;> omega))
theorem firstHour_rng2 (bw bs ba sw ss sa so gw gs ga acid m : Int) (f C : Nat) (t : Int → Bool) (w : World) (hv : vatB ⟨⟨bw, bs, ba⟩, ⟨sw, ss, sa, so⟩, ⟨gw, gs, ga⟩⟩ = true) (ha : rngB 1000000000 acid = true) (hm : rngB 10000 m = false) :
    Calls Try.prog 69 #[.agg #[.int .i64 bw, .int .i64 bs, .int .i64 ba, .int .i64 sw, .int .i64 ss, .int .i64 sa, .int .i64 so, .int .i64 gw, .int .i64 gs, .int .i64 ga], .int .i64 acid, .int .i64 m, .func (.func f) #[] #[.pointer (some ⟨C, 0, none⟩)]] w (FirPost t ⟨⟨bw, bs, ba⟩, ⟨sw, ss, sa, so⟩, ⟨gw, gs, ga⟩⟩ acid m w) := by
  have HV : Kp (vatB ⟨⟨bw, bs, ba⟩, ⟨sw, ss, sa, so⟩, ⟨gw, gs, ga⟩⟩ = true) := ⟨hv⟩
  have HA : Kp (allB 1000000000 [acid] = true) := ⟨(allB1 _ _).trans ha⟩
  have HM : Kp (allB 10000 [m] = false) := ⟨(allB1 _ _).trans hm⟩
  have HE := Lib.hid (fir_rng (t := t) (acid := acid) (most := m) hv (by rw [hm, Bool.and_false]))
  clear hv ha hm
  go_enter Try.func69, Try.ntmps69
  go_wp2_with fail
  refine (ValidVat_yes bw bs ba sw ss sa so gw gs ga _ HV.out).mono ?_
  rintro e w1 ⟨rfl, hb1⟩
  have HB1 : Kp (Below w.heap.size w w1) := ⟨Below.trans (by repeat (first | refine Below.alloc ?_ (by (try simp) <;> omega) _ | refine bDrewN ?_ _ | refine Below.drew ?_ | exact Below.refl _ _)) (hb1.mono (by (try simp) <;> omega))⟩
  have hz1_0 : w.heap.size < w1.heap.size := by have := hb1.size; (try simp at this); omega
  have hz1_1 : w.heap.size + 1 + 1 < w1.heap.size := by have := hb1.size; (try simp at this); omega
  have hz1_2 : w.heap.size + 1 + 1 + 1 < w1.heap.size := by have := hb1.size; (try simp at this); omega
  obtain ⟨hc, hf⟩ := bcell hb1
  have c1_0_0 : w1.cell? ⟨w.heap.size, 0, none⟩ = some (.int .i64 bw) := (hc _ _ (by (try simp) <;> omega)).trans (by go_simp)
  have c1_0_1 : w1.cell? ⟨w.heap.size, 1, none⟩ = some (.int .i64 bs) := (hc _ _ (by (try simp) <;> omega)).trans (by go_simp)
  have c1_0_2 : w1.cell? ⟨w.heap.size, 2, none⟩ = some (.int .i64 ba) := (hc _ _ (by (try simp) <;> omega)).trans (by go_simp)
  have c1_0_3 : w1.cell? ⟨w.heap.size, 3, none⟩ = some (.int .i64 sw) := (hc _ _ (by (try simp) <;> omega)).trans (by go_simp)
  have c1_0_4 : w1.cell? ⟨w.heap.size, 4, none⟩ = some (.int .i64 ss) := (hc _ _ (by (try simp) <;> omega)).trans (by go_simp)
  have c1_0_5 : w1.cell? ⟨w.heap.size, 5, none⟩ = some (.int .i64 sa) := (hc _ _ (by (try simp) <;> omega)).trans (by go_simp)
  have c1_0_6 : w1.cell? ⟨w.heap.size, 6, none⟩ = some (.int .i64 so) := (hc _ _ (by (try simp) <;> omega)).trans (by go_simp)
  have c1_0_7 : w1.cell? ⟨w.heap.size, 7, none⟩ = some (.int .i64 gw) := (hc _ _ (by (try simp) <;> omega)).trans (by go_simp)
  have c1_0_8 : w1.cell? ⟨w.heap.size, 8, none⟩ = some (.int .i64 gs) := (hc _ _ (by (try simp) <;> omega)).trans (by go_simp)
  have c1_0_9 : w1.cell? ⟨w.heap.size, 9, none⟩ = some (.int .i64 ga) := (hc _ _ (by (try simp) <;> omega)).trans (by go_simp)
  have z1_0 : ∀ j, w1.frozen? ⟨w.heap.size, j, none⟩ = false := fun j => (hf _ _ (by (try simp) <;> omega)).trans (by go_simp)
  have c1_1_0 : w1.cell? ⟨w.heap.size + 1 + 1, 0, none⟩ = some (.int .i64 0) := (hc _ _ (by (try simp) <;> omega)).trans (by go_simp)
  have z1_1 : ∀ j, w1.frozen? ⟨w.heap.size + 1 + 1, j, none⟩ = false := fun j => (hf _ _ (by (try simp) <;> omega)).trans (by go_simp)
  have c1_2_0 : w1.cell? ⟨w.heap.size + 1 + 1 + 1, 0, none⟩ = some (.int .i64 0) := (hc _ _ (by (try simp) <;> omega)).trans (by go_simp)
  have z1_2 : ∀ j, w1.frozen? ⟨w.heap.size + 1 + 1 + 1, j, none⟩ = false := fun j => (hf _ _ (by (try simp) <;> omega)).trans (by go_simp)
  clear hc hf hb1
  have hq1 : w.heap.size + 1 + 1 < w1.heap.size + 1 := by omega
  have hq2 : w.heap.size + 1 + 1 + 1 < w1.heap.size + 1 := by omega
  go_wp2_with fail
  refine (within_any 1000000000 [acid] _ _ (by simp) ?_).mono ?_
  · intro k h
    obtain rfl : k = 0 := by simp at h; omega
    first | (simp; done) | (simp; go_simp; done) | (go_simp; done)
  rw [HA.out]
  rintro e w2 ⟨rfl, rfl⟩
  go_wp2_with fail
  refine (within_any 10000 [m] _ _ (by simp) ?_).mono ?_
  · intro k h
    obtain rfl : k = 0 := by simp at h; omega
    first | (simp; done) | (simp; go_simp; done) | (go_simp; done)
  rw [HM.out]
  rintro e w2 ⟨rfl, rfl⟩
  go_wp2
  refine bodyPost_ret (v := .tuple #[.int .i64 0, .int .i64 7]) ?_ rfl (firPost_of HE.out rfl ?_)
  · simp [results, Try.results69, go_sem, c1_1_0, c1_2_0, hz1_1, hz1_2, hq1, hq2]
  · (have hzS := HB1.out.size; (repeat (with_reducible first | exact HB1.out | refine Below.setCell ?_ ?_ _ | refine Below.alloc ?_ ?_ _ | refine Below.drew ?_ | refine bDrewN ?_ _)); all_goals ((try simp) <;> omega))
theorem first_start {w w1 W0 : World} {Z f C : Nat} {bw bs ba sw ss sa so gw gs ga acid : Int} {m : Nat} (hB : Below w.heap.size w w1) (h4 : Z + 3 < w1.heap.size)
    (c7 : w1.cell? ⟨Z + 1, 0, none⟩ = some (.func (.func f) #[] #[.pointer (some ⟨C, 0, none⟩)])) (c8 : w1.cell? ⟨Z + 1 + 1, 0, none⟩ = some (.int .i64 0)) (c9 : w1.cell? ⟨Z + 1 + 1 + 1, 0, none⟩ = some (.int .i64 0))
    (z8 : w1.frozen? ⟨Z + 1 + 1, 0, none⟩ = false) (z9 : w1.frozen? ⟨Z + 1 + 1 + 1, 0, none⟩ = false) (h : ((((w1.alloc (.cells #[.int .i64 acid] 3)).alloc (.cells #[.int .i64 m] 3)).alloc (.cells #[.int .i64 bw, .int .i64 bs, .int .i64 ba, .int .i64 sw, .int .i64 ss, .int .i64 sa, .int .i64 so, .int .i64 gw, .int .i64 gs, .int .i64 ga] 27)).alloc (.cells #[.int .i64 m] 3)) = W0) :
    W0.heap.size = w1.heap.size + 4 ∧ FirI w Z (.func (.func f) #[] #[.pointer (some ⟨C, 0, none⟩)]) 0 0 W0 ∧ VatAt W0 (w1.heap.size + 1 + 1) ⟨⟨bw, bs, ba⟩, ⟨sw, ss, sa, so⟩, ⟨gw, gs, ga⟩⟩ ∧ W0.cell? ⟨w1.heap.size + 1 + 1 + 1, 0, none⟩ = some (.int .i64 m) := by
  have hb : Below w1.heap.size w1 W0 := by rw [← h]; exact ((((Below.refl _ _).alloc (Nat.le_refl _) _).alloc (by simp) _).alloc (by simp; omega) _).alloc (by simp; omega) _
  have f0 : FirI w Z (.func (.func f) #[] #[.pointer (some ⟨C, 0, none⟩)]) 0 0 w1 := ⟨hB, c7, c8, c9, z8, z9⟩
  refine ⟨by rw [← h]; simp, f0.same (hB.trans (hb.mono (by have := hB.size; omega))) (hb.block _ (by omega)) (hb.block _ (by omega)) (hb.block _ (by omega)), ?_, ?_⟩
  · subst h; clear hb f0; constructor <;> (try intro j) <;> go_simp
  · subst h; clear hb f0; go_simp
set_option maxRecDepth 100000 in
set_option maxHeartbeats 8000000 in
theorem firstHour_in (bw bs ba sw ss sa so gw gs ga acid : Int) (m f C : Nat) (t : Int → Bool) (w : World) (hv : vatB ⟨⟨bw, bs, ba⟩, ⟨sw, ss, sa, so⟩, ⟨gw, gs, ga⟩⟩ = true) (ha : rngB 1000000000 acid = true) (hm : m ≤ 10000) (hf : AskC t f C w) (hfe : ∀ args W, (callFunc f args).run Try.prog W = .ok (.enter f args) W) :
    Calls Try.prog 69 #[.agg #[.int .i64 bw, .int .i64 bs, .int .i64 ba, .int .i64 sw, .int .i64 ss, .int .i64 sa, .int .i64 so, .int .i64 gw, .int .i64 gs, .int .i64 ga], .int .i64 acid, .int .i64 m, .func (.func f) #[] #[.pointer (some ⟨C, 0, none⟩)]] w (FirPost t ⟨⟨bw, bs, ba⟩, ⟨sw, ss, sa, so⟩, ⟨gw, gs, ga⟩⟩ acid m w) := by
  have HV : Kp (vatB ⟨⟨bw, bs, ba⟩, ⟨sw, ss, sa, so⟩, ⟨gw, gs, ga⟩⟩ = true) := ⟨hv⟩
  have hm' : rngB 10000 (m : Int) = true := rng_yes (by omega) (by omega)
  have HR : Kp ((rngB 1000000000 acid && rngB 10000 (m : Int)) = true) := ⟨by rw [ha, hm']; rfl⟩
  have HA : Kp (allB 1000000000 [acid] = true) := ⟨(allB1 _ _).trans ha⟩
  have HM : Kp (allB 10000 [(m : Int)] = true) := ⟨(allB1 _ _).trans hm'⟩
  have HF := Lib.hid hf
  obtain ⟨Z, hZ⟩ : ∃ Z, w.heap.size = Z := ⟨_, rfl⟩
  have HZ : Kp (w.heap.size = Z) := ⟨hZ⟩
  clear hv ha hm' hf hZ
  refine (callsIn_wide (n := 6)).1 ?_
  refine callsIn_of_wp_marks Try.func69 rfl trivial ?_ rfl
  simp only [Try.ntmps69, List.size_toArray, List.length_cons, List.length_nil, Nat.reduceAdd, Nat.reduceSub, Array.replicate_succ, Array.replicate_zero, List.push_toArray, List.append_toArray, List.nil_append, List.cons_append]
  gi_wp2_with fail
  refine ⟨trivial, (callsIn_wide.2 (ValidVat_yes bw bs ba sw ss sa so gw gs ga _ HV.out)).mono ?_⟩
  rintro e w1 ⟨rfl, hb1⟩
  have c7 : w1.cell? ⟨w.heap.size + 1, 0, none⟩ = some (.func (.func f) #[] #[.pointer (some ⟨C, 0, none⟩)]) := ((bcell hb1).1 _ _ (by (try simp) <;> omega)).trans (by go_simp)
  have HB1 : Kp (Below w.heap.size w w1) := ⟨Below.trans (by repeat (first | refine Below.alloc ?_ (by (try simp) <;> omega) _ | refine bDrewN ?_ _ | refine Below.drew ?_ | exact Below.refl _ _)) (hb1.mono (by (try simp) <;> omega))⟩
  have hz1_0 : w.heap.size < w1.heap.size := by have := hb1.size; (try simp at this); omega
  have hz1_1 : w.heap.size + 1 + 1 < w1.heap.size := by have := hb1.size; (try simp at this); omega
  have hz1_2 : w.heap.size + 1 + 1 + 1 < w1.heap.size := by have := hb1.size; (try simp at this); omega
  obtain ⟨hc, hf⟩ := bcell hb1
  have c1_0_0 : w1.cell? ⟨w.heap.size, 0, none⟩ = some (.int .i64 bw) := (hc _ _ (by (try simp) <;> omega)).trans (by go_simp)
  have c1_0_1 : w1.cell? ⟨w.heap.size, 1, none⟩ = some (.int .i64 bs) := (hc _ _ (by (try simp) <;> omega)).trans (by go_simp)
  have c1_0_2 : w1.cell? ⟨w.heap.size, 2, none⟩ = some (.int .i64 ba) := (hc _ _ (by (try simp) <;> omega)).trans (by go_simp)
  have c1_0_3 : w1.cell? ⟨w.heap.size, 3, none⟩ = some (.int .i64 sw) := (hc _ _ (by (try simp) <;> omega)).trans (by go_simp)
  have c1_0_4 : w1.cell? ⟨w.heap.size, 4, none⟩ = some (.int .i64 ss) := (hc _ _ (by (try simp) <;> omega)).trans (by go_simp)
  have c1_0_5 : w1.cell? ⟨w.heap.size, 5, none⟩ = some (.int .i64 sa) := (hc _ _ (by (try simp) <;> omega)).trans (by go_simp)
  have c1_0_6 : w1.cell? ⟨w.heap.size, 6, none⟩ = some (.int .i64 so) := (hc _ _ (by (try simp) <;> omega)).trans (by go_simp)
  have c1_0_7 : w1.cell? ⟨w.heap.size, 7, none⟩ = some (.int .i64 gw) := (hc _ _ (by (try simp) <;> omega)).trans (by go_simp)
  have c1_0_8 : w1.cell? ⟨w.heap.size, 8, none⟩ = some (.int .i64 gs) := (hc _ _ (by (try simp) <;> omega)).trans (by go_simp)
  have c1_0_9 : w1.cell? ⟨w.heap.size, 9, none⟩ = some (.int .i64 ga) := (hc _ _ (by (try simp) <;> omega)).trans (by go_simp)
  have z1_0 : ∀ j, w1.frozen? ⟨w.heap.size, j, none⟩ = false := fun j => (hf _ _ (by (try simp) <;> omega)).trans (by go_simp)
  have c1_1_0 : w1.cell? ⟨w.heap.size + 1 + 1, 0, none⟩ = some (.int .i64 0) := (hc _ _ (by (try simp) <;> omega)).trans (by go_simp)
  have z1_1 : ∀ j, w1.frozen? ⟨w.heap.size + 1 + 1, j, none⟩ = false := fun j => (hf _ _ (by (try simp) <;> omega)).trans (by go_simp)
  have c1_2_0 : w1.cell? ⟨w.heap.size + 1 + 1 + 1, 0, none⟩ = some (.int .i64 0) := (hc _ _ (by (try simp) <;> omega)).trans (by go_simp)
  have z1_2 : ∀ j, w1.frozen? ⟨w.heap.size + 1 + 1 + 1, j, none⟩ = false := fun j => (hf _ _ (by (try simp) <;> omega)).trans (by go_simp)
  clear hc hf hb1
  gi_wp2_with fail
  refine ⟨trivial, (callsIn_wide.2 (within_any 1000000000 [acid] _ _ (by simp) ?_)).mono ?_⟩
  · intro k h
    obtain rfl : k = 0 := by simp at h; omega
    first | (simp; done) | (simp; go_simp; done) | (go_simp; done)
  rw [HA.out]
  rintro e w2 ⟨rfl, rfl⟩
  gi_wp2_with fail
  refine ⟨trivial, (callsIn_wide.2 (within_any 10000 [(m : Int)] _ _ (by simp) ?_)).mono ?_⟩
  · intro k h
    obtain rfl : k = 0 := by simp at h; omega
    first | (simp; done) | (simp; go_simp; done) | (go_simp; done)
  rw [HM.out]
  rintro e w2 ⟨rfl, rfl⟩
  gi_wp2_with fail
  refine ⟨trivial, (callsIn_wide.2 (hourly_any bw bs ba sw ss sa so gw gs ga m _)).mono ?_⟩
  rintro e W0 ⟨rfl, hW0⟩
  obtain ⟨s3, s0, s1, s2⟩ := first_start (f := f) (C := C) (acid := acid) (m := m) (Z := w.heap.size) HB1.out (by omega) c7 c1_1_0 c1_2_0 (z1_1 0) (z1_2 0) hW0
  rw [HZ.out] at s0
  obtain ⟨Y, hY⟩ : ∃ Y, w1.heap.size = Y := ⟨_, rfl⟩
  have hZY : Z + 3 < Y := by have := HZ.out; omega
  rw [hY] at s1 s2 s3
  have HS : Kp (W0.heap.size = Y + 4) := ⟨s3⟩
  have HY : Kp (w1.heap.size = Y) := ⟨hY⟩
  have HI : Kp (FirI w Z (.func (.func f) #[] #[.pointer (some ⟨C, 0, none⟩)]) 0 0 W0) := ⟨s0⟩
  have HAv : Kp (VatAt W0 (Y + 1 + 1) ⟨⟨bw, bs, ba⟩, ⟨sw, ss, sa, so⟩, ⟨gw, gs, ga⟩⟩) := ⟨s1⟩
  have HAm : Kp (W0.cell? ⟨Y + 1 + 1 + 1, 0, none⟩ = some (.int .i64 m)) := ⟨s2⟩
  clear hW0 s0 s1 s2 s3 c1_0_0 c1_0_1 c1_0_2 c1_0_3 c1_0_4 c1_0_5 c1_0_6 c1_0_7 c1_0_8 c1_0_9 c1_1_0 c1_2_0 z1_0 z1_1 z1_2 c7 hY hz1_0 hz1_1 hz1_2
  gi_wp2
  simp only [HY.out, HZ.out]
  refine wpIn_yieldsS (enc := encH) rfl (by omega) (gf := 89) (lb := #[.pointer (some ⟨Y + 1 + 1, 0, none⟩), .pointer (some ⟨Y + 1 + 1 + 1, 0, none⟩)]) rfl trivial (enters_of Try.func89 (by kernel_rfl) rfl) (fun _ => rfl)
    (hourly_yields 5 (by omega) (Y + 1 + 1) (Y + 1 + 1 + 1) ⟨⟨bw, bs, ba⟩, ⟨sw, ss, sa, so⟩, ⟨gw, gs, ga⟩⟩ m W0 HV.out hm HAv.out HAm.out) Keep1.trans (fun W l o o' _ h1 h2 _ => Keep1.putObj _ W l o o' h1 h2)
    (fun pre W => FirI w Z (.func (.func f) #[] #[.pointer (some ⟨C, 0, none⟩)]) 0 0 W ∧ Kp (∀ y ∈ pre, t y.2.s.a = false)) (fun ys W => ∃ pre x, ys = pre ++ [x] ∧ Kp (∀ y ∈ pre, t y.2.s.a = false) ∧ Kp (t x.2.s.a = true) ∧ FirI w Z (.func (.func f) #[] #[.pointer (some ⟨C, 0, none⟩)]) (x.1 : Int) 0 W)
    (fun s X Y' row h g hr => ⟨FirI.abide (by rw [HS.out]; have := HZ.out; omega) (by rw [HS.out]; omega) X Y' row h.1 g hr, h.2⟩)
    (fun s X Y' row h g hr => by
      obtain ⟨pre, x, h1, h2, h3, h4⟩ := h
      exact ⟨pre, x, h1, h2, h3, FirI.abide (by rw [HS.out]; have := HZ.out; omega) (by rw [HS.out]; omega) X Y' row h4 g hr⟩) ⟨HI.out, ⟨fun y hy => by cases hy⟩⟩
    (fun pre x a' W => FirI w Z (.func (.func f) #[] #[.pointer (some ⟨C, 0, none⟩)]) 0 0 W ∧ Kp (∀ y ∈ pre, t y.2.s.a = false) ∧ ∃ Nb, Y + 6 < Nb ∧ VatAt W Nb x.2 ∧ a' = { tmps := #[.agg #[.int .i64 bw, .int .i64 bs, .int .i64 ba, .int .i64 sw, .int .i64 ss, .int .i64 sa, .int .i64 so, .int .i64 gw, .int .i64 gs, .int .i64 ga], .int .i64 acid, .int .i64 m, .func (.func f) #[] #[.pointer (some ⟨C, 0, none⟩)], .pointer (some ⟨Z, 0, none⟩), undef, undef, .pointer (some ⟨Z + 1, 0, none⟩), .pointer (some ⟨Z + 1 + 1, 0, none⟩), .pointer (some ⟨Z + 1 + 1 + 1, 0, none⟩), .int .i64 (x.1 : Int), .pointer (some ⟨Nb, 0, none⟩), .agg #[.int .i64 bw, .int .i64 bs, .int .i64 ba, .int .i64 sw, .int .i64 ss, .int .i64 sa, .int .i64 so, .int .i64 gw, .int .i64 gs, .int .i64 ga], .bool true, .bool false, .int .i64 acid, .slice (some ⟨Y, 0, none⟩) 1 1, .bool true, .bool false, .bool false, .int .i64 m, .slice (some ⟨Y + 1, 0, none⟩) 1 1, .bool true, .bool false, .bool false, .agg #[.int .i64 bw, .int .i64 bs, .int .i64 ba, .int .i64 sw, .int .i64 ss, .int .i64 sa, .int .i64 so, .int .i64 gw, .int .i64 gs, .int .i64 ga], .int .i64 m, .func (.func 89) #[] #[.pointer (some ⟨Y + 1 + 1, 0, none⟩), .pointer (some ⟨Y + 1 + 1 + 1, 0, none⟩)], .int .i64 (x.1 : Int), .agg #[.int .i64 x.2.b.w, .int .i64 x.2.b.s, .int .i64 x.2.b.a, .int .i64 x.2.s.w, .int .i64 x.2.s.s, .int .i64 x.2.s.a, .int .i64 x.2.s.o, .int .i64 x.2.g.w, .int .i64 x.2.g.s, .int .i64 x.2.g.a], undef, undef, undef, undef, undef, undef], defers := [] })
    ?ax ?assign ?body ?done ?stop
  case ax =>
    rintro pre x a' X Y' row ⟨hi, hp, Nb, hNb, hx, ha⟩ g hr
    exact ⟨FirI.abide (by rw [HS.out]; have := HZ.out; omega) (by rw [HS.out]; omega) X Y' row hi g hr, hp, Nb, hNb, vatAt_abide hx g hr (by rw [HS.out]; omega), ha⟩
  case assign =>
    rintro l pre ⟨h, u⟩ W ⟨hi, hp⟩ _ hsz
    rw [HS.out] at hsz
    have HII : Kp (FirI w Z (.func (.func f) #[] #[.pointer (some ⟨C, 0, none⟩)]) 0 0 W) := ⟨hi⟩
    clear hi
    have ez : ((#[28, 29] : Array Tmp).zip (encH (h, u))).foldl (fun tmps (q : Tmp × Value) => tmps.setIfInBounds q.1 q.2) #[.agg #[.int .i64 bw, .int .i64 bs, .int .i64 ba, .int .i64 sw, .int .i64 ss, .int .i64 sa, .int .i64 so, .int .i64 gw, .int .i64 gs, .int .i64 ga], .int .i64 acid, .int .i64 m, .func (.func f) #[] #[.pointer (some ⟨C, 0, none⟩)], .pointer (some ⟨Z, 0, none⟩), undef, undef, .pointer (some ⟨Z + 1, 0, none⟩), .pointer (some ⟨Z + 1 + 1, 0, none⟩), .pointer (some ⟨Z + 1 + 1 + 1, 0, none⟩), undef, undef, .agg #[.int .i64 bw, .int .i64 bs, .int .i64 ba, .int .i64 sw, .int .i64 ss, .int .i64 sa, .int .i64 so, .int .i64 gw, .int .i64 gs, .int .i64 ga], .bool true, .bool false, .int .i64 acid, .slice (some ⟨Y, 0, none⟩) 1 1, .bool true, .bool false, .bool false, .int .i64 m, .slice (some ⟨Y + 1, 0, none⟩) 1 1, .bool true, .bool false, .bool false, .agg #[.int .i64 bw, .int .i64 bs, .int .i64 ba, .int .i64 sw, .int .i64 ss, .int .i64 sa, .int .i64 so, .int .i64 gw, .int .i64 gs, .int .i64 ga], .int .i64 m, .func (.func 89) #[] #[.pointer (some ⟨Y + 1 + 1, 0, none⟩), .pointer (some ⟨Y + 1 + 1 + 1, 0, none⟩)], undef, undef, undef, undef, undef, undef, undef, undef] = #[.agg #[.int .i64 bw, .int .i64 bs, .int .i64 ba, .int .i64 sw, .int .i64 ss, .int .i64 sa, .int .i64 so, .int .i64 gw, .int .i64 gs, .int .i64 ga], .int .i64 acid, .int .i64 m, .func (.func f) #[] #[.pointer (some ⟨C, 0, none⟩)], .pointer (some ⟨Z, 0, none⟩), undef, undef, .pointer (some ⟨Z + 1, 0, none⟩), .pointer (some ⟨Z + 1 + 1, 0, none⟩), .pointer (some ⟨Z + 1 + 1 + 1, 0, none⟩), undef, undef, .agg #[.int .i64 bw, .int .i64 bs, .int .i64 ba, .int .i64 sw, .int .i64 ss, .int .i64 sa, .int .i64 so, .int .i64 gw, .int .i64 gs, .int .i64 ga], .bool true, .bool false, .int .i64 acid, .slice (some ⟨Y, 0, none⟩) 1 1, .bool true, .bool false, .bool false, .int .i64 m, .slice (some ⟨Y + 1, 0, none⟩) 1 1, .bool true, .bool false, .bool false, .agg #[.int .i64 bw, .int .i64 bs, .int .i64 ba, .int .i64 sw, .int .i64 ss, .int .i64 sa, .int .i64 so, .int .i64 gw, .int .i64 gs, .int .i64 ga], .int .i64 m, .func (.func 89) #[] #[.pointer (some ⟨Y + 1 + 1, 0, none⟩), .pointer (some ⟨Y + 1 + 1 + 1, 0, none⟩)], .int .i64 (h : Int), .agg #[.int .i64 u.b.w, .int .i64 u.b.s, .int .i64 u.b.a, .int .i64 u.s.w, .int .i64 u.s.s, .int .i64 u.s.a, .int .i64 u.s.o, .int .i64 u.g.w, .int .i64 u.g.s, .int .i64 u.g.a], undef, undef, undef, undef, undef, undef] := by simp [encH]
    rw [ez]
    clear ez
    gi_wp2
    refine ⟨alloc_keeps _ _ _, alloc_keep1 _ _ _, FirI.abide (B := W0.heap.size) (by rw [HS.out]; have := HZ.out; omega) (by rw [HS.out]; omega) W _ none HII.out (World.grownBy_alloc _ _ none) (fun r e => by cases e), hp, W.heap.size, by omega, ?_, rfl⟩
    constructor <;> (try intro j) <;> go_simp
  case body =>
    rintro l pre ⟨h, u⟩ a' W ⟨hi, hp, Nb, hNb, hx, rfl⟩ _ hsz
    have HII : Kp (FirI w Z (.func (.func f) #[] #[.pointer (some ⟨C, 0, none⟩)]) 0 0 W) := ⟨hi⟩
    have hx5 := hx.c5
    have h7 := hi.c7
    have h8 := hi.c8
    have h9 := hi.c9
    have z8 := hi.z8
    have z9 := hi.z9
    have l8 := World.block_lt_of_cell? _ _ h8
    have l9 := World.block_lt_of_cell? _ _ h9
    have g8 : FirI w Z (.func (.func f) #[] #[.pointer (some ⟨C, 0, none⟩)]) (h : Int) 0 ((W.setCell ⟨Z + 1 + 1, 0, none⟩ (.int .i64 (h : Int))).setCell ⟨Z + 1 + 1 + 1, 0, none⟩ (.int .i64 0)) := by
      refine ⟨(hi.below.setCell (by have := HZ.out; simp; omega) _).setCell (by have := HZ.out; simp; omega) _, ?_, ?_, ?_, ?_, ?_⟩ <;> simp [go_sem, h7, h8, h9, z8, z9]
    have kf : KeepsFrom W0.heap.size W ((W.setCell ⟨Z + 1 + 1, 0, none⟩ (.int .i64 (h : Int))).setCell ⟨Z + 1 + 1 + 1, 0, none⟩ (.int .i64 0)) :=
      (KeepsFrom.of_grownBy (setCell_grown W (Z + 1 + 1) 0 _) (fun j e => by simp only [Option.some.injEq] at e; rw [HS.out]; omega)).trans (KeepsFrom.of_grownBy (setCell_grown _ (Z + 1 + 1 + 1) 0 _) (fun j e => by simp only [Option.some.injEq] at e; rw [HS.out]; omega))
    have HG8 := Kp.mk g8
    have HKF := Kp.mk kf
    have HQ : Kp _ := ⟨HF.out u.s.a W hi.below⟩
    simp only at hx5
    clear hi hx g8 kf l8 l9
    gi_wp2_with fail
    refine ⟨trivial, (callsIn_wide.2 HQ.out).mono ?_⟩
    rintro e w4 ⟨rfl, rfl⟩
    cases ht : t u.s.a with
    | true =>
      have HT : Kp (t u.s.a = true) := ⟨ht⟩
      clear ht
      gi_wp2
      exact ⟨HKF.out, pre, (h, u), rfl, hp, HT, HG8.out⟩
    | false =>
      have HT : Kp (∀ y ∈ pre ++ [(h, u)], t y.2.s.a = false) := ⟨fun y hy => by
        rcases List.mem_append.1 hy with h1 | h1
        · exact hp.out y h1
        · rw [List.mem_singleton.1 h1]; exact ht⟩
      clear ht
      gi_wp2
      exact ⟨KeepsFrom.refl _ _, Keep1.refl _ _, HII.out, HT⟩
  case done =>
    rintro D W hD ⟨hi, hp⟩ hd
    have HE := Lib.hid (fir_none (acid := acid) HV.out HR.out (first_none hp.out))
    have h7 := hi.c7
    have h8 := hi.c8
    have h9 := hi.c9
    have z8 := hi.z8
    have z9 := hi.z9
    have g8 : FirI w Z (.func (.func f) #[] #[.pointer (some ⟨C, 0, none⟩)]) 0 8 ((W.setCell ⟨Z + 1 + 1, 0, none⟩ (.int .i64 0)).setCell ⟨Z + 1 + 1 + 1, 0, none⟩ (.int .i64 8)) := by
      refine ⟨(hi.below.setCell (by have := HZ.out; simp; omega) _).setCell (by have := HZ.out; simp; omega) _, ?_, ?_, ?_, ?_, ?_⟩ <;> simp [go_sem, h7, h8, h9, z8, z9]
    have hd2 : ((W.setCell ⟨Z + 1 + 1, 0, none⟩ (.int .i64 0)).setCell ⟨Z + 1 + 1 + 1, 0, none⟩ (.int .i64 8)).heap[D]? = some (.deferred (some [])) :=
      (Below.heap_setCell _ _ _ _ (by rw [HS.out] at hD; simp; omega)).trans ((Below.heap_setCell _ _ _ _ (by rw [HS.out] at hD; simp; omega)).trans hd)
    have g9 := FirI.abide (B := W0.heap.size) (by rw [HS.out]; have := HZ.out; omega) (by rw [HS.out]; omega) _ _ (some D) g8 (grownBy_putObj' _ D (.deferred none)) (fun r e => by cases e; exact .inr ⟨hD, _, hd2, rfl⟩)
    have HG9 := Kp.mk g9
    have HD2 := Kp.mk hd2
    clear hi hd g8 hd2 g9
    gi_wp2
    refine ⟨by simp, .inl ⟨_, _, rfl, run_takeDeferred HD2.out, ?_⟩⟩
    have e8 := HG9.out.c8
    have e9 := HG9.out.c9
    exact ⟨.tuple #[.int .i64 0, .int .i64 8], by simp [results, Try.results69, go_sem, e8, e9], firPost_of HE.out rfl HG9.out.below⟩
  case stop =>
    rintro D ys W hD hys ⟨pre, x, rfl, hp, hx, hi⟩ hd
    have HE := Lib.hid (fir_some (acid := acid) HV.out HR.out (first_some hys hp.out hx.out))
    have g9 := FirI.abide (B := W0.heap.size) (by rw [HS.out]; have := HZ.out; omega) (by rw [HS.out]; omega) _ _ (some D) hi (grownBy_putObj' _ D (.deferred none)) (fun r e => by cases e; exact .inr ⟨hD, _, hd, rfl⟩)
    have HG9 := Kp.mk g9
    have HD2 := Kp.mk hd
    clear hi hd g9
    gi_wp2
    refine ⟨by simp, .inl ⟨_, _, rfl, run_takeDeferred HD2.out, ?_⟩⟩
    have e8 := HG9.out.c8
    have e9 := HG9.out.c9
    exact ⟨.tuple #[.int .i64 (x.1 : Int), .int .i64 0], by simp [results, Try.results69, go_sem, e8, e9], firPost_of HE.out rfl HG9.out.below⟩
end Go.Proofs.Ytakldbpfdoeimaa.Bt
