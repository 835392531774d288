/-
  WALKS (layer 7, scene): the program's Raised at every ground and number.
-/
import Derived.Test.YtjnggchljilooaaScRais
import Derived.Test.YtjnggchljilooaaScRaisI
namespace Go.Proofs.Ytjnggchljilooaa.Sc
open Go Go.RowKit Go.Sort

theorem foldl_min_ge (L : List Int) : ∀ a lo : Int, lo ≤ L.foldl min a ↔ lo ≤ a ∧ ∀ x ∈ L, lo ≤ x := by
  induction L with
  | nil => intro a lo; simp
  | cons z L ih =>
    intro a lo
    rw [List.foldl_cons, ih, Int.le_min, and_assoc]
    simp only [List.mem_cons, forall_eq_or_imp]
theorem foldl_max_le (L : List Int) : ∀ a hi : Int, L.foldl max a ≤ hi ↔ a ≤ hi ∧ ∀ x ∈ L, x ≤ hi := by
  induction L with
  | nil => intro a hi; simp
  | cons z L ih =>
    intro a hi
    rw [List.foldl_cons, ih, Int.max_le, and_assoc]
    simp only [List.mem_cons, forall_eq_or_imp]
theorem minOf_ge {L : List Int} {lo : Int} (h0 : 0 < L.length) : lo ≤ Lib.minOf L ↔ ∀ x ∈ L, lo ≤ x := by
  unfold Lib.minOf
  rw [foldl_min_ge]
  refine ⟨fun h => h.2, fun h => ⟨?_, h⟩⟩
  cases L with
  | nil => simp at h0
  | cons z L => exact h z List.mem_cons_self
theorem maxOf_le {L : List Int} {hi : Int} (h0 : 0 < L.length) : Lib.maxOf L ≤ hi ↔ ∀ x ∈ L, x ≤ hi := by
  unfold Lib.maxOf
  rw [foldl_max_le]
  refine ⟨fun h => h.2, fun h => ⟨?_, h⟩⟩
  cases L with
  | nil => simp at h0
  | cons z L => exact h z List.mem_cons_self
theorem allIn_iff {lo hi : Int} {L : List Int} : allIn lo hi L = true ↔ ∀ x ∈ L, lo ≤ x ∧ x ≤ hi := by simp [allIn]
theorem gd_len {wd dp : Int} {L : List Int} (h : gdB wd dp L = true) : 0 < L.length ∧ L.length ≤ 576 := by
  obtain ⟨⟨a1, a2⟩, ⟨b1, b2⟩, hl, -⟩ := gdB_iff h
  have m1 : 1 * 1 ≤ wd * dp := Int.mul_le_mul a1 b1 (by omega) (by omega)
  have m2 : wd * dp ≤ 24 * 24 := Int.mul_le_mul a2 b2 (by omega) (by omega)
  omega
/-- The error of Raised. -/
def rsE (wd dp : Int) (L : List Int) (n : Int) : Int := if gdB wd dp L then (if inB (-(Lib.minOf L)) (1000 - Lib.maxOf L) n then 0 else 4) else 1
theorem Raised_full (wd dp n : Int) (v : Value) (L : List Int) (w : World) (hv : IS w v L) (hl : L.length ≤ 9223372036854775807) :
    Calls Try.prog 21 #[.agg #[.int .i64 wd, .int .i64 dp, v], .int .i64 n] w fun e w' => (∃ a b g M c, e = .returned (.tuple #[.agg #[.int .i64 a, .int .i64 b, .slice g M c], .int .i64 (rsE wd dp L n)]) ∧ (rsE wd dp L n = 0 → a = wd ∧ b = dp ∧ IS w' (.slice g M c) (L.map (· + n)) ∧ ∀ bl o s, g = some ⟨bl, o, s⟩ → w.heap.size ≤ bl) ∧ (rsE wd dp L n ≠ 0 → a = 0 ∧ b = 0 ∧ IS w' (.slice g M c) [])) ∧ Below w.heap.size w w' := by
  have HV : Kp (∀ W, Below w.heap.size w W → Calls Try.prog 16 #[.agg #[.int .i64 wd, .int .i64 dp, v]] W fun e w' => e = .returned (.bool (gdB wd dp L)) ∧ Below W.heap.size W w') := ⟨fun W hW => Valid_any wd dp v L W (hv.below hW) hl⟩
  cases hg : gdB wd dp L with
  | false =>
    rw [hg] at HV
    have hE : rsE wd dp L n = 1 := by unfold rsE; rw [hg]; rfl
    obtain ⟨g, c, rfl⟩ := hv.shape
    refine (Raised_no wd dp n g L.length c w HV).mono ?_
    rintro e w' ⟨rfl, hb⟩
    exact ⟨⟨0, 0, none, 0, 0, by rw [hE], fun k => by rw [hE] at k; omega, fun _ => ⟨rfl, rfl, is_nil _⟩⟩, hb⟩
  | true =>
    rw [hg] at HV
    obtain ⟨h0, h1⟩ := gd_len hg
    obtain ⟨-, -, -, hal⟩ := gdB_iff hg
    rw [allIn_iff] at hal
    have m0 : 0 ≤ Lib.minOf L := (minOf_ge h0).2 fun x hx => (hal x hx).1
    have x0 : Lib.maxOf L ≤ 1000 := (maxOf_le h0).2 fun x hx => (hal x hx).2
    have mall : ∀ x ∈ L, Lib.minOf L ≤ x := (minOf_ge h0).1 (Int.le_refl _)
    have xall : ∀ x ∈ L, x ≤ Lib.maxOf L := (maxOf_le h0).1 (Int.le_refl _)
    obtain ⟨y, hy⟩ : ∃ y, y ∈ L := by
      cases L with
      | nil => simp at h0
      | cons z L => exact ⟨z, List.mem_cons_self⟩
    have y1 := mall y hy
    have y2 := xall y hy
    have y3 := hal y hy
    have HMI : Kp (∀ W, Below w.heap.size w W → Calls Try.prog 56 #[v] W fun e w' => e = .returned (.int .i64 (Lib.minOf L)) ∧ W = w') := ⟨fun W hW => min_any v L W (hv.below hW) h0 hl⟩
    have HMA : Kp (∀ W, Below w.heap.size w W → Calls Try.prog 57 #[v] W fun e w' => e = .returned (.int .i64 (Lib.maxOf L)) ∧ W = w') := ⟨fun W hW => max_any v L W (hv.below hW) h0 hl⟩
    have HCL : Kp (∀ W, Below w.heap.size w W → Calls Try.prog 58 #[v] W fun e w' => ∃ u, e = .returned u ∧ (∃ G, W.heap.size ≤ G ∧ G < w'.heap.size ∧ RI w' G u L) ∧ Below W.heap.size W w') := ⟨fun W hW => clone_any v L W (hv.below hW) h0 (by omega)⟩
    have HE : rsE wd dp L n = if inB (-(Lib.minOf L)) (1000 - Lib.maxOf L) n then 0 else 4 := by unfold rsE; rw [hg]; rfl
    generalize Lib.minOf L = m at *
    generalize Lib.maxOf L = x at *
    have w1 : IntKind.i64.wrap (-m) = -m := IntWalk.i64_in _ (by omega)
    have w2 : IntKind.i64.wrap (1000 - x) = 1000 - x := IntWalk.i64_in _ (by omega)
    have HWI : Kp (∀ W u, IS W u [n] → Calls Try.prog 51 #[.int .i64 (IntKind.i64.wrap (-m)), .int .i64 (IntKind.i64.wrap (1000 - x)), u] W fun e w' => e = .returned (.bool (inB (-m) (1000 - x) n)) ∧ W = w') := ⟨fun W u hu => by rw [w1, w2]; exact allIn_one (-m) (1000 - x) n ▸ within_any (-m) (1000 - x) u _ W hu (by simp)⟩
    obtain ⟨g, c, rfl⟩ := hv.shape
    cases hi : inB (-m) (1000 - x) n with
    | false =>
      rw [hi] at HWI HE
      refine (Raised_lim wd dp n m x g L.length c w HV HMI HMA HWI).mono ?_
      rintro e w' ⟨rfl, hb⟩
      exact ⟨⟨0, 0, none, 0, 0, by rw [HE]; rfl, fun k => by rw [HE] at k; simp at k, fun _ => ⟨rfl, rfl, is_nil _⟩⟩, hb⟩
    | true =>
      rw [hi] at HWI HE
      rw [inB_iff] at hi
      refine (Raised_in wd dp n m x L g L.length c w HV HMI HMA HWI HCL ⟨rfl, by omega, fun k z hz => IntWalk.i64_in _ (by have := mall z (List.mem_of_getElem? hz); have := xall z (List.mem_of_getElem? hz); omega)⟩).mono ?_
      rintro e w' ⟨⟨u, G, rfl, hG, hr⟩, hb⟩
      have hs := hr.is
      obtain ⟨c2, rfl, -, -, -⟩ := hr
      exact ⟨⟨wd, dp, some ⟨G, 0, none⟩, _, c2, by rw [HE]; rfl, fun _ => ⟨rfl, rfl, hs, fun bl o s q => by simp only [Option.some.injEq, Addr.mk.injEq] at q; omega⟩, fun k => by rw [HE] at k; simp at k⟩, hb⟩
theorem Raised_any (wd dp n : Int) (v : Value) (L : List Int) (w : World) (hv : IS w v L) (hl : L.length ≤ 9223372036854775807) :
    Calls Try.prog 21 #[.agg #[.int .i64 wd, .int .i64 dp, v], .int .i64 n] w fun e w' => (∃ a b g M c, e = .returned (.tuple #[.agg #[.int .i64 a, .int .i64 b, .slice g M c], .int .i64 (rsE wd dp L n)]) ∧ (rsE wd dp L n = 0 → a = wd ∧ b = dp ∧ IS w' (.slice g M c) (L.map (· + n)))) ∧ Below w.heap.size w w' :=
  (Raised_full wd dp n v L w hv hl).mono fun e w' ⟨⟨a, b, g, M, c, h1, h2, _⟩, hb⟩ => ⟨⟨a, b, g, M, c, h1, fun k => ⟨(h2 k).1, (h2 k).2.1, (h2 k).2.2.1⟩⟩, hb⟩
end Go.Proofs.Ytjnggchljilooaa.Sc
