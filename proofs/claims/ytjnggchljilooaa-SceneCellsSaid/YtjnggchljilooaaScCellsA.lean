/-
  WALKS (layer 7, scene): what With, Raised and Mirrored answer, said alike of both.
-/
import Derived.Test.YtjnggchljilooaaScRMir
import Derived.Test.YtjnggchljilooaaScHigh
namespace Go.Proofs.Ytjnggchljilooaa.Sc
open Go Go.RowKit Go.Sort

theorem With_gv (wd dp x y n : Int) (v : Value) (L : List Int) (w : World) (hv : IS w v L) (hl : L.length ≤ 9223372036854775807) :
    Calls Try.prog 14 #[.agg #[.int .i64 wd, .int .i64 dp, v], .int .i64 x, .int .i64 y, .int .i64 n] w fun e w' => (∃ V, e = .returned (.tuple #[V, .int .i64 (wE wd dp L x y n)]) ∧ GV w' V (gA (wE wd dp L x y n) wd) (gA (wE wd dp L x y n) dp) (gL (wE wd dp L x y n) (wL wd L x y n))) ∧ Below w.heap.size w w' :=
  (With_full wd dp x y n v L w hv hl).mono fun e w' ⟨⟨a, b, g, M, c, h1, h2, h3⟩, hb⟩ => ⟨⟨_, h1, gv_of h2 h3⟩, hb⟩
theorem Raised_gn (wd dp n : Int) (v : Value) (L : List Int) (w : World) (hv : IS w v L) (hl : L.length ≤ 9223372036854775807) :
    Calls Try.prog 21 #[.agg #[.int .i64 wd, .int .i64 dp, v], .int .i64 n] w fun e w' => (∃ V, e = .returned (.tuple #[V, .int .i64 (rsE wd dp L n)]) ∧ GN w.heap.size w' V (gA (rsE wd dp L n) wd) (gA (rsE wd dp L n) dp) (gL (rsE wd dp L n) (L.map (· + n)))) ∧ Below w.heap.size w w' :=
  (Raised_full wd dp n v L w hv hl).mono fun e w' ⟨⟨a, b, g, M, c, h1, h2, h3⟩, hb⟩ => ⟨⟨_, h1, gn_of h2 h3⟩, hb⟩
theorem Mirrored_gv (wd dp : Int) (v : Value) (L : List Int) (w : World) (hv : IS w v L) (hl : L.length ≤ 9223372036854775807) :
    Calls Try.prog 23 #[.agg #[.int .i64 wd, .int .i64 dp, v]] w fun e w' => (∃ V, e = .returned (.tuple #[V, .int .i64 (miE wd dp L)]) ∧ GV w' V (gA (miE wd dp L) wd) (gA (miE wd dp L) dp) (gL (miE wd dp L) (mirL wd.toNat dp.toNat L))) ∧ Below w.heap.size w w' :=
  (Mirrored_full wd dp v L w hv hl).mono fun e w' ⟨⟨a, b, g, M, c, h1, h2, h3⟩, hb⟩ => ⟨⟨_, h1, gv_of h2 h3⟩, hb⟩
set_option maxHeartbeats 1000000 in
theorem rMirrored_no (wd dp : Int) (g : Option Addr) (M c : Nat) (w : World)
    (HV : Kp (∀ W, Below w.heap.size w W → Calls Try.prog 17 #[.agg #[.int .i64 wd, .int .i64 dp, .slice g M c]] W fun e w' => e = .returned (.bool false) ∧ Below W.heap.size W w')) :
    Calls Try.prog 24 #[.agg #[.int .i64 wd, .int .i64 dp, .slice g M c]] w fun e w' => e = .returned (.tuple #[.agg #[.int .i64 0, .int .i64 0, .slice none 0 0], .int .i64 1]) ∧ Below w.heap.size w w' := by
  go_enter Try.func24, Try.ntmps24
  go_wp2_with fail
  refine (HV.out _ (by repeat (first | exact Below.refl _ _ | refine Below.alloc ?_ (by simp <;> omega) _ | refine bDrewN ?_ _ | refine Below.drew ?_))).mono ?_
  rintro en w1 ⟨rfl, hb1⟩
  have HB1 : Kp (Below w.heap.size w w1) := ⟨Below.trans (by repeat (first | refine Below.alloc ?_ (by (try simp) <;> omega) _ | refine bDrewN ?_ _ | refine Below.drew ?_ | refine Below.setCell ?_ (by (try simp) <;> omega) _ | exact Below.refl _ _)) (hb1.mono (by (try simp) <;> omega))⟩
  have hz1_0 : w.heap.size + 1 < w1.heap.size := by have := hb1.size; (try simp at this); omega
  obtain ⟨hc, hf⟩ := bcell hb1
  have c1_0_0 : w1.cell? ⟨w.heap.size + 1, 0, none⟩ = some (.int .i64 0) := (hc _ _ (by (try simp) <;> omega)).trans (by go_simp)
  have c1_0_1 : w1.cell? ⟨w.heap.size + 1, 1, none⟩ = some (.int .i64 0) := (hc _ _ (by (try simp) <;> omega)).trans (by go_simp)
  have c1_0_2 : w1.cell? ⟨w.heap.size + 1, 2, none⟩ = some ((.slice none 0 0)) := (hc _ _ (by (try simp) <;> omega)).trans (by go_simp)
  have z1_0 : ∀ j, w1.frozen? ⟨w.heap.size + 1, j, none⟩ = false := fun j => (hf _ _ (by (try simp) <;> omega)).trans (by go_simp)
  clear hc hf hb1
  have z0 := z1_0 0
  have z1 := z1_0 1
  have z2 := z1_0 2
  clear HV
  go_wp2
  refine bodyPost_ret (v := .tuple #[.agg #[.int .i64 0, .int .i64 0, .slice none 0 0], .int .i64 1]) (by simp [results, Try.results24, go_sem, c1_0_0, c1_0_1, c1_0_2]) rfl ⟨rfl, ?_⟩
  repeat (first | exact HB1.out | refine Below.setCell ?_ (by simp only; omega) _)
theorem rMirrored_any (wd dp : Int) (v : Value) (L : List Int) (w : World) (hv : IS w v L) (hl : L.length ≤ 9223372036854775807) :
    Calls Try.prog 24 #[.agg #[.int .i64 wd, .int .i64 dp, v]] w fun e w' => (∃ V, e = .returned (.tuple #[V, .int .i64 (miE wd dp L)]) ∧ GV w' V (gA (miE wd dp L) wd) (gA (miE wd dp L) dp) (gL (miE wd dp L) (mirL wd.toNat dp.toNat L))) ∧ Below w.heap.size w w' := by
  have HV : Kp (∀ W, Below w.heap.size w W → Calls Try.prog 17 #[.agg #[.int .i64 wd, .int .i64 dp, v]] W fun e w' => e = .returned (.bool (gdB wd dp L)) ∧ Below W.heap.size W w') := ⟨fun W hW => rValid_any wd dp v L W (hv.below hW) hl⟩
  have hv0 := hv
  obtain ⟨g, c, rfl⟩ := hv.shape
  cases hg : gdB wd dp L with
  | false =>
    have hE : miE wd dp L = 1 := by unfold miE; rw [hg]; rfl
    rw [hg] at HV
    refine (rMirrored_no wd dp g L.length c w HV).mono ?_
    rintro e w' ⟨rfl, hb⟩
    refine ⟨⟨_, by rw [hE], gv_of (fun k => by rw [hE] at k; omega) (fun _ => ⟨rfl, rfl, is_nil _⟩)⟩, hb⟩
  | true =>
    have hE : miE wd dp L = 0 := by unfold miE; rw [hg]; rfl
    rw [hg] at HV
    obtain ⟨⟨a1, a2⟩, ⟨b1, b2⟩, hlen, -⟩ := gdB_iff hg
    obtain ⟨h0, h1⟩ := gd_len hg
    obtain ⟨N, hN⟩ := Int.eq_ofNat_of_zero_le (show 0 ≤ wd by omega)
    obtain ⟨D, hD⟩ := Int.eq_ofNat_of_zero_le (show 0 ≤ dp by omega)
    subst hN hD
    have hl2 : L.length = N * D := by
      have : (L.length : Int) = ((N * D : Nat) : Int) := by rw [hlen, Int.natCast_mul]
      omega
    refine (rMirrored_in N D ((N : Int) - 1) g L.length c L w HV ⟨by omega, by omega, by omega, by omega, IntWalk.i64_in _ (by omega)⟩ ⟨fun k hk => ?_⟩).mono ?_
    · have hn : 0 < N := by omega
      have hm := Nat.mod_lt k hn
      have hd : k / N < D := Nat.div_lt_of_lt_mul (hl2 ▸ hk)
      have hb : k / N * N + N ≤ N * D := by
        have h2 : (k / N + 1) * N ≤ D * N := Nat.mul_le_mul_right N hd
        rw [Nat.add_mul, Nat.one_mul] at h2
        rw [Nat.mul_comm N D]
        exact h2
      obtain ⟨q, hq⟩ : ∃ q, k / N = q := ⟨_, rfl⟩
      obtain ⟨r, hr⟩ : ∃ r, k % N = r := ⟨_, rfl⟩
      rw [hq] at hd hb
      rw [hr] at hm
      rw [hq, hr]
      clear hq hr
      have e1 : ((N : Int) - 1 - (r : Int) + (N : Int) * (q : Int)).toNat = q * N + (N - 1 - r) := by
        rw [← Int.natCast_mul, Nat.mul_comm N q]
        omega
      refine ⟨(N : Int) - 1 - (r : Int), IntWalk.i64_in _ (by omega), fun W hW => ?_⟩
      have := rat_any N D (.slice g L.length c) L ((N : Int) - 1 - (r : Int)) (q : Int) W (hv0.below hW) (by omega) (by omega) (by omega) (by omega) (by omega) (by omega) (by rw [e1]; omega)
      unfold gAt at this
      rwa [e1] at this
    · rintro e w' ⟨⟨V, rfl, hgv⟩, hb⟩
      refine ⟨⟨V, by rw [hE], ?_⟩, hb⟩
      rw [hE]
      rw [mirF_all hl2] at hgv
      show GV w' V N D (mirL (N : Int).toNat (D : Int).toNat L)
      rw [Int.toNat_natCast, Int.toNat_natCast]
      exact hgv
end Go.Proofs.Ytjnggchljilooaa.Sc
