/-
  WALKS (layer 7, scene): the program's Mirrored at every ground; what hides under mirroring.
-/
import Derived.Test.YtjnggchljilooaaScMir
import Derived.Test.YtjnggchljilooaaScColR
import Derived.Test.YtjnggchljilooaaScPlus
import Derived.Test.YtjnggchljilooaaScSeen
namespace Go.Proofs.Ytjnggchljilooaa.Sc
open Go Go.RowKit Go.Sort
attribute [local go_sem] Oper.semAt_some

set_option maxRecDepth 100000 in
set_option maxHeartbeats 2000000 in
theorem Mirrored_no (wd dp : Int) (g : Option Addr) (M c : Nat) (w : World)
    (HV : Kp (∀ W, Below w.heap.size w W → Calls Try.prog 16 #[.agg #[.int .i64 wd, .int .i64 dp, .slice g M c]] W fun e w' => e = .returned (.bool false) ∧ Below W.heap.size W w')) :
    Calls Try.prog 23 #[.agg #[.int .i64 wd, .int .i64 dp, .slice g M c]] w fun e w' => e = .returned (.tuple #[.agg #[.int .i64 0, .int .i64 0, .slice none 0 0], .int .i64 1]) ∧ Below w.heap.size w w' := by
  go_enter Try.func23, Try.ntmps23
  go_wp2_with fail
  try simp only [Nat.add_assoc, Nat.reduceAdd]
  obtain ⟨W1, hW1⟩ : ∃ W, (w.alloc (.cells #[.int .i64 wd, .int .i64 dp, .slice g M c] 24)).alloc (.cells #[.int .i64 0, .int .i64 0, .slice none 0 0] 24) = W := ⟨_, rfl⟩
  obtain ⟨hb1, hall⟩ := boxesG_start hW1
  rw [hW1]
  obtain ⟨B, hB⟩ : ∃ B, w.heap.size = B := ⟨_, rfl⟩
  have HBB := Kp.mk hB
  have HVX := Kp.mk (HV.out W1 hb1)
  rw [hB] at hall
  have HB1 := Kp.mk hb1
  have HALL := Kp.mk hall
  try simp only [hB]
  clear hW1 hb1 hall hB HV
  refine HVX.out.mono ?_
  rintro en w2 ⟨rfl, hb2⟩
  obtain ⟨q0, q1, q2, r0, r1, r2, qz, rz⟩ := HALL.out w2 hb2
  have HBW := Kp.mk (HB1.out.trans (hb2.mono HB1.out.size))
  have z0 := rz 0
  have z1 := rz 1
  have z2 := rz 2
  clear hb2 qz rz HVX
  go_wp2
  exact bodyPost_ret (v := .tuple #[.agg #[.int .i64 0, .int .i64 0, .slice none 0 0], .int .i64 1]) (by simp [results, Try.results23, go_sem, r0, r1, r2]) rfl ⟨rfl, by repeat (first | exact HBW.out | refine Below.setCell ?_ (by have := HBB.out; simp only; omega) _ | refine Below.drew ?_)⟩
/-- The error of Mirrored. -/
def miE (wd dp : Int) (L : List Int) : Int := if gdB wd dp L = true then 0 else 1
theorem miE_zero {wd dp : Int} {L : List Int} (h : miE wd dp L = 0) : gdB wd dp L = true := by
  unfold miE at h
  split at h
  · assumption
  · omega
theorem Mirrored_full (wd dp : Int) (v : Value) (L : List Int) (w : World) (hv : IS w v L) (hl : L.length ≤ 9223372036854775807) :
    Calls Try.prog 23 #[.agg #[.int .i64 wd, .int .i64 dp, v]] w fun e w' => (∃ a b g M c, e = .returned (.tuple #[.agg #[.int .i64 a, .int .i64 b, .slice g M c], .int .i64 (miE wd dp L)]) ∧ (miE wd dp L = 0 → a = wd ∧ b = dp ∧ IS w' (.slice g M c) (mirL wd.toNat dp.toNat L)) ∧ (miE wd dp L ≠ 0 → a = 0 ∧ b = 0 ∧ IS w' (.slice g M c) [])) ∧ Below w.heap.size w w' := by
  have HV : Kp (∀ W, Below w.heap.size w W → Calls Try.prog 16 #[.agg #[.int .i64 wd, .int .i64 dp, v]] W fun e w' => e = .returned (.bool (gdB wd dp L)) ∧ Below W.heap.size W w') := ⟨fun W hW => Valid_any wd dp v L W (hv.below hW) hl⟩
  cases hg : gdB wd dp L with
  | false =>
    rw [hg] at HV
    have hE : miE wd dp L = 1 := by unfold miE; rw [hg]; rfl
    obtain ⟨g, c, rfl⟩ := hv.shape
    refine (Mirrored_no wd dp g L.length c w HV).mono ?_
    rintro e w' ⟨rfl, hb⟩
    exact ⟨⟨0, 0, none, 0, 0, by rw [hE], fun k => by rw [hE] at k; omega, fun _ => ⟨rfl, rfl, is_nil _⟩⟩, hb⟩
  | true =>
    rw [hg] at HV
    have hE : miE wd dp L = 0 := by unfold miE; rw [hg]; rfl
    obtain ⟨⟨a1, a2⟩, ⟨b1, b2⟩, hlen, -⟩ := gdB_iff hg
    obtain ⟨N, hN⟩ := Int.eq_ofNat_of_zero_le (show 0 ≤ wd by omega)
    obtain ⟨D, hD⟩ := Int.eq_ofNat_of_zero_le (show 0 ≤ dp by omega)
    subst hN hD
    have hl2 : L.length = N * D := by
      have : (L.length : Int) = ((N * D : Nat) : Int) := by rw [hlen, Int.natCast_mul]
      omega
    have hn : N ≤ 24 := by omega
    have hd : D ≤ 24 := by omega
    have hnd : N * D ≤ 24 * 24 := Nat.mul_le_mul hn hd
    have hpos : 0 < N * D := Nat.mul_pos (by omega) (by omega)
    have HCL : Kp (∀ W, Below w.heap.size w W → Calls Try.prog 58 #[v] W fun e w' => ∃ u, e = .returned u ∧ (∃ G, W.heap.size ≤ G ∧ G < w'.heap.size ∧ RI w' G u L) ∧ Below W.heap.size W w') := ⟨fun W hW => clone_any v L W (hv.below hW) (by omega) (by omega)⟩
    obtain ⟨g, c, rfl⟩ := hv.shape
    refine (Mirrored_in N D L g L.length c w HV HCL ⟨rfl, hl2, by omega, by omega, by omega⟩).mono ?_
    rintro e w' ⟨⟨u, G, rfl, hr⟩, hb⟩
    have hs := hr.is
    obtain ⟨g2, c2, rfl⟩ := hs.shape
    exact ⟨⟨N, D, g2, _, c2, by rw [hE], fun _ => ⟨rfl, rfl, by rw [Int.toNat_natCast, Int.toNat_natCast]; exact hs⟩, fun k => absurd hE k⟩, hb⟩
theorem Mirrored_any (wd dp : Int) (v : Value) (L : List Int) (w : World) (hv : IS w v L) (hl : L.length ≤ 9223372036854775807) :
    Calls Try.prog 23 #[.agg #[.int .i64 wd, .int .i64 dp, v]] w fun e w' => (∃ a b g M c, e = .returned (.tuple #[.agg #[.int .i64 a, .int .i64 b, .slice g M c], .int .i64 (miE wd dp L)]) ∧ (miE wd dp L = 0 → a = wd ∧ b = dp ∧ IS w' (.slice g M c) (mirL wd.toNat dp.toNat L))) ∧ Below w.heap.size w w' :=
  (Mirrored_full wd dp v L w hv hl).mono fun e w' ⟨⟨a, b, g, M, c, h1, h2, _⟩, hb⟩ => ⟨⟨a, b, g, M, c, h1, h2⟩, hb⟩
theorem mem_colL {e : Ey} {x y r : Int} {n : Nat} {c : Int} (h : Bd e x y r) (hn : lst e x y r ≤ (n : Int) - 1) : c ∈ colL e x y r ↔ (0 ≤ c ∧ c ≤ (n : Int) - 1) ∧ crB e x y r c = true := by
  rw [← colR_all h hn]
  unfold colR
  rw [List.mem_filter, List.mem_map]
  constructor
  · rintro ⟨⟨i, hi, rfl⟩, hc⟩
    have := List.mem_range.1 hi
    exact ⟨⟨by omega, by omega⟩, hc⟩
  · rintro ⟨⟨h1, h2⟩, hc⟩
    obtain ⟨i, hi⟩ := Int.eq_ofNat_of_zero_le h1
    exact ⟨⟨i, List.mem_range.2 (by omega), hi.symm⟩, hc⟩
/-- The line crosses the mirrored cells of a row just so. -/
theorem crB_mirror {e f : Ey} {x z y r c m : Int} (hb : f.b = e.b) (hx : f.x = m - e.x) (hz : z = m - x) : crB f z y r (m - c) = crB e x y r c := by
  unfold crB
  rw [acr_eq, acr_eq, hb, hx, hz]
  have h1 : (m - e.x) * (y - r) = m * (y - r) - e.x * (y - r) := Int.sub_mul _ _ _
  have h2 : (m - x) * (r + e.b) = m * (r + e.b) - x * (r + e.b) := Int.sub_mul _ _ _
  have h3 : (m - c) * (y + e.b) = m * (y + e.b) - c * (y + e.b) := Int.sub_mul _ _ _
  have h4 : m * (y + e.b) = m * (y - r) + m * (r + e.b) := by rw [← Int.mul_add]; congr 1; omega
  rw [h1, h2, h3, h4]
  generalize m * (y - r) = a
  generalize m * (r + e.b) = b
  generalize c * (y + e.b) = k
  generalize e.x * (y - r) = p
  generalize x * (r + e.b) = q
  generalize y + e.b = t
  unfold inB
  rw [Bool.eq_iff_iff]
  simp only [Bool.and_eq_true, decide_eq_true_eq]
  omega
theorem mirL_gAt {N D : Nat} {L : List Int} {c r : Int} (hl : L.length = N * D) (hc : 0 ≤ c ∧ c ≤ (N : Int) - 1) (hr : 0 ≤ r ∧ r ≤ (D : Int) - 1) : gAt N (mirL N D L) ((N : Int) - 1 - c) r = gAt N L c r := by
  obtain ⟨ci, rfl⟩ := Int.eq_ofNat_of_zero_le hc.1
  obtain ⟨ri, rfl⟩ := Int.eq_ofNat_of_zero_le hr.1
  have hci : ci < N := by omega
  have hri : ri < D := by omega
  have e1 : ((N : Int) - 1 - (ci : Int) + (N : Int) * (ri : Int)).toNat = ri * N + (N - 1 - ci) := by
    rw [← Int.natCast_mul, Nat.mul_comm N ri]
    omega
  have e2 : ((ci : Int) + (N : Int) * (ri : Int)).toNat = ri * N + ci := by
    rw [← Int.natCast_mul, Nat.mul_comm N ri]
    omega
  have hb : ri * N + N ≤ N * D := by
    have h2 : (ri + 1) * N ≤ D * N := Nat.mul_le_mul_right N hri
    rw [Nat.add_mul, Nat.one_mul] at h2
    rw [Nat.mul_comm N D]
    exact h2
  obtain ⟨d1, d2⟩ := div_row (r := ri) (show N - 1 - ci < N by omega)
  unfold gAt
  rw [e1, e2, List.getD_eq_getElem?_getD (l := mirL N D L), mirL_at (by omega), d1, d2, if_pos hri]
  simp only [Option.getD_some]
  rw [show N - 1 - (N - 1 - ci) = ci by omega]
/-- Mirroring ground, eye and point changes nothing that hides a point or not. -/
theorem hid_mirror {N D : Nat} {L : List Int} {e f : Ey} {x z : Int} {y : Nat} {h : Int} (hl : L.length = N * D) (hb : ∀ r : Nat, r < y → Bd e x y r) (h1 : e.x ≤ (N : Int) - 1) (h2 : x ≤ (N : Int) - 1) (hx0 : 0 ≤ e.x) (hx1 : 0 ≤ x) (hN : N ≤ 24) (hy : (y : Int) ≤ (D : Int) - 1)
    (fb : f.b = e.b) (fh : f.h = e.h) (fx : f.x = (N : Int) - 1 - e.x) (fz : z = (N : Int) - 1 - x) : (hid N (mirL N D L) f z y h).isNone = (hid N L e x y h).isNone := by
  have hb2 : ∀ r : Nat, r < y → Bd f z y r := fun r hr => by
    obtain ⟨-, k2, k3, -, k5, k6, k7⟩ := hb r hr
    exact ⟨⟨by omega, by omega⟩, by rw [fb]; exact k2, by rw [fh]; exact k3, ⟨by omega, by omega⟩, k5, k6, k7⟩
  have key : hid N (mirL N D L) f z y h = none ↔ hid N L e x y h = none := by
    rw [hid_none_iff, hid_none_iff]
    have hund : ∀ g r : Int, undB f y h g r = undB e y h g r := fun g r => by unfold undB; rw [fb, fh]
    constructor
    · intro hn r hr c hc
      obtain ⟨m1, m2⟩ := (mem_colL (hb r hr) (lst_lt (hb r hr) h1 h2)).1 hc
      have hc2 : (N : Int) - 1 - c ∈ colL f z y r := (mem_colL (n := N) (hb2 r hr) (lst_lt (hb2 r hr) (by omega) (by omega))).2 ⟨⟨by omega, by omega⟩, by rw [crB_mirror fb fx fz]; exact m2⟩
      have := hn r hr _ hc2
      rwa [mirL_gAt hl m1 ⟨by omega, by omega⟩, hund] at this
    · intro hn r hr c hc
      obtain ⟨m1, m2⟩ := (mem_colL (n := N) (hb2 r hr) (lst_lt (hb2 r hr) (by omega) (by omega))).1 hc
      have hcc : c = (N : Int) - 1 - ((N : Int) - 1 - c) := by omega
      have hc2 : (N : Int) - 1 - c ∈ colL e x y r := (mem_colL (hb r hr) (lst_lt (hb r hr) h1 h2)).2 ⟨⟨by omega, by omega⟩, by
        have := crB_mirror (c := (N : Int) - 1 - c) (y := (y : Int)) (r := (r : Int)) fb fx fz
        rw [← hcc] at this
        rw [← this]
        exact m2⟩
      have := hn r hr _ hc2
      rw [hund, hcc, mirL_gAt hl ⟨by omega, by omega⟩ ⟨by omega, by omega⟩]
      exact this
  cases h3 : hid N (mirL N D L) f z y h with
  | none => rw [key.1 h3]
  | some p =>
    cases h4 : hid N L e x y h with
    | none => rw [key.2 h4] at h3; cases h3
    | some q => rfl
end Go.Proofs.Ytjnggchljilooaa.Sc
