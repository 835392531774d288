/-
  WALKS (layer 8, pest): doors cloned; Fewest of the program.
-/
import Derived.Test.YthkamfjjfkpekaaPeRefO
import Derived.Test.YthkamfjjfkpekaaPeOwnD
namespace Go.Proofs.Ythkamfjjfkpekaa.Pe
open Go Go.RowKit Go.Proofs Go.Sort

def cloneD_ren : Go.Shelf.Ren := ⟨fun | 41 => 80 | n => n, fun | 22 => 22 | 23 => 48 | 4 => 4 | n => n, fun | n => n⟩
theorem cloneD : Go.Proofs.SlLaysE0.n41 Try.prog cloneD_ren := {
  mixed := by kernel_rfl
  f41 := ⟨Try.f80.name, by decide, Try.func80.trans (congrArg some (by kernel_rfl))⟩
  t4 := Try.underlying4
  a4 := Try.isAgg4
  z4 := Try.sizeOf4
  v4 := Try.zeroValue4
  t22 := Try.underlying22
  a22 := Try.isAgg22
  z22 := Try.sizeOf22
  v22 := Try.zeroValue22 }
theorem flatD_len (l : List Dr) : (flatD l).length = l.length * 3 := by
  induction l with
  | nil => rfl
  | cons x r ih => simp only [flatD, List.length_cons, ih]; omega
theorem flatD_ds {w : World} {b o c : Nat} {l : List Dr} (h : DS w (.slice (some ⟨b, o, none⟩) l.length c) l) : ∀ j u, (flatD l)[j]? = some u → w.cell? ⟨b, o + j, none⟩ = some u := by
  obtain ⟨g, c', e, hi⟩ := h
  simp only [Value.slice.injEq] at e
  obtain ⟨rfl, -, rfl⟩ := e
  intro j u hu
  have hj := (List.getElem?_eq_some_iff.1 hu).1
  rw [flatD_len] at hj
  obtain ⟨x, hx⟩ : ∃ x, l[j / 3]? = some x := ⟨_, List.getElem?_eq_getElem (by omega)⟩
  obtain ⟨b', o', hg, d0, d1, d2⟩ := hi _ x hx
  simp only [Option.some.injEq, Addr.mk.injEq, and_true] at hg
  obtain ⟨rfl, rfl⟩ := hg
  obtain ⟨h0, h1, h2⟩ := flatD_at hx
  have hr : j % 3 = 0 ∨ j % 3 = 1 ∨ j % 3 = 2 := by omega
  rcases hr with hr | hr | hr
  · have e : j = j / 3 * 3 := by omega
    rw [e, h0] at hu
    cases hu
    rw [e]
    exact d0
  · have e : j = j / 3 * 3 + 1 := by omega
    rw [e, h1] at hu
    cases hu
    rw [e, ← Nat.add_assoc]
    exact d1
  · have e : j = j / 3 * 3 + 2 := by omega
    rw [e, h2] at hu
    cases hu
    rw [e, ← Nat.add_assoc]
    exact d2
theorem clone_nil (g : Option Addr) (c : Nat) (w : World) : Calls Try.prog 80 #[.slice g 0 c] w fun e w' => ∃ g' c', e = .returned (.slice g' 0 c') ∧ Below w.heap.size w w' := by
  cases g with
  | none => exact (AnyE.slices_Clone_nil cloneD 0 c w).mono fun e w' ⟨he, hw⟩ => ⟨none, 0, he, hw ▸ Below.refl _ _⟩
  | some a =>
    have q22 : ∀ (w : World) (a : Option Addr) (n c n' c' : Nat), (binOp .eql 22 (.slice a n c) (.slice none n' c')).run Try.prog w = .ok (.bool a.isNone) w := fun w a n c n' c' => Lib.run_eql_slice_nil w _ _ a n c n' c' Try.underlying22
    go_enter Try.func80, Try.ntmps80
    go_wp2
    go_ret
    exact ⟨_, _, rfl, by repeat (first | exact Below.refl _ _ | refine Below.alloc ?_ (by simp <;> omega) _ | refine bDrewN ?_ _ | refine Below.drew ?_)⟩
/-- Doors cloned: a row of doors of the call's own. -/
theorem cloneD_any (v : Value) (ds : List Dr) (w : World) (hv : DS w v ds) (h0 : 0 < ds.length) (hl : ds.length ≤ 1000) : Calls Try.prog 80 #[v] w fun e w' => ∃ v', e = .returned v' ∧ OwnD w' w.heap.size v' ds ∧ Below w.heap.size w w' := by
  have hv2 := hv
  obtain ⟨g, c, rfl, hi⟩ := hv
  obtain ⟨d0, hd⟩ : ∃ d, ds[0]? = some d := ⟨_, List.getElem?_eq_getElem h0⟩
  obtain ⟨b, o, rfl, -⟩ := hi 0 d0 hd
  obtain ⟨i0, hi0, hz0, hz1, hz2⟩ := info_parts info_dr
  exact (AnyE.slices_Clone cloneD i0 _ 3 24 hi0 hz0 hz1 hz2 rfl (by decide) Try.sizeOf48 b o ds.length c (flatD ds) w (flatD_len ds) (by unfold maxLen; omega) (by omega) (flatD_ds hv2) (flatD_one ds)).mono fun e w' ⟨v', he, hown, _, hb⟩ => ⟨v', he, hown, hb⟩
theorem OwnD.block {w : World} {base : Nat} {v : Value} {l : List Dr} (h : OwnD w base v l) (h0 : 0 < l.length) : ∃ G c, v = .slice (some ⟨G, 0, none⟩) l.length c ∧ base ≤ G ∧ G < w.heap.size ∧ (∀ j, w.frozen? ⟨G, j, none⟩ = false) := by
  rcases h.2 with ⟨-, h1⟩ | ⟨g, cap, cur, hv, hgB, hh, -⟩
  · omega
  · exact ⟨g, cap, hv, hgB, (Array.getElem?_eq_some_iff.1 hh).1, fun j => by simp [World.frozen?, hh]⟩
/-- What the walk keeps: the house's box, the doors' row, of which the first cost 1. -/
structure CG (w : World) (B : Nat) (R x y : Int) (g : Option Addr) (N c : Nat) (ds : List Dr) (k : Nat) (W : World) : Prop where
  below : Below w.heap.size w W
  h0 : W.cell? ⟨B, 0, none⟩ = some (.int .i64 R)
  h1 : W.cell? ⟨B, 1, none⟩ = some (.slice g N c)
  h2 : W.cell? ⟨B, 2, none⟩ = some (.int .i64 x)
  h3 : W.cell? ⟨B, 3, none⟩ = some (.int .i64 y)
  row : ∀ i d, ds[i]? = some d → ∃ G, g = some ⟨G, 0, none⟩ ∧ G ≠ B ∧ w.heap.size ≤ G ∧ (∀ j, W.frozen? ⟨G, j, none⟩ = false) ∧ W.cell? ⟨G, i * 3, none⟩ = some (.int .i64 d.a) ∧ W.cell? ⟨G, i * 3 + 1, none⟩ = some (.int .i64 d.b) ∧ W.cell? ⟨G, i * 3 + 2, none⟩ = some (.int .i64 (if i < k then 1 else d.c))
theorem CG.put {w W : World} {B G N c k : Nat} {R x y : Int} {ds : List Dr} {d : Dr} (h : CG w B R x y (some ⟨G, 0, none⟩) N c ds k W) (hk : ds[k]? = some d) : CG w B R x y (some ⟨G, 0, none⟩) N c ds (k + 1) (W.setCell ⟨G, k * 3 + 2, none⟩ (.int .i64 1)) := by
  obtain ⟨G', hg, hB, hw, -, -, -, k3⟩ := h.row k d hk
  simp only [Option.some.injEq, Addr.mk.injEq, and_true] at hg
  subst hg
  have o : ∀ b i, b ≠ G → (W.setCell ⟨G, k * 3 + 2, none⟩ (.int .i64 1)).cell? ⟨b, i, none⟩ = W.cell? ⟨b, i, none⟩ := fun b i hb => World.cell?_setCell_other _ _ _ _ (by intro he; simp only [Addr.mk.injEq] at he; exact hb he.1.symm)
  have o2 : ∀ i, i ≠ k * 3 + 2 → (W.setCell ⟨G, k * 3 + 2, none⟩ (.int .i64 1)).cell? ⟨G, i, none⟩ = W.cell? ⟨G, i, none⟩ := fun i hi => World.cell?_setCell_other _ _ _ _ (by intro he; simp only [Addr.mk.injEq, and_true, true_and] at he; exact hi he.symm)
  refine ⟨h.below.setCell (by simp only; omega) _, (o _ _ (Ne.symm hB)).trans h.h0, (o _ _ (Ne.symm hB)).trans h.h1, (o _ _ (Ne.symm hB)).trans h.h2, (o _ _ (Ne.symm hB)).trans h.h3, fun i e he => ?_⟩
  obtain ⟨G'', hg, -, -, z, k1, k2, k4⟩ := h.row i e he
  simp only [Option.some.injEq, Addr.mk.injEq, and_true] at hg
  subst hg
  refine ⟨G, rfl, hB, hw, fun j => by simp [go_sem, z], (o2 _ (by omega)).trans k1, (o2 _ (by omega)).trans k2, ?_⟩
  by_cases e1 : i = k
  · subst e1
    rw [if_pos (by omega)]
    simp [go_sem, k4]
  · rw [(o2 _ (by omega)).trans k4]
    have : (i < k + 1) ↔ (i < k) := by omega
    simp only [this]
theorem CG.ds {w W : World} {B N c : Nat} {R x y : Int} {g : Option Addr} {ds : List Dr} (h : CG w B R x y g N c ds N W) (hN : ds.length = N) : DS W (.slice g N c) (ones ds) := by
  refine ⟨g, c, by rw [ones_len, hN], fun i d hd => ?_⟩
  unfold ones at hd
  rw [List.getElem?_map] at hd
  obtain ⟨e, he, rfl⟩ := Option.map_eq_some_iff.1 hd
  obtain ⟨G, hg, -, -, -, k1, k2, k3⟩ := h.row i e he
  rw [if_pos (by have := (List.getElem?_eq_some_iff.1 he).1; omega)] at k3
  exact ⟨G, 0, hg, by rw [Nat.zero_add]; exact k1, by rw [Nat.zero_add]; exact k2, by rw [Nat.zero_add]; exact k3⟩
set_option maxRecDepth 100000 in
set_option maxHeartbeats 2000000 in
theorem Fewest_any (R x y : Int) (v : Value) (ds : List Dr) (w : World) (hv : DS w v ds) (hl : ds.length ≤ 9223372036854775807) :
    Calls Try.prog 35 #[.agg #[.int .i64 R, v, .int .i64 x, .int .i64 y]] w fun e w' => e = .returned (numE (if valB R ds x y then 0 else 1) (fewV ds R x y)) ∧ Below w.heap.size w w' := by
  have HV : Kp (∀ W, Below w.heap.size w W → Calls Try.prog 19 #[.agg #[.int .i64 R, v, .int .i64 x, .int .i64 y]] W fun e w' => e = .returned (.bool (valB R ds x y)) ∧ Below W.heap.size W w') := ⟨fun W hW => Valid_any R x y v ds W (hv.below hW) hl⟩
  have HLE : Kp (valB R ds x y = true → ∀ W g c, DS W (.slice g ds.length c) (ones ds) → Calls Try.prog 78 #[.agg #[.int .i64 R, .slice g ds.length c, .int .i64 x, .int .i64 y]] W fun e w' => e = .returned (.int .i64 (fewV ds R x y)) ∧ Below W.heap.size W w') := ⟨fun hb W g c hd => by
    have hk := valB_ok hb
    have h1 := lt_4096 hk.inf.2 hk.rooms.2
    have h2 := lt_4096 hk.kept.2 hk.rooms.2
    have := least_any W g ds.length c R.toNat x.toNat y.toNat (ones ds) (ones_len ds) hk.len (by have := hk.rooms; omega) h1 h2 (and_apart hk.inf.1 hk.kept.1 h1 h2 hk.apart) (ones_ok hk.dok) hd
    rw [Int.toNat_of_nonneg hk.inf.1, Int.toNat_of_nonneg hk.kept.1, Int.toNat_of_nonneg (by have := hk.rooms; omega)] at this
    exact this⟩
  have HCL : Kp (valB R ds x y = true → ∀ W, Below w.heap.size w W → Calls Try.prog 80 #[v] W fun e w' => ∃ g' c', e = .returned (.slice g' ds.length c') ∧ Below W.heap.size W w' ∧ ∀ i d, ds[i]? = some d → ∃ G, g' = some ⟨G, 0, none⟩ ∧ W.heap.size ≤ G ∧ (∀ j, w'.frozen? ⟨G, j, none⟩ = false) ∧ w'.cell? ⟨G, i * 3, none⟩ = some (.int .i64 d.a) ∧ w'.cell? ⟨G, i * 3 + 1, none⟩ = some (.int .i64 d.b) ∧ w'.cell? ⟨G, i * 3 + 2, none⟩ = some (.int .i64 d.c)) := ⟨fun hb W hW => by
    have hk := valB_ok hb
    by_cases h0 : 0 < ds.length
    · refine (cloneD_any v ds W (hv.below hW) h0 (by have := hk.len; omega)).mono fun e w' ⟨v', he, hown, hbw⟩ => ?_
      obtain ⟨G, c', rfl, hG, -, hz⟩ := hown.block h0
      refine ⟨_, c', he, hbw, fun i d hd => ?_⟩
      obtain ⟨g2, c2, e2, hi2⟩ := hown.ds
      simp only [Value.slice.injEq] at e2
      obtain ⟨rfl, -, rfl⟩ := e2
      obtain ⟨b2, o2, hg, k1, k2, k3⟩ := hi2 i d hd
      simp only [Option.some.injEq, Addr.mk.injEq, and_true] at hg
      obtain ⟨rfl, rfl⟩ := hg
      rw [Nat.zero_add] at k1 k2 k3
      exact ⟨G, rfl, hG, hz, k1, k2, k3⟩
    · have hn : ds = [] := List.eq_nil_of_length_eq_zero (by omega)
      subst hn
      obtain ⟨g, c, e, -⟩ := hv
      subst e
      exact (clone_nil g c W).mono fun e w' ⟨g', c', he, hbw⟩ => ⟨g', c', he, hbw, fun i d hd => by simp at hd⟩⟩
  obtain ⟨g, c, rfl⟩ := hv.shape
  obtain ⟨T, hT⟩ : ∃ T, fewV ds R x y = T := ⟨_, rfl⟩
  have HM40 : Kp (valB R ds x y = true → ds.length ≤ 40) := ⟨fun h => (valB_ok h).len⟩
  obtain ⟨V, hV⟩ : ∃ V, valB R ds x y = V := ⟨_, rfl⟩
  obtain ⟨M, hM⟩ : ∃ M, ds.length = M := ⟨_, rfl⟩
  have HM := Kp.mk hM
  rw [hV, hM] at HV HM40
  rw [hV, hT, hM] at HLE
  rw [hV, hM] at HCL
  rw [hV, hT, hM]
  clear hV hT hM hv hl
  cases V with
  | false =>
    have HN : Kp (numE (if false = true then 0 else 1) T = .tuple #[.int .i64 0, .int .i64 1]) := ⟨rfl⟩
    clear HLE HCL HM40
    go_enter Try.func35, Try.ntmps35
    go_wp2_with fail
    refine (HV.out _ (by repeat (first | exact Below.refl _ _ | refine Below.alloc ?_ (by simp <;> omega) _ | refine bDrewN ?_ _ | refine Below.drew ?_))).mono ?_
    rintro en w1 ⟨rfl, hb1⟩
    have HB1 : Kp (Below w.heap.size w w1) := ⟨Below.trans (by repeat (first | exact Below.refl _ _ | refine Below.alloc ?_ (by simp <;> omega) _ | refine bDrewN ?_ _ | refine Below.drew ?_)) (hb1.mono (by simp <;> omega))⟩
    clear hb1
    go_wp2
    go_ret2
    exact ⟨rfl, HB1.out⟩
  | true =>
    have HL2 := Kp.mk (HLE.out rfl)
    have HC2 := Kp.mk (HCL.out rfl)
    have hm := HM40.out rfl
    clear HLE HCL HM40
    go_enter Try.func35, Try.ntmps35
    go_wp2_with fail
    refine (HV.out _ (by repeat (first | exact Below.refl _ _ | refine Below.alloc ?_ (by simp <;> omega) _ | refine bDrewN ?_ _ | refine Below.drew ?_))).mono ?_
    rintro en w1 ⟨rfl, hb1⟩
    have HB1 : Kp (Below w.heap.size w w1) := ⟨Below.trans (by repeat (first | refine Below.alloc ?_ (by (try simp) <;> omega) _ | refine bDrewN ?_ _ | refine Below.drew ?_ | refine Below.setCell ?_ (by (try simp) <;> omega) _ | exact Below.refl _ _)) (hb1.mono (by (try simp) <;> omega))⟩
    have hz1_0 : w.heap.size < w1.heap.size := by have := hb1.size; (try simp at this); omega
    obtain ⟨hc, hf⟩ := bcell hb1
    have c1_0_0 : w1.cell? ⟨w.heap.size, 0, none⟩ = some (.int .i64 R) := (hc _ _ (by (try simp) <;> omega)).trans (by go_simp)
    have c1_0_1 : w1.cell? ⟨w.heap.size, 1, none⟩ = some ((.slice g M c)) := (hc _ _ (by (try simp) <;> omega)).trans (by go_simp)
    have c1_0_2 : w1.cell? ⟨w.heap.size, 2, none⟩ = some (.int .i64 x) := (hc _ _ (by (try simp) <;> omega)).trans (by go_simp)
    have c1_0_3 : w1.cell? ⟨w.heap.size, 3, none⟩ = some (.int .i64 y) := (hc _ _ (by (try simp) <;> omega)).trans (by go_simp)
    have z1_0 : ∀ j, w1.frozen? ⟨w.heap.size, j, none⟩ = false := fun j => (hf _ _ (by (try simp) <;> omega)).trans (by go_simp)
    clear hc hf hb1
    go_wp2_with fail
    refine (HC2.out _ HB1.out).mono ?_
    rintro en w2 ⟨g', c', rfl, hb2, hrow⟩
    have HROW := Kp.mk hrow
    have HB2 : Kp (Below w.heap.size w w2) := ⟨Below.trans (by repeat (first | refine Below.alloc ?_ (by have := HB1.out.size; (try simp) <;> omega) _ | refine bDrewN ?_ _ | refine Below.drew ?_ | refine Below.setCell ?_ (by have := HB1.out.size; (try simp) <;> omega) _ | exact HB1.out)) (hb2.mono (by have := HB1.out.size; (try simp) <;> omega))⟩
    have hz2_0 : w.heap.size < w2.heap.size := by have := hb2.size; (try simp at this); omega
    obtain ⟨hc, hf⟩ := bcell hb2
    have c2_0_0 : w2.cell? ⟨w.heap.size, 0, none⟩ = some (.int .i64 R) := (hc _ _ (by (try simp) <;> omega)).trans (by go_simp)
    have c2_0_1 : w2.cell? ⟨w.heap.size, 1, none⟩ = some ((.slice g M c)) := (hc _ _ (by (try simp) <;> omega)).trans (by go_simp)
    have c2_0_2 : w2.cell? ⟨w.heap.size, 2, none⟩ = some (.int .i64 x) := (hc _ _ (by (try simp) <;> omega)).trans (by go_simp)
    have c2_0_3 : w2.cell? ⟨w.heap.size, 3, none⟩ = some (.int .i64 y) := (hc _ _ (by (try simp) <;> omega)).trans (by go_simp)
    have z2_0 : ∀ j, w2.frozen? ⟨w.heap.size, j, none⟩ = false := fun j => (hf _ _ (by (try simp) <;> omega)).trans (by go_simp)
    clear hc hf hb2
    obtain ⟨B, hB⟩ : ∃ B, w.heap.size = B := ⟨_, rfl⟩
    have HC0 : Kp (CG w B R x y g' M c' ds 0 (w2.setCell ⟨B, 1, none⟩ (.slice g' M c'))) := ⟨by
      rw [hB] at c2_0_0 c2_0_1 c2_0_2 c2_0_3 hz1_0
      refine ⟨HB2.out.setCell (by simp only; omega) _, by go_simp, by go_simp, by go_simp, by go_simp, fun i d hd => ?_⟩
      obtain ⟨G, e, hG, hz, k1, k2, k3⟩ := HROW.out i d hd
      have hne : G ≠ B := by omega
      have o : ∀ i, (w2.setCell ⟨B, 1, none⟩ (.slice g' M c')).cell? ⟨G, i, none⟩ = w2.cell? ⟨G, i, none⟩ := fun i => World.cell?_setCell_other _ _ _ _ (by intro he; simp only [Addr.mk.injEq] at he; exact hne he.1.symm)
      exact ⟨G, e, hne, by have := HB1.out.size; omega, fun j => by simp [go_sem, hz], (o _).trans k1, (o _).trans k2, by rw [if_neg (by omega)]; exact (o _).trans k3⟩⟩
    try simp only [hB]
    rw [hB] at c2_0_0 c2_0_1 c2_0_2 c2_0_3 z2_0
    clear hrow HROW hB
    go_wp2_with fail
    clear c2_0_0 c2_0_1 c2_0_2 c2_0_3 z2_0
    go_loopw [15] (fun i wr => ∃ k : Nat, k ≤ M ∧ i = .int .i64 k ∧ Kp (CG w B R x y g' M c' ds k wr)) (fun i _ => M - (intOf i).toNat)
    case atStart => exact ⟨0, Nat.zero_le _, rfl, HC0⟩
    case round =>
      clear HC0
      obtain ⟨k, hk, rfl, HC⟩ := hrel
      by_cases hlt : k < M
      · obtain ⟨d, hd⟩ : ∃ d, ds[k]? = some d := ⟨_, List.getElem?_eq_getElem (by rw [HM.out]; exact hlt)⟩
        obtain ⟨G, hg, hne, hwG, hz, k1, k2, k3⟩ := HC.out.row k d hd
        subst hg
        have HP := Kp.mk (HC.out.put hd)
        have q1 := HC.out.h1
        have o1 : (k : Int) < (M : Int) := by omega
        have o4 : k ≤ 40 := by omega
        clear hd k1 k2
        go_wp2
        go_roundw
        case rel => exact ⟨k + 1, by omega, by go_num, HP⟩
        case measure => simp [intOf]; omega
      · have hkn : k = M := by omega
        have HDS : Kp (DS wr (.slice g' M c') (ones ds)) := ⟨(hkn ▸ HC.out : CG w B R x y g' M c' ds M wr).ds HM.out⟩
        have q0 := HC.out.h0
        have q1 := HC.out.h1
        have q2 := HC.out.h2
        have q3 := HC.out.h3
        have HBW := Kp.mk HC.out.below
        have o1 : ¬ (k : Int) < (M : Int) := by omega
        clear hkn HC
        go_wp2_with fail
        refine (HL2.out _ _ _ HDS.out).mono ?_
        rintro en w3 ⟨rfl, hb3⟩
        have HB3 := Kp.mk (HBW.out.trans (hb3.mono HBW.out.size))
        clear hb3 q0 q1 q2 q3
        go_wp2
        go_ret2
        exact ⟨rfl, HB3.out⟩
end Go.Proofs.Ythkamfjjfkpekaa.Pe
