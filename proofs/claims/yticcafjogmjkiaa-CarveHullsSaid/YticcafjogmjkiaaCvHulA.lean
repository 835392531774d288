/-
  WALKS (layer 5, carve): the first wrong square, whether views are possible, whether two views are the same; by the program and by the reference.
-/
import Derived.Test.YticcafjogmjkiaaCvRefO
namespace Go.Proofs.Yticcafjogmjkiaa.Cv
open Go Go.RowKit Go.Sort

def badAt (A B : List Bool) (i : Nat) : Bool := A.getD i false && !B.getD i false
def firstBad (A B : List Bool) : Option Nat := (List.range A.length).find? (badAt A B)
theorem firstBad_some {A B : List Bool} {i : Nat} (h1 : ∀ j, j < i → badAt A B j = false) (h2 : badAt A B i = true) (hi : i < A.length) : firstBad A B = some i := by
  unfold firstBad
  rw [List.find?_range_eq_some]
  exact ⟨h2, List.mem_range.2 hi, fun j hj => by rw [h1 j hj]; rfl⟩
theorem firstBad_none {A B : List Bool} (h : ∀ j, j < A.length → badAt A B j = false) : firstBad A B = none := by
  unfold firstBad
  rw [List.find?_eq_none]
  intro j hj
  rw [h j (List.mem_range.1 hj)]
  decide
theorem firstBad_dark {A B : List Bool} : firstBad A B = none ↔ darkB A B = true := by
  unfold firstBad darkB
  rw [List.find?_eq_none, decide_eq_true_eq]
  constructor
  · intro h i hi hd
    have := h i (List.mem_range.2 hi)
    unfold badAt at this
    rw [hd] at this
    simpa using this
  · intro h i hi
    have := h i (List.mem_range.1 hi)
    unfold badAt
    cases hd : A.getD i false with
    | false => simp
    | true => rw [this hd]; simp
/-- The first wrong square of three views. -/
def wrO (s : Nat) (a b c : List Bool) : Option (Nat × Nat) :=
  match firstBad a (viewL s 0 (hullB s a b c)) with
  | some i => some (0, i)
  | none => match firstBad b (viewL s 1 (hullB s a b c)) with
    | some i => some (1, i)
    | none => match firstBad c (viewL s 2 (hullB s a b c)) with
      | some i => some (2, i)
      | none => none
theorem wrO_some {s k i : Nat} {a b c : List Bool} (hk : k < 3) (h : ∀ j, j < k → firstBad (hs3 a b c j) (viewL s j (hullB s a b c)) = none) (hi : firstBad (hs3 a b c k) (viewL s k (hullB s a b c)) = some i) : wrO s a b c = some (k, i) := by
  unfold wrO
  match k, hk with
  | 0, _ =>
    have e : firstBad a (viewL s 0 (hullB s a b c)) = some i := hi
    rw [e]
  | 1, _ =>
    have e0 : firstBad a (viewL s 0 (hullB s a b c)) = none := h 0 (by omega)
    have e : firstBad b (viewL s 1 (hullB s a b c)) = some i := hi
    rw [e0, e]
  | 2, _ =>
    have e0 : firstBad a (viewL s 0 (hullB s a b c)) = none := h 0 (by omega)
    have e1 : firstBad b (viewL s 1 (hullB s a b c)) = none := h 1 (by omega)
    have e : firstBad c (viewL s 2 (hullB s a b c)) = some i := hi
    rw [e0, e1, e]
theorem wrO_none {s : Nat} {a b c : List Bool} (h : ∀ j, j < 3 → firstBad (hs3 a b c j) (viewL s j (hullB s a b c)) = none) : wrO s a b c = none := by
  unfold wrO
  have e0 : firstBad a (viewL s 0 (hullB s a b c)) = none := h 0 (by omega)
  have e1 : firstBad b (viewL s 1 (hullB s a b c)) = none := h 1 (by omega)
  have e2 : firstBad c (viewL s 2 (hullB s a b c)) = none := h 2 (by omega)
  rw [e0, e1, e2]
/-- What is answered of it. -/
def wrR (s : Nat) : Option (Nat × Nat) → Int × Int × Int × Int
  | some (k, i) => ((k : Int), ((i % s : Nat) : Int), ((i / s : Nat) : Int), 0)
  | none => (0, 0, 0, 8)
def wnR (sx sy sz : Int) (a b c : List Bool) : Int × Int × Int × Int := if hullOk sx sy sz a b c = true then wrR sx.toNat (wrO sx.toNat a b c) else (0, 0, 0, 1)
def WrPost (r : Int × Int × Int × Int) (w : World) (e : Ending) (w' : World) : Prop := e = .returned (.tuple #[.int .i64 r.1, .int .i64 r.2.1, .int .i64 r.2.2.1, .int .i64 r.2.2.2]) ∧ Below w.heap.size w w'
theorem vone_start {w W1 : World} {a b : Value} {t : TypeId} (h : w.alloc (.cells #[a, b] t) = W1) : Below w.heap.size w W1 ∧ W1.cell? ⟨w.heap.size, 0, none⟩ = some a ∧ W1.cell? ⟨w.heap.size, 1, none⟩ = some b := by
  subst h
  exact ⟨by repeat (first | exact Below.refl _ _ | refine Below.alloc ?_ (by simp <;> omega) _ | refine bDrewN ?_ _ | refine Below.drew ?_), by go_simp, by go_simp⟩
theorem Wrong_no (sx sy sz : Int) (g1 g2 g3 : Option Addr) (n1 c1 n2 c2 n3 c3 : Nat) (w : World) (HH : Kp (∀ W, Below w.heap.size w W → Calls Try.prog 37 #[.agg #[.int .i64 sx, .slice g1 n1 c1], .agg #[.int .i64 sy, .slice g2 n2 c2], .agg #[.int .i64 sz, .slice g3 n3 c3]] W fun e w' => (∃ x g n c, e = .returned (.tuple #[.agg #[.int .i64 x, .slice g n c], .int .i64 1])) ∧ Below W.heap.size W w')) :
    Calls Try.prog 41 #[.agg #[.int .i64 sx, .slice g1 n1 c1], .agg #[.int .i64 sy, .slice g2 n2 c2], .agg #[.int .i64 sz, .slice g3 n3 c3]] w (WrPost (0, 0, 0, 1) w) := by
  go_enter Try.func41, Try.ntmps41
  go_wp2_with fail
  refine (HH.out _ (by repeat (first | exact Below.refl _ _ | refine Below.alloc ?_ (by simp <;> omega) _ | refine bDrewN ?_ _ | refine Below.drew ?_))).mono ?_
  rintro en w1 ⟨⟨x, g, n, c, rfl⟩, hb1⟩
  have HB1 : Kp (Below w.heap.size w w1) := ⟨Below.trans (by repeat (first | exact Below.refl _ _ | refine Below.alloc ?_ (by simp <;> omega) _ | refine bDrewN ?_ _ | refine Below.drew ?_)) (hb1.mono (by simp <;> omega))⟩
  clear hb1
  go_wp2
  exact bodyPost_ret (v := .tuple #[.int .i64 0, .int .i64 0, .int .i64 0, .int .i64 1]) (by simp [results, Try.results41, go_sem]) rfl ⟨rfl, HB1.out.alloc HB1.out.size _⟩
set_option maxRecDepth 100000 in
set_option maxHeartbeats 2000000 in
theorem Wrong_in (s N N3 : Nat) (g1 g2 g3 : Option Addr) (c1 c2 c3 : Nat) (a b c : List Bool) (w : World) (hs1 : 1 ≤ s) (hs2 : s ≤ 10) (hN : s * s = N) (hu : LB w (.slice g1 N c1) a) (hv : LB w (.slice g2 N c2) b) (ht : LB w (.slice g3 N c3) c) (la : a.length = N) (lb : b.length = N) (lc : c.length = N)
    (HH : Kp (∀ W, Below w.heap.size w W → Calls Try.prog 37 #[.agg #[.int .i64 s, .slice g1 N c1], .agg #[.int .i64 s, .slice g2 N c2], .agg #[.int .i64 s, .slice g3 N c3]] W fun e w' => ∃ g c', e = .returned (.tuple #[.agg #[.int .i64 s, .slice g N3 c'], .int .i64 0]) ∧ LB w' (.slice g N3 c') (hullB s a b c) ∧ Below W.heap.size W w')) :
    Calls Try.prog 41 #[.agg #[.int .i64 s, .slice g1 N c1], .agg #[.int .i64 s, .slice g2 N c2], .agg #[.int .i64 s, .slice g3 N c3]] w (WrPost (wrR s (wrO s a b c)) w) := by
  have HV : Kp (∀ W (k : Nat) g c', k < 3 → LB W (.slice g N3 c') (hullB s a b c) → Calls Try.prog 86 #[.agg #[.int .i64 s, .slice g N3 c'], .int .i64 k] W fun e w' => ∃ gv cv, e = .returned (.agg #[.int .i64 s, .slice gv N cv]) ∧ LB w' (.slice gv N cv) (viewL s k (hullB s a b c)) ∧ Below W.heap.size W w') := ⟨fun W k g c' hk hl => by
    obtain ⟨f, hf⟩ := axFs k hk
    have hlen : (hullB s a b c).length = s * s * s := by
      unfold hullB
      rw [List.length_map, places_len]
    refine (view_any s _ (hullB s a b c) k f (axSq k) hf W hs1 hs2 hlen hl).mono ?_
    rintro e w' ⟨u, rfl, hu, hb⟩
    rw [cnts_view] at hu
    have hl2 := hu.lb
    obtain ⟨gv, cv, rfl⟩ := hl2.shape
    rw [viewL_len, hN] at hl2
    rw [viewL_len, hN]
    exact ⟨gv, cv, rfl, hl2, hb⟩⟩
  have HIX : Kp (∀ k : Nat, k < 3 → ∃ gk ck, (∀ W, (Instr.index 98 (.agg #[.int .i64 s, .slice g1 N c1, .int .i64 s, .slice g2 N c2, .int .i64 s, .slice g3 N c3]) (.int .i64 (k : Int))).run Try.prog W = .ok (.agg #[.int .i64 s, .slice gk N ck]) W) ∧ LB w (.slice gk N ck) (hs3 a b c k) ∧ (hs3 a b c k).length = N) := ⟨fun k hk => by
    match k, hk with
    | 0, _ => exact ⟨g1, c1, fun W => rfl, hu, la⟩
    | 1, _ => exact ⟨g2, c2, fun W => rfl, hv, lb⟩
    | 2, _ => exact ⟨g3, c3, fun W => rfl, ht, lc⟩⟩
  have HVL : Kp (∀ k, (viewL s k (hullB s a b c)).length = N) := ⟨fun k => by rw [viewL_len, hN]⟩
  obtain ⟨R, hR⟩ : ∃ R, wrR s (wrO s a b c) = R := ⟨_, rfl⟩
  have HSOME : Kp (∀ k i, k < 3 → (∀ j, j < k → firstBad (hs3 a b c j) (viewL s j (hullB s a b c)) = none) → firstBad (hs3 a b c k) (viewL s k (hullB s a b c)) = some i → ((k : Int), ((i % s : Nat) : Int), ((i / s : Nat) : Int), (0 : Int)) = R) := ⟨fun k i hk h hi => by rw [← hR, wrO_some hk h hi]; rfl⟩
  have HNONE : Kp ((∀ j, j < 3 → firstBad (hs3 a b c j) (viewL s j (hullB s a b c)) = none) → ((0 : Int), (0 : Int), (0 : Int), (8 : Int)) = R) := ⟨fun h => by rw [← hR, wrO_none h]; rfl⟩
  rw [hR]
  have HN1 : Kp (N ≤ 100) := ⟨by rw [← hN]; exact (cube_bd hs2).1⟩
  have HS1 := Kp.mk (And.intro hs1 hs2)
  obtain ⟨X, hX⟩ : ∃ X, hullB s a b c = X := ⟨_, rfl⟩
  rw [hX] at HH HV HVL HSOME HNONE
  clear hu hv ht la lb lc hN hR hX hs1 hs2
  go_enter Try.func41, Try.ntmps41
  go_wp2_with fail
  refine (HH.out _ (by repeat (first | exact Below.refl _ _ | refine Below.alloc ?_ (by simp <;> omega) _ | refine bDrewN ?_ _ | refine Below.drew ?_))).mono ?_
  rintro en w1 ⟨gh, ch, rfl, hh, hb1⟩
  have HB1 : Kp (Below w.heap.size w w1) := ⟨Below.trans (by repeat (first | refine Below.alloc ?_ (by (try simp) <;> omega) _ | refine bDrewN ?_ _ | refine Below.drew ?_ | refine Below.setCell ?_ (by (try simp) <;> omega) _ | exact Below.refl _ _)) (hb1.mono (by (try simp) <;> omega))⟩
  have hz1_0 : w.heap.size < w1.heap.size := by have := hb1.size; (try simp at this); omega
  have hz1_1 : w.heap.size + 1 < w1.heap.size := by have := hb1.size; (try simp at this); omega
  have hz1_2 : w.heap.size + 1 + 1 < w1.heap.size := by have := hb1.size; (try simp at this); omega
  obtain ⟨hc, hf⟩ := bcell hb1
  have c1_0_0 : w1.cell? ⟨w.heap.size, 0, none⟩ = some (.int .i64 s) := (hc _ _ (by (try simp) <;> omega)).trans (by go_simp)
  have c1_0_1 : w1.cell? ⟨w.heap.size, 1, none⟩ = some ((.slice g1 N c1)) := (hc _ _ (by (try simp) <;> omega)).trans (by go_simp)
  have z1_0 : ∀ j, w1.frozen? ⟨w.heap.size, j, none⟩ = false := fun j => (hf _ _ (by (try simp) <;> omega)).trans (by go_simp)
  have c1_1_0 : w1.cell? ⟨w.heap.size + 1, 0, none⟩ = some (.int .i64 s) := (hc _ _ (by (try simp) <;> omega)).trans (by go_simp)
  have c1_1_1 : w1.cell? ⟨w.heap.size + 1, 1, none⟩ = some ((.slice g2 N c2)) := (hc _ _ (by (try simp) <;> omega)).trans (by go_simp)
  have z1_1 : ∀ j, w1.frozen? ⟨w.heap.size + 1, j, none⟩ = false := fun j => (hf _ _ (by (try simp) <;> omega)).trans (by go_simp)
  have c1_2_0 : w1.cell? ⟨w.heap.size + 1 + 1, 0, none⟩ = some (.int .i64 s) := (hc _ _ (by (try simp) <;> omega)).trans (by go_simp)
  have c1_2_1 : w1.cell? ⟨w.heap.size + 1 + 1, 1, none⟩ = some ((.slice g3 N c3)) := (hc _ _ (by (try simp) <;> omega)).trans (by go_simp)
  have z1_2 : ∀ j, w1.frozen? ⟨w.heap.size + 1 + 1, j, none⟩ = false := fun j => (hf _ _ (by (try simp) <;> omega)).trans (by go_simp)
  clear hc hf hb1
  go_wp2
  obtain ⟨W2, hW2⟩ : ∃ W2, w1.alloc (.cells #[.int .i64 s, .slice gh N3 ch] 24) = W2 := ⟨_, rfl⟩
  rw [hW2]
  obtain ⟨hb2, e0, e1, -⟩ := one_start hW2
  have HE0 := Kp.mk (And.intro (World.block_lt_of_cell? _ _ e0) (And.intro e0 e1))
  have HB2 : Kp (Below w.heap.size w W2) := ⟨HB1.out.trans (hb2.mono HB1.out.size)⟩
  have HHL : Kp (LB W2 (.slice gh N3 ch) X) := ⟨hh.below hb2⟩
  clear hW2 hb2 hh e0 e1 c1_0_0 c1_0_1 z1_0 hz1_0 c1_1_0 c1_1_1 z1_1 hz1_1 c1_2_0 c1_2_1 z1_2 hz1_2 HB1 HH
  generalize w1.heap.size = Q at *
  go_loopw [30] (fun i wr => ∃ k : Nat, k ≤ 3 ∧ i = .int .i64 k ∧ Kp (∀ j, j < k → firstBad (hs3 a b c j) (viewL s j X) = none) ∧ Kp (Below W2.heap.size W2 wr)) (fun i _ => 3 - (intOf i).toNat)
  case atStart => exact ⟨0, by omega, rfl, ⟨fun j hj => absurd hj (by omega)⟩, ⟨Below.refl _ _⟩⟩
  case round =>
    obtain ⟨k, hk, rfl, HF, HB⟩ := hrel
    by_cases hlt : k < 3
    · obtain ⟨gk, ck, hix, hlk, hnk⟩ := HIX.out k hlt
      have o1 : (k : Int) < 3 := by omega
      have q0 : wr.cell? ⟨Q, 0, none⟩ = some (.int .i64 s) := (HB.out.cell (p := ⟨Q, 0, none⟩) HE0.out.1).trans HE0.out.2.1
      have q1 : wr.cell? ⟨Q, 1, none⟩ = some (.slice gh N3 ch) := (HB.out.cell (p := ⟨Q, 1, none⟩) HE0.out.1).trans HE0.out.2.2
      have hQr := Nat.lt_of_lt_of_le HE0.out.1 HB.out.size
      have hbz : Below wr.heap.size wr (wr.alloc (.cells #[.int .i64 s, .slice gk N ck] 25)) := by repeat (first | exact Below.refl _ _ | refine Below.alloc ?_ (by simp <;> omega) _ | refine bDrewN ?_ _ | refine Below.drew ?_)
      have hbg : Below W2.heap.size W2 (wr.alloc (.cells #[.int .i64 s, .slice gk N ck] 25)) := HB.out.trans (hbz.mono HB.out.size)
      have HVK := Kp.mk (HV.out (wr.alloc (.cells #[.int .i64 s, .slice gk N ck] 25)) k gh ch hlt (HHL.out.below hbg))
      have HBG := Kp.mk hbg
      have HK3 := Kp.mk hlt
      obtain ⟨A, hA⟩ : ∃ A, hs3 a b c k = A := ⟨_, rfl⟩
      obtain ⟨V, hV⟩ : ∃ V, viewL s k X = V := ⟨_, rfl⟩
      have HVV := Kp.mk (HVL.out k)
      rw [hV] at HVK HVV
      rw [hA] at hlk hnk
      have HAV := Kp.mk (And.intro hA hV)
      have HNK := Kp.mk hnk
      obtain ⟨g', c', e', -, hi⟩ := hlk
      simp only [Value.slice.injEq] at e'
      obtain ⟨rfl, -, rfl⟩ := e'
      have HS := Lib.hid hi
      clear hi hbz hbg hA hV hlt hnk
      go_wp2_with fail
      refine HVK.out.mono ?_
      rintro en w5 ⟨gv, cv, rfl, hl5, hb5⟩
      have HB5 : Kp (Below W2.heap.size W2 w5) := ⟨HBG.out.trans (hb5.mono HBG.out.size)⟩
      obtain ⟨G, hG⟩ : ∃ G, wr.heap.size = G := ⟨_, rfl⟩
      have d1 : w5.cell? ⟨G, 1, none⟩ = some (.slice gk N ck) := (hb5.cell (p := ⟨G, 1, none⟩) (by rw [← hG]; simp)).trans (by subst hG; go_simp)
      obtain ⟨g2', c2', e2', -, hi2⟩ := hl5
      simp only [Value.slice.injEq] at e2'
      obtain ⟨rfl, -, rfl⟩ := e2'
      have HS2 := Lib.hid hi2
      have hGl := World.block_lt_of_cell? _ _ d1
      rw [hG]
      clear hb5 hG q0 q1 hQr hi2
      go_wp2
      obtain ⟨W6, hW6⟩ : ∃ W6, w5.alloc (.cells #[.int .i64 s, .slice gv N cv] 25) = W6 := ⟨_, rfl⟩
      obtain ⟨hb6, -, s1⟩ := vone_start hW6
      rw [hW6]
      have HB6 : Kp (Below W2.heap.size W2 W6) := ⟨HB5.out.trans (hb6.mono HB5.out.size)⟩
      have HS6 := Kp.mk (And.intro (World.block_lt_of_cell? _ _ s1) s1)
      have HBB6 := Kp.mk hb6
      clear hW6 hb6 s1 d1
      generalize w5.heap.size = T at *
      go_loopw [40] (fun i wr => ∃ j : Nat, j ≤ N ∧ i = .int .i64 j ∧ Kp (∀ l, l < j → badAt A V l = false) ∧ Kp (Below W6.heap.size W6 wr)) (fun i _ => N - (intOf i).toNat)
      case atStart => exact ⟨0, Nat.zero_le _, rfl, ⟨fun l hl => absurd hl (by omega)⟩, ⟨Below.refl _ _⟩⟩
      case round =>
        obtain ⟨j, hj, rfl, HJ, HB8⟩ := hrel
        by_cases hlj : j < N
        · obtain ⟨x, hx⟩ : ∃ x, A[j]? = some x := ⟨_, List.getElem?_eq_getElem (by rw [HNK.out]; exact hlj)⟩
          obtain ⟨y, hy⟩ : ∃ y, V[j]? = some y := ⟨_, List.getElem?_eq_getElem (by rw [HVV.out]; exact hlj)⟩
          obtain ⟨b1, o1', hg, hbl, hca⟩ := HS.out j x hx
          subst hg
          obtain ⟨b2, o2', hg2, hbl2, hcb⟩ := HS2.out j y hy
          subst hg2
          have hw8 : Below W2.heap.size W2 wr := HB6.out.trans (HB8.out.mono HB6.out.size)
          have hw0 := HB2.out.trans (hw8.mono HB2.out.size)
          have hw5 := HBB6.out.trans (HB8.out.mono (Nat.le_of_lt HS6.out.1))
          have a1 : wr.cell? ⟨b1, o1' + j, none⟩ = some (.bool x) := (hw0.cell (p := ⟨b1, _, none⟩) hbl).trans hca
          have a2 : wr.cell? ⟨b2, o2' + j, none⟩ = some (.bool y) := (hw5.cell (p := ⟨b2, _, none⟩) hbl2).trans hcb
          have a3 := (HB8.out.cell (p := ⟨T, 1, none⟩) HS6.out.1).trans HS6.out.2
          have a4 := (hw8.cell (p := ⟨Q, 0, none⟩) HE0.out.1).trans HE0.out.2.1
          have HW0 := Kp.mk hw0
          have hbad : badAt A V j = (x && !y) := by unfold badAt; rw [List.getD_eq_getElem?_getD, List.getD_eq_getElem?_getD, hx, hy]; rfl
          have HBAD := Kp.mk hbad
          have o2 : (j : Int) < (N : Int) := by omega
          have o4 : j ≤ 100 := by have := HN1.out; omega
          have HJN := Kp.mk hlj
          have more : badAt A V j = false → Kp (∀ l, l < j + 1 → badAt A V l = false) := fun e => ⟨fun l hl => by
            by_cases e2 : l = j
            · subst e2
              exact e
            · exact HJ.out l (by omega)⟩
          clear hx hy hca hcb hbl hbl2 hw8 hw0 hw5 hbad
          cases x with
          | false =>
            have HM := more HBAD.out
            clear more
            go_wp2
            go_roundw
            case rel => exact ⟨j + 1, by omega, by go_num, HM, HB8⟩
            case measure => simp [intOf]; omega
          | true =>
            cases y with
            | true =>
              have HM := more HBAD.out
              clear more
              go_wp2
              go_roundw
              case rel => exact ⟨j + 1, by omega, by go_num, HM, HB8⟩
              case measure => simp [intOf]; omega
            | false =>
              have HR := Kp.mk (HSOME.out k j HK3.out HF.out (by rw [HAV.out.1, HAV.out.2]; exact firstBad_some HJ.out HBAD.out (by rw [HNK.out]; exact HJN.out)))
              have hs := HS1.out
              obtain ⟨q, hq⟩ : ∃ q, j / s = q := ⟨_, rfl⟩
              obtain ⟨m, hm⟩ : ∃ m, j % s = m := ⟨_, rfl⟩
              have hql : q ≤ j := by rw [← hq]; exact Nat.div_le_self j s
              have f1 : (j : Int).tmod s = (m : Int) := by rw [rem_nat, hm]
              have f2 : IntKind.i64.wrap ((j : Int) / s) = (q : Int) := by rw [← Int.natCast_ediv, hq]; exact wrap_nat (by omega)
              have hs0 : ¬ s = 0 := by omega
              rw [hq, hm] at HR
              have r1 := fun d os => cell_regrown a4 d os
              clear more hq hm hql hs
              go_wp2
              refine wp_region_quiet_below (by kernel_rfl) (by kernel_rfl) ?_
              repeat (any_goals (first | go_big_quiet_step (fail) | quiet_step (fail)))
              refine wpQuiet_nil ?_
              intro _ hqw
              obtain ⟨⟨dq, osq⟩, hqv⟩ := hqw
              subst hqv
              go_wp2
              exact bodyPost_ret (v := .tuple #[.int .i64 k, .int .i64 m, .int .i64 q, .int .i64 0]) (by simp [results, Try.results41, go_sem]) rfl ⟨by rw [← HR.out], HW0.out.trans ((below_regrown wr dq osq).mono HW0.out.size)⟩
        · have hjn : j = N := by omega
          have HF2 : Kp (∀ l, l < k + 1 → firstBad (hs3 a b c l) (viewL s l X) = none) := ⟨fun l hl => by
            by_cases e2 : l = k
            · subst e2
              rw [HAV.out.1, HAV.out.2]
              exact firstBad_none fun i hi => HJ.out i (by rw [HNK.out] at hi; omega)
            · exact HF.out l (by omega)⟩
          have HB9 : Kp (Below W2.heap.size W2 wr) := ⟨HB6.out.trans (HB8.out.mono HB6.out.size)⟩
          have o2 : ¬ (j : Int) < (N : Int) := by omega
          have hk3 := HK3.out
          clear hjn
          go_wp2
          go_roundw
          case rel => exact ⟨k + 1, by omega, by go_num, HF2, HB9⟩
          case measure => simp [intOf]; omega
    · have hk3 : k = 3 := by omega
      have HR : Kp (((0 : Int), (0 : Int), (0 : Int), (8 : Int)) = R) := ⟨HNONE.out fun j hj => HF.out j (by omega)⟩
      have HB9 : Kp (Below w.heap.size w wr) := ⟨HB2.out.trans (HB.out.mono HB2.out.size)⟩
      have o1 : ¬ (k : Int) < 3 := by omega
      clear hk3
      go_wp2
      exact bodyPost_ret (v := .tuple #[.int .i64 0, .int .i64 0, .int .i64 0, .int .i64 8]) (by simp [results, Try.results41, go_sem]) rfl ⟨by rw [← HR.out], HB9.out⟩
theorem Wrong_any (sx sy sz : Int) (u v x : Value) (a b c : List Bool) (w : World) (hu : LB w u a) (hv : LB w v b) (hx : LB w x c) :
    Calls Try.prog 41 #[.agg #[.int .i64 sx, u], .agg #[.int .i64 sy, v], .agg #[.int .i64 sz, x]] w (WrPost (wnR sx sy sz a b c) w) := by
  obtain ⟨g1, c1, rfl⟩ := hu.shape
  obtain ⟨g2, c2, rfl⟩ := hv.shape
  obtain ⟨g3, c3, rfl⟩ := hx.shape
  unfold wnR
  cases hok : hullOk sx sy sz a b c with
  | false =>
    rw [if_neg (by decide)]
    have e1 : hullE sx sy sz a b c = 1 := by unfold hullE; rw [hok]; rfl
    refine Wrong_no sx sy sz g1 g2 g3 _ c1 _ c2 _ c3 w ⟨fun W hW => ?_⟩
    refine (Hull_any sx sy sz _ _ _ a b c W (hu.below hW) (hv.below hW) (hx.below hW)).mono ?_
    rintro e w' ⟨r, rfl, ⟨z, rfl, hz⟩, hb⟩
    obtain ⟨g, c', rfl⟩ := hz.shape
    exact ⟨⟨_, g, _, c', by rw [e1]⟩, hb⟩
  | true =>
    rw [if_pos rfl]
    unfold hullOk viewB at hok
    simp only [Bool.and_eq_true, decide_eq_true_eq] at hok
    obtain ⟨⟨h1, l1⟩, ⟨-, l2⟩, ⟨-, l3⟩, rfl, rfl⟩ := hok
    have hs := side_iff.1 h1
    obtain ⟨n, rfl⟩ : ∃ n : Nat, sx = n := ⟨sx.toNat, by omega⟩
    rw [← Int.natCast_mul] at l1 l2 l3
    have l1 := Int.ofNat.inj l1
    have l2 := Int.ofNat.inj l2
    have l3 := Int.ofNat.inj l3
    have hn1 : 1 ≤ n := by omega
    have hn2 : n ≤ 10 := by omega
    rw [l1] at hu ⊢
    rw [l2] at hv ⊢
    rw [l3] at hx ⊢
    rw [Int.toNat_natCast]
    refine Wrong_in n (n * n) (n * n * n) g1 g2 g3 c1 c2 c3 a b c w hn1 hn2 rfl hu hv hx l1 l2 l3 ⟨fun W hW => ?_⟩
    have hlen : (hullB n a b c).length = n * n * n := by
      unfold hullB
      rw [List.length_map, places_len]
    have k1 := hu.below hW
    have k2 := hv.below hW
    have k3 := hx.below hW
    rw [← l1] at k1
    refine (Hull_in n _ _ _ a b c W hn1 hn2 (hu.below hW) (hv.below hW) (hx.below hW) l1 l2 l3).mono ?_
    rintro e w' ⟨r, rfl, ⟨z, rfl, hz⟩, hb⟩
    obtain ⟨g, c', rfl⟩ := hz.shape
    rw [hlen] at hz ⊢
    exact ⟨g, c', rfl, hz, hb⟩
def pssB (sx sy sz : Int) (a b c : List Bool) : Bool := decide ((wnR sx sy sz a b c).2.2.2 = 8)
theorem wnR_err (sx sy sz : Int) (a b c : List Bool) : ((wnR sx sy sz a b c).2.2.2 = 1 ∧ hullE sx sy sz a b c = 1) ∨ (((wnR sx sy sz a b c).2.2.2 = 0 ∨ (wnR sx sy sz a b c).2.2.2 = 8) ∧ hullE sx sy sz a b c = 0) := by
  unfold wnR hullE
  cases hok : hullOk sx sy sz a b c with
  | false => exact .inl ⟨rfl, rfl⟩
  | true =>
    refine .inr ⟨?_, rfl⟩
    rw [if_pos rfl]
    cases wrO sx.toNat a b c with
    | none => exact .inr rfl
    | some p => exact .inl rfl
theorem Possible_any (sx sy sz : Int) (u v x : Value) (a b c : List Bool) (w : World) (hu : LB w u a) (hv : LB w v b) (hx : LB w x c) :
    Calls Try.prog 39 #[.agg #[.int .i64 sx, u], .agg #[.int .i64 sy, v], .agg #[.int .i64 sz, x]] w fun e w' => e = .returned (.tuple #[.bool (pssB sx sy sz a b c), .int .i64 (hullE sx sy sz a b c)]) ∧ Below w.heap.size w w' := by
  have HW : Kp (∀ W, Below w.heap.size w W → Calls Try.prog 41 #[.agg #[.int .i64 sx, u], .agg #[.int .i64 sy, v], .agg #[.int .i64 sz, x]] W (WrPost (wnR sx sy sz a b c) W)) := ⟨fun W hW => Wrong_any sx sy sz u v x a b c W (hu.below hW) (hv.below hW) (hx.below hW)⟩
  have hE := wnR_err sx sy sz a b c
  obtain ⟨g1, c1, rfl⟩ := hu.shape
  obtain ⟨g2, c2, rfl⟩ := hv.shape
  obtain ⟨g3, c3, rfl⟩ := hx.shape
  unfold pssB
  unfold WrPost at HW
  obtain ⟨⟨r1, r2, r3, r4⟩, hR⟩ : ∃ R, wnR sx sy sz a b c = R := ⟨_, rfl⟩
  obtain ⟨E, hEE⟩ : ∃ E, hullE sx sy sz a b c = E := ⟨_, rfl⟩
  obtain ⟨n1, hn1⟩ : ∃ n1, a.length = n1 := ⟨_, rfl⟩
  obtain ⟨n2, hn2⟩ : ∃ n2, b.length = n2 := ⟨_, rfl⟩
  obtain ⟨n3, hn3⟩ : ∃ n3, c.length = n3 := ⟨_, rfl⟩
  rw [hR, hn1, hn2, hn3] at HW
  rw [hR, hEE] at hE
  rw [hR, hEE, hn1, hn2, hn3]
  simp only at HW hE ⊢
  clear hu hv hx hR hEE hn1 hn2 hn3
  rcases hE with ⟨rfl, rfl⟩ | ⟨rfl | rfl, rfl⟩
  all_goals
    go_enter Try.func39, Try.ntmps39
    go_wp2_with fail
    refine (HW.out _ (by repeat (first | exact Below.refl _ _ | refine Below.alloc ?_ (by simp <;> omega) _ | refine bDrewN ?_ _ | refine Below.drew ?_))).mono ?_
    rintro en w1 ⟨rfl, hb1⟩
    have HB1 : Kp (Below w.heap.size w w1) := ⟨Below.trans (by repeat (first | exact Below.refl _ _ | refine Below.alloc ?_ (by simp <;> omega) _ | refine bDrewN ?_ _ | refine Below.drew ?_)) (hb1.mono (by simp <;> omega))⟩
    clear hb1
    go_wp2
    go_ret2
    exact ⟨rfl, HB1.out⟩
set_option maxHeartbeats 1000000 in
theorem rsame_row (n : Int) (N : Nat) (g g2 : Option Addr) (c c2 : Nat) (h h' : List Bool) (w : World) (hm : N ≤ 100000) (lh : h.length = N) (lk : h'.length = N) (hv : LB w (.slice g N c) h) (hu : LB w (.slice g2 N c2) h') :
    Calls Try.prog 25 #[.agg #[.int .i64 n, .slice g N c], .agg #[.int .i64 n, .slice g2 N c2]] w fun e w' => e = .returned (.bool (decide (h = h'))) ∧ Below w.heap.size w w' := by
  obtain ⟨ga, ca, ea, -, hi⟩ := hv
  obtain ⟨gb, cb, eb, -, hi2⟩ := hu
  simp only [Value.slice.injEq] at ea eb
  obtain ⟨rfl, -, rfl⟩ := ea
  obtain ⟨rfl, -, rfl⟩ := eb
  have HS := Kp.mk hi
  have HS2 := Kp.mk hi2
  have HL := Kp.mk (And.intro lh lk)
  clear hi hi2 lh lk
  have t1 : (n != n) = false := by simp
  have t2 : ((N : Int) != (N : Int)) = false := by simp
  go_enter Try.func25, Try.ntmps25
  go_wp2
  obtain ⟨W1, hW1⟩ : ∃ W1, (w.alloc (.cells #[.int .i64 n, .slice g N c] 24)).alloc (.cells #[.int .i64 n, .slice g2 N c2] 24) = W1 := ⟨_, rfl⟩
  rw [hW1]
  obtain ⟨hb1, -, e1, -, e3⟩ := two_start hW1
  have HB1 := Kp.mk hb1
  have E1 := Kp.mk (And.intro (World.block_lt_of_cell? _ _ e1) e1)
  have E3 := Kp.mk (And.intro (World.block_lt_of_cell? _ _ e3) e3)
  have HB0 : Kp (Below W1.heap.size W1 W1) := ⟨Below.refl _ _⟩
  clear hW1 hb1 e1 e3 t1 t2
  go_loopw [23] (fun i wr => ∃ k : Nat, k ≤ N ∧ i = .int .i64 k ∧ Kp (∀ j, j < k → h[j]? = h'[j]?) ∧ Kp (Below W1.heap.size W1 wr)) (fun i _ => N - (intOf i).toNat)
  case atStart => exact ⟨0, Nat.zero_le _, rfl, ⟨fun j hj => absurd hj (by omega)⟩, HB0⟩
  case round =>
    clear HB0
    obtain ⟨k, hk, rfl, HK, HB⟩ := hrel
    by_cases hlt : k < N
    · obtain ⟨x, hx⟩ : ∃ x, h[k]? = some x := ⟨_, List.getElem?_eq_getElem (by rw [HL.out.1]; exact hlt)⟩
      obtain ⟨y, hy⟩ : ∃ y, h'[k]? = some y := ⟨_, List.getElem?_eq_getElem (by rw [HL.out.2]; exact hlt)⟩
      obtain ⟨b, o, hg, hbl, hc1⟩ := HS.out k x hx
      obtain ⟨b2, o2, hg2, hbl2, hd1⟩ := HS2.out k y hy
      subst hg hg2
      have hz := HB1.out.size
      have c1 : wr.cell? ⟨b, o + k, none⟩ = some (.bool x) := (HB.out.cell (p := ⟨b, _, none⟩) (Nat.lt_of_lt_of_le hbl hz)).trans ((HB1.out.cell (p := ⟨b, _, none⟩) hbl).trans hc1)
      have d1 : wr.cell? ⟨b2, o2 + k, none⟩ = some (.bool y) := (HB.out.cell (p := ⟨b2, _, none⟩) (Nat.lt_of_lt_of_le hbl2 hz)).trans ((HB1.out.cell (p := ⟨b2, _, none⟩) hbl2).trans hd1)
      have p1 := (HB.out.cell (p := ⟨_, 1, none⟩) E1.out.1).trans E1.out.2
      have p3 := (HB.out.cell (p := ⟨_, 1, none⟩) E3.out.1).trans E3.out.2
      have o1 : (k : Int) < (N : Int) := by omega
      have o4 : k ≤ 100000 := by omega
      have r1 := fun d os => cell_regrown c1 d os
      have r2 := fun d os => cell_regrown d1 d os
      have r3 := fun d os => cell_regrown p1 d os
      have r4 := fun d os => cell_regrown p3 d os
      have HBR : Kp (∀ dq osq, Below W1.heap.size W1 (grow (redrawn wr dq) osq)) := ⟨fun d os => HB.out.trans ((below_regrown wr d os).mono HB.out.size)⟩
      by_cases hxy : x = y
      · subst hxy
        have HK2 : Kp (∀ j, j < k + 1 → h[j]? = h'[j]?) := ⟨fun j hj => by
          by_cases e : j = k
          · subst e
            rw [hx, hy]
          · exact HK.out j (by omega)⟩
        have t1 : (x != x) = false := by simp
        clear c1 d1 p1 p3 hc1 hd1 hx hy hz hbl hbl2
        go_wp2
        refine wp_region_quiet_below (by kernel_rfl) (by kernel_rfl) ?_
        repeat (any_goals (first | go_big_quiet_step (fail) | quiet_step (fail)))
        refine wpQuiet_nil ?_
        intro _ hqw
        obtain ⟨⟨dq, osq⟩, hqv⟩ := hqw
        subst hqv
        have HB2 := Kp.mk (HBR.out dq osq)
        clear r1 r2 r3 r4 HBR
        go_wp2
        go_roundw
        case rel => exact ⟨k + 1, by omega, by go_num, HK2, HB2⟩
        case measure => simp [intOf]; omega
      · have HD : Kp (decide (h = h') = false) := ⟨decide_eq_false fun e => by
          rw [e, hy] at hx
          exact hxy (Option.some.inj hx).symm⟩
        clear c1 d1 p1 p3 hc1 hd1 hx hy hz hbl hbl2
        cases x <;> cases y
        all_goals first
          | exact absurd rfl hxy
          | skip
        all_goals
          clear hxy
          go_wp2
          refine wp_region_quiet_below (by kernel_rfl) (by kernel_rfl) ?_
          repeat (any_goals (first | go_big_quiet_step (fail) | quiet_step (fail)))
          refine wpQuiet_nil ?_
          intro _ hqw
          obtain ⟨⟨dq, osq⟩, hqv⟩ := hqw
          subst hqv
          have HB2 := Kp.mk (HBR.out dq osq)
          clear r1 r2 r3 r4 HBR
          go_wp2
          go_ret
          exact ⟨ret_bool HD.out.symm, HB1.out.trans (HB2.out.mono HB1.out.size)⟩
    · have HD : Kp (decide (h = h') = true) := ⟨decide_eq_true (List.ext_getElem? fun j => by
        by_cases hj : j < N
        · exact HK.out j (by omega)
        · rw [List.getElem?_eq_none (by rw [HL.out.1]; omega), List.getElem?_eq_none (by rw [HL.out.2]; omega)])⟩
      have o1 : ¬ (k : Int) < (N : Int) := by omega
      go_wp2
      go_ret
      exact ⟨ret_bool HD.out.symm, HB1.out.trans (HB.out.mono HB1.out.size)⟩
theorem rsameV_row (n : Int) (N : Nat) (g g2 : Option Addr) (c c2 : Nat) (h h' : List Bool) (w : World) (hm : N ≤ 100000) (lh : h.length = N) (lk : h'.length = N) (hv : LB w (.slice g N c) h) (hu : LB w (.slice g2 N c2) h') :
    Calls Try.prog 31 #[.agg #[.int .i64 n, .slice g N c], .agg #[.int .i64 n, .slice g2 N c2]] w fun e w' => e = .returned (.bool (decide (h = h'))) ∧ Below w.heap.size w w' := by
  have HS : Kp (∀ W, Below w.heap.size w W → Calls Try.prog 25 #[.agg #[.int .i64 n, .slice g N c], .agg #[.int .i64 n, .slice g2 N c2]] W fun e w' => e = .returned (.bool (decide (h = h'))) ∧ Below W.heap.size W w') := ⟨fun W hW => rsame_row n N g g2 c c2 h h' W hm lh lk (hv.below hW) (hu.below hW)⟩
  obtain ⟨R, hR⟩ : ∃ R, decide (h = h') = R := ⟨_, rfl⟩
  rw [hR] at HS ⊢
  clear hv hu hm lh lk hR
  go_enter Try.func31, Try.ntmps31
  go_wp2_with fail
  refine (HS.out _ (by repeat (first | exact Below.refl _ _ | refine Below.alloc ?_ (by simp <;> omega) _ | refine bDrewN ?_ _ | refine Below.drew ?_))).mono ?_
  rintro en w1 ⟨rfl, hb1⟩
  have HB1 : Kp (Below w.heap.size w w1) := ⟨Below.trans (by repeat (first | exact Below.refl _ _ | refine Below.alloc ?_ (by simp <;> omega) _ | refine bDrewN ?_ _ | refine Below.drew ?_)) (hb1.mono (by simp <;> omega))⟩
  clear hb1
  go_wp2
  go_ret
  exact ⟨rfl, HB1.out⟩
/-- Views are possible exactly if the hull has just these. -/
theorem poss_iff {s : Nat} {a b c : List Bool} (la : a.length = s * s) (lb : b.length = s * s) (lc : c.length = s * s) : (wrO s a b c = none) ↔ (viewL s 0 (hullB s a b c) = a ∧ viewL s 1 (hullB s a b c) = b ∧ viewL s 2 (hullB s a b c) = c) := by
  have key : ∀ {k : Nat} {A : List Bool}, k < 3 → hs3 a b c k = A → A.length = s * s → (firstBad A (viewL s k (hullB s a b c)) = none ↔ viewL s k (hullB s a b c) = A) := fun {k A} hk hA hl => by
    have hd := hull_dark (s := s) (a := a) (b := b) (c := c) hk
    rw [hA] at hd
    rw [firstBad_dark]
    unfold darkB at hd ⊢
    rw [decide_eq_true_eq] at hd ⊢
    simp only [viewL_len] at hd
    constructor
    · intro h
      rw [hl] at h
      apply List.ext_getElem
      · rw [viewL_len, hl]
      · intro i h1 h2
        rw [viewL_len] at h1
        have p := h i h1
        have q := hd i h1
        rw [List.getD_eq_getElem?_getD, List.getD_eq_getElem?_getD, List.getElem?_eq_getElem h2, List.getElem?_eq_getElem (by rw [viewL_len]; exact h1), Option.getD_some, Option.getD_some] at p q
        rw [Bool.eq_iff_iff]
        exact ⟨q, p⟩
    · intro h i _ hi
      rw [h]
      exact hi
  have k0 := key (k := 0) (A := a) (by omega) rfl la
  have k1 := key (k := 1) (A := b) (by omega) rfl lb
  have k2 := key (k := 2) (A := c) (by omega) rfl lc
  rw [← k0, ← k1, ← k2]
  unfold wrO
  constructor
  · intro h
    cases e0 : firstBad a (viewL s 0 (hullB s a b c)) with
    | some i => rw [e0] at h; cases h
    | none =>
      rw [e0] at h
      cases e1 : firstBad b (viewL s 1 (hullB s a b c)) with
      | some i => rw [e1] at h; cases h
      | none =>
        rw [e1] at h
        cases e2 : firstBad c (viewL s 2 (hullB s a b c)) with
        | some i => rw [e2] at h; cases h
        | none => exact ⟨rfl, rfl, rfl⟩
  · rintro ⟨e0, e1, e2⟩
    rw [e0, e1, e2]
theorem wr_start {w W : World} {s0 v0 x0 x1 x2 x3 x4 x5 : Value} {t1 t2 : TypeId} (h : (w.alloc (.cells #[s0, v0] t1)).alloc (.cells #[x0, x1, x2, x3, x4, x5] t2) = W) : Below w.heap.size w W ∧ W.cell? ⟨w.heap.size, 0, none⟩ = some s0 ∧ W.cell? ⟨w.heap.size, 1, none⟩ = some v0 ∧ W.cell? ⟨w.heap.size + 1, 0, none⟩ = some x0 ∧ W.cell? ⟨w.heap.size + 1, 1, none⟩ = some x1 ∧ W.cell? ⟨w.heap.size + 1, 2, none⟩ = some x2 ∧ W.cell? ⟨w.heap.size + 1, 3, none⟩ = some x3 ∧ W.cell? ⟨w.heap.size + 1, 4, none⟩ = some x4 ∧ W.cell? ⟨w.heap.size + 1, 5, none⟩ = some x5 := by
  subst h
  exact ⟨by repeat (first | exact Below.refl _ _ | refine Below.alloc ?_ (by simp <;> omega) _ | refine bDrewN ?_ _ | refine Below.drew ?_), by go_simp, by go_simp, by go_simp, by go_simp, by go_simp, by go_simp, by go_simp, by go_simp⟩
theorem rHull_any (sx sy sz : Int) (u v t : Value) (a b c : List Bool) (w : World) (hu : LB w u a) (hv : LB w v b) (ht : LB w t c) :
    Calls Try.prog 38 #[.agg #[.int .i64 sx, u], .agg #[.int .i64 sy, v], .agg #[.int .i64 sz, t]] w fun e w' => ∃ r, e = .returned (.tuple #[r, .int .i64 (hullE sx sy sz a b c)]) ∧ VB w' r (hullS sx sy sz a b c) (hullL sx sy sz a b c) ∧ Below w.heap.size w w' := by
  obtain ⟨g1, c1, rfl⟩ := hu.shape
  obtain ⟨g2, c2, rfl⟩ := hv.shape
  obtain ⟨g3, c3, rfl⟩ := ht.shape
  cases hok : hullOk sx sy sz a b c with
  | false =>
    have e1 : hullE sx sy sz a b c = 1 := by unfold hullE; rw [hok]; rfl
    have e2 : hullS sx sy sz a b c = 0 := by unfold hullS; rw [hok]; rfl
    have e3 : hullL sx sy sz a b c = [] := by unfold hullL; rw [hok]; rfl
    rw [e1, e2, e3]
    have key : Calls Try.prog 38 #[.agg #[.int .i64 sx, .slice g1 a.length c1], .agg #[.int .i64 sy, .slice g2 b.length c2], .agg #[.int .i64 sz, .slice g3 c.length c3]] w (OfNo w 1) := by
      unfold hullOk at hok
      cases h1 : viewB sx a.length with
      | false => exact rHull_no0 sx sy sz g1 g2 g3 _ c1 _ c2 _ c3 w h1
      | true =>
        cases h2 : viewB sy b.length with
        | false => exact rHull_no1 sx sy sz g1 g2 g3 _ c1 _ c2 _ c3 w h1 h2
        | true =>
          cases h3 : viewB sz c.length with
          | false => exact rHull_no2 sx sy sz g1 g2 g3 _ c1 _ c2 _ c3 w h1 h2 h3
          | true =>
            rw [h1, h2, h3] at hok
            by_cases e : sx = sy
            · by_cases f : sy = sz
              · rw [decide_eq_true e, decide_eq_true f] at hok
                cases hok
              · exact rHull_no4 sx sy sz g1 g2 g3 _ c1 _ c2 _ c3 w h1 h2 h3 (by rw [bne_eq_false_iff_eq]; exact e) (by rw [bne_iff_ne]; exact f)
            · exact rHull_no3 sx sy sz g1 g2 g3 _ c1 _ c2 _ c3 w h1 h2 h3 (by rw [bne_iff_ne]; exact e)
    exact key.mono fun en w' ⟨ha, hb⟩ => ⟨_, ha, VB.nil _, hb⟩
  | true =>
    have e1 : hullE sx sy sz a b c = 0 := by unfold hullE; rw [hok]; rfl
    have e2 : hullS sx sy sz a b c = sx := by unfold hullS; rw [hok]; rfl
    have e3 : hullL sx sy sz a b c = hullB sx.toNat a b c := by unfold hullL; rw [hok]; rfl
    rw [e1, e2, e3]
    unfold hullOk viewB at hok
    simp only [Bool.and_eq_true, decide_eq_true_eq] at hok
    obtain ⟨⟨h1, l1⟩, ⟨-, l2⟩, ⟨-, l3⟩, rfl, rfl⟩ := hok
    have hs := side_iff.1 h1
    obtain ⟨n, rfl⟩ : ∃ n : Nat, sx = n := ⟨sx.toNat, by omega⟩
    rw [← Int.natCast_mul] at l1 l2 l3
    have l1 := Int.ofNat.inj l1
    have l2 := Int.ofNat.inj l2
    have l3 := Int.ofNat.inj l3
    have hv2 : viewB n (n * n) = true := by
      unfold viewB
      rw [h1, decide_eq_true (by rw [Int.natCast_mul])]
      rfl
    rw [l1] at hu ⊢
    rw [l2] at hv ⊢
    rw [l3] at ht ⊢
    exact rHull_walk n (n * n) (n * n * n) g1 g2 g3 c1 c2 c3 a b c w (by omega) (by omega) rfl rfl hu hv ht l1 l2 l3 hv2
theorem rWrong_no (sx sy sz : Int) (g1 g2 g3 : Option Addr) (n1 c1 n2 c2 n3 c3 : Nat) (w : World) (HH : Kp (∀ W, Below w.heap.size w W → Calls Try.prog 38 #[.agg #[.int .i64 sx, .slice g1 n1 c1], .agg #[.int .i64 sy, .slice g2 n2 c2], .agg #[.int .i64 sz, .slice g3 n3 c3]] W fun e w' => (∃ x g n c, e = .returned (.tuple #[.agg #[.int .i64 x, .slice g n c], .int .i64 1])) ∧ Below W.heap.size W w')) :
    Calls Try.prog 42 #[.agg #[.int .i64 sx, .slice g1 n1 c1], .agg #[.int .i64 sy, .slice g2 n2 c2], .agg #[.int .i64 sz, .slice g3 n3 c3]] w (WrPost (0, 0, 0, 1) w) := by
  go_enter Try.func42, Try.ntmps42
  go_wp2_with fail
  refine (HH.out _ (by repeat (first | exact Below.refl _ _ | refine Below.alloc ?_ (by simp <;> omega) _ | refine bDrewN ?_ _ | refine Below.drew ?_))).mono ?_
  rintro en w1 ⟨⟨x, g, n, c, rfl⟩, hb1⟩
  have HB1 : Kp (Below w.heap.size w w1) := ⟨Below.trans (by repeat (first | exact Below.refl _ _ | refine Below.alloc ?_ (by simp <;> omega) _ | refine bDrewN ?_ _ | refine Below.drew ?_)) (hb1.mono (by simp <;> omega))⟩
  clear hb1
  go_wp2
  exact bodyPost_ret (v := .tuple #[.int .i64 0, .int .i64 0, .int .i64 0, .int .i64 1]) (by simp [results, Try.results42, go_sem]) rfl ⟨rfl, HB1.out.alloc HB1.out.size _⟩
set_option maxRecDepth 100000 in
set_option maxHeartbeats 2000000 in
theorem rWrong_in (s N N3 : Nat) (g1 g2 g3 : Option Addr) (c1 c2 c3 : Nat) (a b c : List Bool) (w : World) (hs1 : 1 ≤ s) (hs2 : s ≤ 10) (hN : s * s = N) (hu : LB w (.slice g1 N c1) a) (hv : LB w (.slice g2 N c2) b) (ht : LB w (.slice g3 N c3) c) (la : a.length = N) (lb : b.length = N) (lc : c.length = N)
    (HH : Kp (∀ W, Below w.heap.size w W → Calls Try.prog 38 #[.agg #[.int .i64 s, .slice g1 N c1], .agg #[.int .i64 s, .slice g2 N c2], .agg #[.int .i64 s, .slice g3 N c3]] W fun e w' => ∃ g c', e = .returned (.tuple #[.agg #[.int .i64 s, .slice g N3 c'], .int .i64 0]) ∧ LB w' (.slice g N3 c') (hullB s a b c) ∧ Below W.heap.size W w')) :
    Calls Try.prog 42 #[.agg #[.int .i64 s, .slice g1 N c1], .agg #[.int .i64 s, .slice g2 N c2], .agg #[.int .i64 s, .slice g3 N c3]] w (WrPost (wrR s (wrO s a b c)) w) := by
  have HV : Kp (∀ W (k : Nat) g c', k < 3 → LB W (.slice g N3 c') (hullB s a b c) → Calls Try.prog 87 #[.agg #[.int .i64 s, .slice g N3 c'], .int .i64 k] W fun e w' => ∃ gv cv, e = .returned (.agg #[.int .i64 s, .slice gv N cv]) ∧ LB w' (.slice gv N cv) (viewL s k (hullB s a b c)) ∧ Below W.heap.size W w') := ⟨fun W k g c' hk hl => by
    have hlen : (hullB s a b c).length = s * s * s := by
      unfold hullB
      rw [List.length_map, places_len]
    refine (rview_any s k _ hk _ (hullB s a b c) W hs1 hs2 rfl hlen hl).mono ?_
    rintro e w' ⟨u, rfl, hu, hb⟩
    have hl2 := hu.1
    obtain ⟨gv, cv, rfl⟩ := hl2.shape
    rw [viewL_len, hN] at hl2
    rw [viewL_len, hN]
    exact ⟨gv, cv, rfl, hl2, hb⟩⟩
  have HIX : Kp (∀ k : Nat, k < 3 → ∃ gk ck, (∀ (W : World) (Y : Nat), W.cell? ⟨Y, 0, none⟩ = some (.int .i64 s) → W.cell? ⟨Y, 1, none⟩ = some (.slice g1 N c1) → W.cell? ⟨Y, 2, none⟩ = some (.int .i64 s) → W.cell? ⟨Y, 3, none⟩ = some (.slice g2 N c2) → W.cell? ⟨Y, 4, none⟩ = some (.int .i64 s) → W.cell? ⟨Y, 5, none⟩ = some (.slice g3 N c3) → W.cell? ⟨Y, k * 2, none⟩ = some (.int .i64 s) ∧ W.cell? ⟨Y, k * 2 + 1, none⟩ = some (.slice gk N ck)) ∧ LB w (.slice gk N ck) (hs3 a b c k) ∧ (hs3 a b c k).length = N) := ⟨fun k hk => by
    match k, hk with
    | 0, _ => exact ⟨g1, c1, fun W Y h0 h1 _ _ _ _ => ⟨h0, h1⟩, hu, la⟩
    | 1, _ => exact ⟨g2, c2, fun W Y _ _ h0 h1 _ _ => ⟨h0, h1⟩, hv, lb⟩
    | 2, _ => exact ⟨g3, c3, fun W Y _ _ _ _ h0 h1 => ⟨h0, h1⟩, ht, lc⟩⟩
  have HVL : Kp (∀ k, (viewL s k (hullB s a b c)).length = N) := ⟨fun k => by rw [viewL_len, hN]⟩
  obtain ⟨R, hR⟩ : ∃ R, wrR s (wrO s a b c) = R := ⟨_, rfl⟩
  have HSOME : Kp (∀ k i, k < 3 → (∀ j, j < k → firstBad (hs3 a b c j) (viewL s j (hullB s a b c)) = none) → firstBad (hs3 a b c k) (viewL s k (hullB s a b c)) = some i → ((k : Int), ((i % s : Nat) : Int), ((i / s : Nat) : Int), (0 : Int)) = R) := ⟨fun k i hk h hi => by rw [← hR, wrO_some hk h hi]; rfl⟩
  have HNONE : Kp ((∀ j, j < 3 → firstBad (hs3 a b c j) (viewL s j (hullB s a b c)) = none) → ((0 : Int), (0 : Int), (0 : Int), (8 : Int)) = R) := ⟨fun h => by rw [← hR, wrO_none h]; rfl⟩
  rw [hR]
  have HN1 : Kp (N ≤ 100) := ⟨by rw [← hN]; exact (cube_bd hs2).1⟩
  have HS1 := Kp.mk (And.intro hs1 hs2)
  obtain ⟨X, hX⟩ : ∃ X, hullB s a b c = X := ⟨_, rfl⟩
  rw [hX] at HH HV HVL HSOME HNONE
  clear hu hv ht la lb lc hN hR hX hs1 hs2
  go_enter Try.func42, Try.ntmps42
  go_wp2_with fail
  refine (HH.out _ (by repeat (first | exact Below.refl _ _ | refine Below.alloc ?_ (by simp <;> omega) _ | refine bDrewN ?_ _ | refine Below.drew ?_))).mono ?_
  rintro en w1 ⟨gh, ch, rfl, hh, hb1⟩
  have HB1 : Kp (Below w.heap.size w w1) := ⟨Below.trans (by repeat (first | refine Below.alloc ?_ (by (try simp) <;> omega) _ | refine bDrewN ?_ _ | refine Below.drew ?_ | refine Below.setCell ?_ (by (try simp) <;> omega) _ | exact Below.refl _ _)) (hb1.mono (by (try simp) <;> omega))⟩
  have hz1_0 : w.heap.size < w1.heap.size := by have := hb1.size; (try simp at this); omega
  have hz1_1 : w.heap.size + 1 < w1.heap.size := by have := hb1.size; (try simp at this); omega
  have hz1_2 : w.heap.size + 1 + 1 < w1.heap.size := by have := hb1.size; (try simp at this); omega
  obtain ⟨hc, hf⟩ := bcell hb1
  have c1_0_0 : w1.cell? ⟨w.heap.size, 0, none⟩ = some (.int .i64 s) := (hc _ _ (by (try simp) <;> omega)).trans (by go_simp)
  have c1_0_1 : w1.cell? ⟨w.heap.size, 1, none⟩ = some ((.slice g1 N c1)) := (hc _ _ (by (try simp) <;> omega)).trans (by go_simp)
  have z1_0 : ∀ j, w1.frozen? ⟨w.heap.size, j, none⟩ = false := fun j => (hf _ _ (by (try simp) <;> omega)).trans (by go_simp)
  have c1_1_0 : w1.cell? ⟨w.heap.size + 1, 0, none⟩ = some (.int .i64 s) := (hc _ _ (by (try simp) <;> omega)).trans (by go_simp)
  have c1_1_1 : w1.cell? ⟨w.heap.size + 1, 1, none⟩ = some ((.slice g2 N c2)) := (hc _ _ (by (try simp) <;> omega)).trans (by go_simp)
  have z1_1 : ∀ j, w1.frozen? ⟨w.heap.size + 1, j, none⟩ = false := fun j => (hf _ _ (by (try simp) <;> omega)).trans (by go_simp)
  have c1_2_0 : w1.cell? ⟨w.heap.size + 1 + 1, 0, none⟩ = some (.int .i64 s) := (hc _ _ (by (try simp) <;> omega)).trans (by go_simp)
  have c1_2_1 : w1.cell? ⟨w.heap.size + 1 + 1, 1, none⟩ = some ((.slice g3 N c3)) := (hc _ _ (by (try simp) <;> omega)).trans (by go_simp)
  have z1_2 : ∀ j, w1.frozen? ⟨w.heap.size + 1 + 1, j, none⟩ = false := fun j => (hf _ _ (by (try simp) <;> omega)).trans (by go_simp)
  clear hc hf hb1
  go_wp2
  obtain ⟨W2, hW2⟩ : ∃ W2, (w1.alloc (.cells #[.int .i64 s, .slice gh N3 ch] 24)).alloc (.cells #[.int .i64 s, .slice g1 N c1, .int .i64 s, .slice g2 N c2, .int .i64 s, .slice g3 N c3] 25) = W2 := ⟨_, rfl⟩
  rw [hW2]
  obtain ⟨hb2, e0, e1, y0, y1, y2, y3, y4, y5⟩ := wr_start hW2
  have x0 := (hb2.cell (p := ⟨w.heap.size, 0, none⟩) (World.block_lt_of_cell? _ _ c1_0_0)).trans c1_0_0
  have HX0 := Kp.mk (And.intro (World.block_lt_of_cell? _ _ x0) x0)
  have HYL := Kp.mk (World.block_lt_of_cell? _ _ y0)
  have HYY := Kp.mk (And.intro y0 (And.intro y1 (And.intro y2 (And.intro y3 (And.intro y4 y5)))))
  have HE0 := Kp.mk (And.intro (World.block_lt_of_cell? _ _ e0) (And.intro e0 e1))
  have HB2 : Kp (Below w.heap.size w W2) := ⟨HB1.out.trans (hb2.mono HB1.out.size)⟩
  have HHL : Kp (LB W2 (.slice gh N3 ch) X) := ⟨hh.below hb2⟩
  clear hW2 hb2 hh e0 e1 y0 y1 y2 y3 y4 y5 x0 c1_0_0 c1_0_1 z1_0 hz1_0 c1_1_0 c1_1_1 z1_1 hz1_1 c1_2_0 c1_2_1 z1_2 hz1_2 HB1 HH
  generalize w1.heap.size = Q at *
  go_loopw [30] (fun i wr => ∃ k : Nat, k ≤ 3 ∧ i = .int .i64 k ∧ Kp (∀ j, j < k → firstBad (hs3 a b c j) (viewL s j X) = none) ∧ Kp (Below W2.heap.size W2 wr)) (fun i _ => 3 - (intOf i).toNat)
  case atStart => exact ⟨0, by omega, rfl, ⟨fun j hj => absurd hj (by omega)⟩, ⟨Below.refl _ _⟩⟩
  case round =>
    obtain ⟨k, hk, rfl, HF, HB⟩ := hrel
    by_cases hlt : k < 3
    · obtain ⟨gk, ck, hix, hlk, hnk⟩ := HIX.out k hlt
      have o1 : (k : Int) < 3 := by omega
      have hYr := Nat.lt_of_lt_of_le HYL.out HB.out.size
      have yc : ∀ {i : Nat} {v : Value}, W2.cell? ⟨Q + 1, i, none⟩ = some v → wr.cell? ⟨Q + 1, i, none⟩ = some v := fun {i} {v} hv => (HB.out.cell (p := ⟨Q + 1, i, none⟩) HYL.out).trans hv
      obtain ⟨y0, y1, y2, y3, y4, y5⟩ := HYY.out
      obtain ⟨u0, u1⟩ := hix wr (Q + 1) (yc y0) (yc y1) (yc y2) (yc y3) (yc y4) (yc y5)
      clear y0 y1 y2 y3 y4 y5 yc hix
      have q0 : wr.cell? ⟨Q, 0, none⟩ = some (.int .i64 s) := (HB.out.cell (p := ⟨Q, 0, none⟩) HE0.out.1).trans HE0.out.2.1
      have q1 : wr.cell? ⟨Q, 1, none⟩ = some (.slice gh N3 ch) := (HB.out.cell (p := ⟨Q, 1, none⟩) HE0.out.1).trans HE0.out.2.2
      have hQr := Nat.lt_of_lt_of_le HE0.out.1 HB.out.size
      have hbz : Below wr.heap.size wr (wr.alloc (.cells #[.int .i64 s, .slice gk N ck] 25)) := by repeat (first | exact Below.refl _ _ | refine Below.alloc ?_ (by simp <;> omega) _ | refine bDrewN ?_ _ | refine Below.drew ?_)
      have hbg : Below W2.heap.size W2 (wr.alloc (.cells #[.int .i64 s, .slice gk N ck] 25)) := HB.out.trans (hbz.mono HB.out.size)
      have HVK := Kp.mk (HV.out (wr.alloc (.cells #[.int .i64 s, .slice gk N ck] 25)) k gh ch hlt (HHL.out.below hbg))
      have HBG := Kp.mk hbg
      have HK3 := Kp.mk hlt
      obtain ⟨A, hA⟩ : ∃ A, hs3 a b c k = A := ⟨_, rfl⟩
      obtain ⟨V, hV⟩ : ∃ V, viewL s k X = V := ⟨_, rfl⟩
      have HVV := Kp.mk (HVL.out k)
      rw [hV] at HVK HVV
      rw [hA] at hlk hnk
      have HAV := Kp.mk (And.intro hA hV)
      have HNK := Kp.mk hnk
      obtain ⟨g', c', e', -, hi⟩ := hlk
      simp only [Value.slice.injEq] at e'
      obtain ⟨rfl, -, rfl⟩ := e'
      have HS := Lib.hid hi
      clear hi hbz hbg hA hV hlt hnk
      go_wp2_with fail
      refine HVK.out.mono ?_
      rintro en w5 ⟨gv, cv, rfl, hl5, hb5⟩
      have HB5 : Kp (Below W2.heap.size W2 w5) := ⟨HBG.out.trans (hb5.mono HBG.out.size)⟩
      obtain ⟨G, hG⟩ : ∃ G, wr.heap.size = G := ⟨_, rfl⟩
      have d1 : w5.cell? ⟨G, 1, none⟩ = some (.slice gk N ck) := (hb5.cell (p := ⟨G, 1, none⟩) (by rw [← hG]; simp)).trans (by subst hG; go_simp)
      obtain ⟨g2', c2', e2', -, hi2⟩ := hl5
      simp only [Value.slice.injEq] at e2'
      obtain ⟨rfl, -, rfl⟩ := e2'
      have HS2 := Lib.hid hi2
      have hGl := World.block_lt_of_cell? _ _ d1
      rw [hG]
      clear hb5 hG q0 q1 hQr hi2 u0 u1 hYr
      go_wp2
      obtain ⟨W6, hW6⟩ : ∃ W6, w5.alloc (.cells #[.int .i64 s, .slice gv N cv] 25) = W6 := ⟨_, rfl⟩
      obtain ⟨hb6, -, s1⟩ := vone_start hW6
      rw [hW6]
      have HB6 : Kp (Below W2.heap.size W2 W6) := ⟨HB5.out.trans (hb6.mono HB5.out.size)⟩
      have HS6 := Kp.mk (And.intro (World.block_lt_of_cell? _ _ s1) s1)
      have HGG := Kp.mk (And.intro hGl d1)
      have HBB6 := Kp.mk hb6
      clear hW6 hb6 s1 d1
      generalize w5.heap.size = T at *
      go_loopw [41] (fun i wr => ∃ j : Nat, j ≤ N ∧ i = .int .i64 j ∧ Kp (∀ l, l < j → badAt A V l = false) ∧ Kp (Below W6.heap.size W6 wr)) (fun i _ => N - (intOf i).toNat)
      case atStart => exact ⟨0, Nat.zero_le _, rfl, ⟨fun l hl => absurd hl (by omega)⟩, ⟨Below.refl _ _⟩⟩
      case round =>
        obtain ⟨j, hj, rfl, HJ, HB8⟩ := hrel
        by_cases hlj : j < N
        · obtain ⟨x, hx⟩ : ∃ x, A[j]? = some x := ⟨_, List.getElem?_eq_getElem (by rw [HNK.out]; exact hlj)⟩
          obtain ⟨y, hy⟩ : ∃ y, V[j]? = some y := ⟨_, List.getElem?_eq_getElem (by rw [HVV.out]; exact hlj)⟩
          obtain ⟨b1, o1', hg, hbl, hca⟩ := HS.out j x hx
          subst hg
          obtain ⟨b2, o2', hg2, hbl2, hcb⟩ := HS2.out j y hy
          subst hg2
          have hw8 : Below W2.heap.size W2 wr := HB6.out.trans (HB8.out.mono HB6.out.size)
          have hw0 := HB2.out.trans (hw8.mono HB2.out.size)
          have hw5 := HBB6.out.trans (HB8.out.mono (Nat.le_of_lt HS6.out.1))
          have a1 : wr.cell? ⟨b1, o1' + j, none⟩ = some (.bool x) := (hw0.cell (p := ⟨b1, _, none⟩) hbl).trans hca
          have a2 : wr.cell? ⟨b2, o2' + j, none⟩ = some (.bool y) := (hw5.cell (p := ⟨b2, _, none⟩) hbl2).trans hcb
          have a3 := (HB8.out.cell (p := ⟨T, 1, none⟩) HS6.out.1).trans HS6.out.2
          have a4 := (hw8.cell (p := ⟨w.heap.size, 0, none⟩) HX0.out.1).trans HX0.out.2
          have a5 := (hw5.cell (p := ⟨G, 1, none⟩) HGG.out.1).trans HGG.out.2
          have HW0 := Kp.mk hw0
          have hbad : badAt A V j = (x && !y) := by unfold badAt; rw [List.getD_eq_getElem?_getD, List.getD_eq_getElem?_getD, hx, hy]; rfl
          have HBAD := Kp.mk hbad
          have o2 : (j : Int) < (N : Int) := by omega
          have o4 : j ≤ 100 := by have := HN1.out; omega
          have HJN := Kp.mk hlj
          have more : badAt A V j = false → Kp (∀ l, l < j + 1 → badAt A V l = false) := fun e => ⟨fun l hl => by
            by_cases e2 : l = j
            · subst e2
              exact e
            · exact HJ.out l (by omega)⟩
          clear hx hy hca hcb hbl hbl2 hw8 hw0 hw5 hbad
          cases x with
          | false =>
            have HM := more HBAD.out
            clear more
            go_wp2
            go_roundw
            case rel => exact ⟨j + 1, by omega, by go_num, HM, HB8⟩
            case measure => simp [intOf]; omega
          | true =>
            cases y with
            | true =>
              have HM := more HBAD.out
              clear more
              go_wp2
              go_roundw
              case rel => exact ⟨j + 1, by omega, by go_num, HM, HB8⟩
              case measure => simp [intOf]; omega
            | false =>
              have HR := Kp.mk (HSOME.out k j HK3.out HF.out (by rw [HAV.out.1, HAV.out.2]; exact firstBad_some HJ.out HBAD.out (by rw [HNK.out]; exact HJN.out)))
              have hs := HS1.out
              obtain ⟨q, hq⟩ : ∃ q, j / s = q := ⟨_, rfl⟩
              obtain ⟨m, hm⟩ : ∃ m, j % s = m := ⟨_, rfl⟩
              have hql : q ≤ j := by rw [← hq]; exact Nat.div_le_self j s
              have f1 : (j : Int).tmod s = (m : Int) := by rw [rem_nat, hm]
              have f2 : IntKind.i64.wrap ((j : Int) / s) = (q : Int) := by rw [← Int.natCast_ediv, hq]; exact wrap_nat (by omega)
              have hs0 : ¬ s = 0 := by omega
              rw [hq, hm] at HR
              have r1 := fun d os => cell_regrown a4 d os
              clear more hq hm hql hs
              go_wp2
              refine wp_region_quiet_below (by kernel_rfl) (by kernel_rfl) ?_
              repeat (any_goals (first | go_big_quiet_step (fail) | quiet_step (fail)))
              refine wpQuiet_nil ?_
              intro _ hqw
              obtain ⟨⟨dq, osq⟩, hqv⟩ := hqw
              subst hqv
              go_wp2
              exact bodyPost_ret (v := .tuple #[.int .i64 k, .int .i64 m, .int .i64 q, .int .i64 0]) (by simp [results, Try.results42, go_sem]) rfl ⟨by rw [← HR.out], HW0.out.trans ((below_regrown wr dq osq).mono HW0.out.size)⟩
        · have hjn : j = N := by omega
          have HF2 : Kp (∀ l, l < k + 1 → firstBad (hs3 a b c l) (viewL s l X) = none) := ⟨fun l hl => by
            by_cases e2 : l = k
            · subst e2
              rw [HAV.out.1, HAV.out.2]
              exact firstBad_none fun i hi => HJ.out i (by rw [HNK.out] at hi; omega)
            · exact HF.out l (by omega)⟩
          have HB9 : Kp (Below W2.heap.size W2 wr) := ⟨HB6.out.trans (HB8.out.mono HB6.out.size)⟩
          have o2 : ¬ (j : Int) < (N : Int) := by omega
          have hk3 := HK3.out
          clear hjn
          go_wp2
          go_roundw
          case rel => exact ⟨k + 1, by omega, by go_num, HF2, HB9⟩
          case measure => simp [intOf]; omega
    · have hk3 : k = 3 := by omega
      have HR : Kp (((0 : Int), (0 : Int), (0 : Int), (8 : Int)) = R) := ⟨HNONE.out fun j hj => HF.out j (by omega)⟩
      have HB9 : Kp (Below w.heap.size w wr) := ⟨HB2.out.trans (HB.out.mono HB2.out.size)⟩
      have o1 : ¬ (k : Int) < 3 := by omega
      clear hk3
      go_wp2
      exact bodyPost_ret (v := .tuple #[.int .i64 0, .int .i64 0, .int .i64 0, .int .i64 8]) (by simp [results, Try.results42, go_sem]) rfl ⟨by rw [← HR.out], HB9.out⟩
theorem rWrong_any (sx sy sz : Int) (u v x : Value) (a b c : List Bool) (w : World) (hu : LB w u a) (hv : LB w v b) (hx : LB w x c) :
    Calls Try.prog 42 #[.agg #[.int .i64 sx, u], .agg #[.int .i64 sy, v], .agg #[.int .i64 sz, x]] w (WrPost (wnR sx sy sz a b c) w) := by
  obtain ⟨g1, c1, rfl⟩ := hu.shape
  obtain ⟨g2, c2, rfl⟩ := hv.shape
  obtain ⟨g3, c3, rfl⟩ := hx.shape
  unfold wnR
  cases hok : hullOk sx sy sz a b c with
  | false =>
    rw [if_neg (by decide)]
    have e1 : hullE sx sy sz a b c = 1 := by unfold hullE; rw [hok]; rfl
    refine rWrong_no sx sy sz g1 g2 g3 _ c1 _ c2 _ c3 w ⟨fun W hW => ?_⟩
    refine (rHull_any sx sy sz _ _ _ a b c W (hu.below hW) (hv.below hW) (hx.below hW)).mono ?_
    rintro e w' ⟨r, rfl, ⟨z, rfl, hz⟩, hb⟩
    obtain ⟨g, c', rfl⟩ := hz.shape
    exact ⟨⟨_, g, _, c', by rw [e1]⟩, hb⟩
  | true =>
    rw [if_pos rfl]
    unfold hullOk viewB at hok
    simp only [Bool.and_eq_true, decide_eq_true_eq] at hok
    obtain ⟨⟨h1, l1⟩, ⟨-, l2⟩, ⟨-, l3⟩, rfl, rfl⟩ := hok
    have hs := side_iff.1 h1
    obtain ⟨n, rfl⟩ : ∃ n : Nat, sx = n := ⟨sx.toNat, by omega⟩
    rw [← Int.natCast_mul] at l1 l2 l3
    have l1 := Int.ofNat.inj l1
    have l2 := Int.ofNat.inj l2
    have l3 := Int.ofNat.inj l3
    have hn1 : 1 ≤ n := by omega
    have hn2 : n ≤ 10 := by omega
    rw [l1] at hu ⊢
    rw [l2] at hv ⊢
    rw [l3] at hx ⊢
    rw [Int.toNat_natCast]
    refine rWrong_in n (n * n) (n * n * n) g1 g2 g3 c1 c2 c3 a b c w hn1 hn2 rfl hu hv hx l1 l2 l3 ⟨fun W hW => ?_⟩
    have hlen : (hullB n a b c).length = n * n * n := by
      unfold hullB
      rw [List.length_map, places_len]
    have hv2 : viewB n (n * n) = true := by
      unfold viewB
      rw [h1, decide_eq_true (by rw [Int.natCast_mul])]
      rfl
    refine (rHull_walk n (n * n) (n * n * n) g1 g2 g3 c1 c2 c3 a b c W hn1 hn2 rfl rfl (hu.below hW) (hv.below hW) (hx.below hW) l1 l2 l3 hv2).mono ?_
    rintro e w' ⟨r, rfl, ⟨z, rfl, hz⟩, hb⟩
    obtain ⟨g, c', rfl⟩ := hz.shape
    rw [hlen] at hz ⊢
    exact ⟨g, c', rfl, hz, hb⟩
theorem rPossible_any (sx sy sz : Int) (u v x : Value) (a b c : List Bool) (w : World) (hu : LB w u a) (hv : LB w v b) (hx : LB w x c) :
    Calls Try.prog 40 #[.agg #[.int .i64 sx, u], .agg #[.int .i64 sy, v], .agg #[.int .i64 sz, x]] w fun e w' => e = .returned (.tuple #[.bool (pssB sx sy sz a b c), .int .i64 (hullE sx sy sz a b c)]) ∧ Below w.heap.size w w' := by
  have HW : Kp (∀ W, Below w.heap.size w W → Calls Try.prog 42 #[.agg #[.int .i64 sx, u], .agg #[.int .i64 sy, v], .agg #[.int .i64 sz, x]] W (WrPost (wnR sx sy sz a b c) W)) := ⟨fun W hW => rWrong_any sx sy sz u v x a b c W (hu.below hW) (hv.below hW) (hx.below hW)⟩
  have hE := wnR_err sx sy sz a b c
  obtain ⟨g1, c1, rfl⟩ := hu.shape
  obtain ⟨g2, c2, rfl⟩ := hv.shape
  obtain ⟨g3, c3, rfl⟩ := hx.shape
  unfold pssB
  unfold WrPost at HW
  obtain ⟨⟨r1, r2, r3, r4⟩, hR⟩ : ∃ R, wnR sx sy sz a b c = R := ⟨_, rfl⟩
  obtain ⟨E, hEE⟩ : ∃ E, hullE sx sy sz a b c = E := ⟨_, rfl⟩
  obtain ⟨n1, hn1⟩ : ∃ n1, a.length = n1 := ⟨_, rfl⟩
  obtain ⟨n2, hn2⟩ : ∃ n2, b.length = n2 := ⟨_, rfl⟩
  obtain ⟨n3, hn3⟩ : ∃ n3, c.length = n3 := ⟨_, rfl⟩
  rw [hR, hn1, hn2, hn3] at HW
  rw [hR, hEE] at hE
  rw [hR, hEE, hn1, hn2, hn3]
  simp only at HW hE ⊢
  clear hu hv hx hR hEE hn1 hn2 hn3
  rcases hE with ⟨rfl, rfl⟩ | ⟨rfl | rfl, rfl⟩
  all_goals
    go_enter Try.func40, Try.ntmps40
    go_wp2_with fail
    refine (HW.out _ (by repeat (first | exact Below.refl _ _ | refine Below.alloc ?_ (by simp <;> omega) _ | refine bDrewN ?_ _ | refine Below.drew ?_))).mono ?_
    rintro en w1 ⟨rfl, hb1⟩
    have HB1 : Kp (Below w.heap.size w w1) := ⟨Below.trans (by repeat (first | exact Below.refl _ _ | refine Below.alloc ?_ (by simp <;> omega) _ | refine bDrewN ?_ _ | refine Below.drew ?_)) (hb1.mono (by simp <;> omega))⟩
    clear hb1
    go_wp2
    go_ret2
    exact ⟨rfl, HB1.out⟩
end Go.Proofs.Yticcafjogmjkiaa.Cv
