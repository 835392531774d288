/-
  WALKS (layer 7, scene): a ground whose heights are appended to one by one; the reference's Raised.
-/
import Derived.Test.YtjnggchljilooaaScRWith
import Derived.Test.YtjnggchljilooaaScRaisA
namespace Go.Proofs.Ytjnggchljilooaa.Sc
open Go Go.RowKit Go.Sort
attribute [-go_sem] Builtin.append_

/-- The box at Z holds a ground whose heights are a row of the call's own. -/
def CZ (w : World) (Z : Nat) (wd dp : Int) (l : List Int) (V : World) : Prop := Below Z w V ∧ V.cell? ⟨Z, 0, none⟩ = some (.int .i64 wd) ∧ V.cell? ⟨Z, 1, none⟩ = some (.int .i64 dp) ∧ (∀ j, V.frozen? ⟨Z, j, none⟩ = false) ∧ ∃ u, V.cell? ⟨Z, 2, none⟩ = some u ∧ OwnI V (Z + 1) u l
theorem CZ.on {w V X : World} {Z : Nat} {wd dp : Int} {l : List Int} (h : CZ w Z wd dp l V) (hb : Below V.heap.size V X) : CZ w Z wd dp l X := by
  obtain ⟨h1, h2, h3, h4, u, h5, h6⟩ := h
  have hz := World.block_lt_of_cell? _ _ h2
  exact ⟨h1.trans (hb.mono (Nat.le_of_lt hz)), (hb.cell (p := ⟨Z, 0, none⟩) hz).trans h2, (hb.cell (p := ⟨Z, 1, none⟩) hz).trans h3, fun j => (World.frozen?_of_block (a := ⟨Z, j, none⟩) (hb.block _ hz)).trans (h4 j), u, (hb.cell (p := ⟨Z, 2, none⟩) hz).trans h5, h6.on hb⟩
theorem CZ.lt {w V : World} {Z : Nat} {wd dp : Int} {l : List Int} (h : CZ w Z wd dp l V) : Z < V.heap.size := World.block_lt_of_cell? _ _ h.2.1
/-- A round: one number more. -/
theorem cz_next {w V : World} {Z : Nat} {wd dp x : Int} {l : List Int} (h : CZ w Z wd dp l V) (hn : l.length ≤ 100000) :
    ∃ g0 c0 g c W', V.cell? ⟨Z, 2, none⟩ = some (.slice g0 l.length c0) ∧ (Builtin.append_ #[22, 22] 22 #[.slice g0 l.length c0, .slice (some ⟨V.heap.size, 0, none⟩) 1 1]).run Try.prog (V.alloc (.cells #[.int .i64 x] 3)) = .ok (.slice g (l.length + 1) c) W' ∧ (∃ v, W'.cell? ⟨Z, 2, none⟩ = some v) ∧ (∀ j, W'.frozen? ⟨Z, j, none⟩ = false) ∧
    CZ w Z wd dp (l ++ [x]) (W'.setCell ⟨Z, 2, none⟩ (.slice g (l.length + 1) c)) := by
  have hzV := h.lt
  obtain ⟨h1, h2, h3, h4, u, h5, h6⟩ := h
  obtain ⟨g0, c0, rfl⟩ := h6.shape
  have hb : Below V.heap.size V (V.alloc (.cells #[.int .i64 x] 3)) := (Below.refl _ _).alloc (Nat.le_refl _) _
  have hX : (V.alloc (.cells #[.int .i64 x] 3)).cell? ⟨V.heap.size, 0, none⟩ = some (.int .i64 x) := by go_simp
  have ho := h6.on hb
  obtain ⟨g, c, W', hrun, hown, hgr, hat⟩ := ho.next hX hn (by rw [World.size_alloc]; omega)
  have eZ : W'.heap[Z]? = V.heap[Z]? := (hgr.block Z (by rw [World.size_alloc]; omega) (fun e => by have := (ho.block e.symm).1; omega)).trans (hb.block Z hzV)
  have hc : W'.cell? ⟨Z, 2, none⟩ = some (.slice g0 l.length c0) := (World.cell?_of_block (a := ⟨Z, 2, none⟩) eZ).trans h5
  have hf : ∀ j, W'.frozen? ⟨Z, j, none⟩ = false := fun j => (World.frozen?_of_block (a := ⟨Z, j, none⟩) eZ).trans (h4 j)
  have hB : Below Z w W' := (h1.trans (hb.mono (Nat.le_of_lt hzV))).grown hgr (by rw [World.size_alloc]; omega) (fun j hj => by have := (ho.block hj).1; omega)
  refine ⟨g0, c0, g, c, W', h5, hrun, ⟨_, hc⟩, hf, hB.setCell (Nat.le_refl _) _, ?_, ?_, fun j => by simp [go_sem, hf], .slice g (l.length + 1) c, by simp [go_sem, hc], ?_⟩
  · exact (World.cell?_setCell_other _ _ _ _ (by simp)).trans ((World.cell?_of_block (a := ⟨Z, 0, none⟩) eZ).trans h2)
  · exact (World.cell?_setCell_other _ _ _ _ (by simp)).trans ((World.cell?_of_block (a := ⟨Z, 1, none⟩) eZ).trans h3)
  · refine World.ownsRow.kept (row := some Z) hown (setCell_grown _ _ _ _) ?_
    cases e : (Value.slice g (l.length + 1) c).ownBlock with
    | none => exact .inl rfl
    | some j => exact .inr (fun e2 => by have := (hown.block e).1; simp only [Option.some.injEq] at e2; omega)
set_option maxRecDepth 100000 in
set_option maxHeartbeats 2000000 in
theorem rRaised_st (wd dp n : Int) (A Q R : Bool) (g : Option Addr) (M c : Nat) (L : List Int) (E : Int) (w : World)
    (HV : Kp (∀ W, Below w.heap.size w W → Calls Try.prog 17 #[.agg #[.int .i64 wd, .int .i64 dp, .slice g M c]] W fun e w' => e = .returned (.bool A) ∧ Below W.heap.size W w'))
    (HI : Kp (∀ W, Calls Try.prog 53 #[.int .i64 n, .int .i64 (-1000), .int .i64 1000] W fun e w' => e = .returned (.bool Q) ∧ W = w'))
    (HV2 : Kp (A = true → Q = true → ∀ W u, IS W u (L.map (· + n)) → Calls Try.prog 17 #[.agg #[.int .i64 wd, .int .i64 dp, u]] W fun e w' => e = .returned (.bool R) ∧ Below W.heap.size W w'))
    (HLM : Kp (A = true → Q = true → L.length = M ∧ 0 < M ∧ M ≤ 1000 ∧ ∀ (k : Nat) (y : Int), L[k]? = some y → IntKind.i64.wrap (y + n) = y + n))
    (HCE : Kp (∀ i x, L[i]? = some x → ∃ b o, g = some ⟨b, o, none⟩ ∧ w.cell? ⟨b, o + i, none⟩ = some (.int .i64 x)))
    (HE : Kp (E = if A = true then (if Q = true then (if R = true then 0 else 4) else 4) else 1)) :
    Calls Try.prog 22 #[.agg #[.int .i64 wd, .int .i64 dp, .slice g M c], .int .i64 n] w fun e w' => (∃ V, e = .returned (.tuple #[V, .int .i64 E]) ∧ GN w.heap.size w' V (gA E wd) (gA E dp) (gL E (L.map (· + n)))) ∧ Below w.heap.size w w' := by
  have HZ : ∀ (k : Int) (W : World), k ≠ 0 → GN w.heap.size W (.agg #[.int .i64 0, .int .i64 0, .slice none 0 0]) (gA k wd) (gA k dp) (gL k (L.map (· + n))) := fun k W hk => by
    unfold gA gL
    rw [if_neg hk, if_neg hk, if_neg hk]
    exact GN.mk_ (is_nil _) (fun bl o s q => by cases q)
  have HZZ := Kp.mk HZ
  clear HZ
  go_enter Try.func22, Try.ntmps22
  go_wp2_with fail
  refine (HV.out _ (by repeat (first | exact Below.refl _ _ | refine Below.alloc ?_ (by simp <;> omega) _ | refine bDrewN ?_ _ | refine Below.drew ?_))).mono ?_
  rintro en w1 ⟨rfl, hb1⟩
  have HB1 : Kp (Below w.heap.size w w1) := ⟨Below.trans (by repeat (first | refine Below.alloc ?_ (by (try simp) <;> omega) _ | refine bDrewN ?_ _ | refine Below.drew ?_ | refine Below.setCell ?_ (by (try simp) <;> omega) _ | exact Below.refl _ _)) (hb1.mono (by (try simp) <;> omega))⟩
  have hz1_0 : w.heap.size < w1.heap.size := by have := hb1.size; (try simp at this); omega
  have hz1_1 : w.heap.size + 1 < w1.heap.size := by have := hb1.size; (try simp at this); omega
  obtain ⟨hc, hf⟩ := bcell hb1
  have c1_0_0 : w1.cell? ⟨w.heap.size, 0, none⟩ = some (.int .i64 wd) := (hc _ _ (by (try simp) <;> omega)).trans (by go_simp)
  have c1_0_1 : w1.cell? ⟨w.heap.size, 1, none⟩ = some (.int .i64 dp) := (hc _ _ (by (try simp) <;> omega)).trans (by go_simp)
  have c1_0_2 : w1.cell? ⟨w.heap.size, 2, none⟩ = some ((.slice g M c)) := (hc _ _ (by (try simp) <;> omega)).trans (by go_simp)
  have z1_0 : ∀ j, w1.frozen? ⟨w.heap.size, j, none⟩ = false := fun j => (hf _ _ (by (try simp) <;> omega)).trans (by go_simp)
  have c1_1_0 : w1.cell? ⟨w.heap.size + 1, 0, none⟩ = some (.int .i64 0) := (hc _ _ (by (try simp) <;> omega)).trans (by go_simp)
  have c1_1_1 : w1.cell? ⟨w.heap.size + 1, 1, none⟩ = some (.int .i64 0) := (hc _ _ (by (try simp) <;> omega)).trans (by go_simp)
  have c1_1_2 : w1.cell? ⟨w.heap.size + 1, 2, none⟩ = some ((.slice none 0 0)) := (hc _ _ (by (try simp) <;> omega)).trans (by go_simp)
  have z1_1 : ∀ j, w1.frozen? ⟨w.heap.size + 1, j, none⟩ = false := fun j => (hf _ _ (by (try simp) <;> omega)).trans (by go_simp)
  clear hc hf hb1
  clear HV
  have z0 := z1_1 0
  have z1 := z1_1 1
  have z2 := z1_1 2
  cases A with
  | false =>
    have hE : E = 1 := by rw [HE.out]; rfl
    subst hE
    clear HE HV2 HLM HI
    go_wp2
    refine bodyPost_ret (v := .tuple #[.agg #[.int .i64 0, .int .i64 0, .slice none 0 0], .int .i64 1]) (by simp [results, Try.results22, go_sem, c1_1_0, c1_1_1, c1_1_2]) rfl ⟨⟨_, rfl, HZZ.out 1 _ (by decide)⟩, ?_⟩
    repeat (first | exact HB1.out | refine Below.setCell ?_ (by simp only; omega) _)
  | true =>
    go_wp2_with fail
    refine (HI.out _).mono ?_
    rintro en w1' ⟨rfl, rfl⟩
    clear HI
    cases Q with
    | false =>
      have hE : E = 4 := by rw [HE.out]; rfl
      subst hE
      clear HE HV2 HLM
      go_wp2
      refine bodyPost_ret (v := .tuple #[.agg #[.int .i64 0, .int .i64 0, .slice none 0 0], .int .i64 4]) (by simp [results, Try.results22, go_sem, c1_1_0, c1_1_1, c1_1_2]) rfl ⟨⟨_, rfl, HZZ.out 4 _ (by decide)⟩, ?_⟩
      repeat (first | exact HB1.out | refine Below.setCell ?_ (by simp only; omega) _)
    | true =>
      obtain ⟨hLM, hM0, hM1, hup⟩ := HLM.out (by simp) (by simp)
      have HLN := Kp.mk (And.intro hLM (And.intro hM0 (And.intro hM1 hup)))
      have HV3 := Kp.mk (HV2.out (by simp) (by simp))
      clear HV2 HLM hLM hM0 hM1 hup
      go_wp2_with fail
      obtain ⟨Z, hZ⟩ : ∃ Z, w1.heap.size = Z := ⟨_, rfl⟩
      obtain ⟨W4, hW4⟩ : ∃ W, w1.alloc (.cells #[.int .i64 wd, .int .i64 dp, .slice none 0 0] 24) = W := ⟨_, rfl⟩
      rw [hW4]
      try simp only [hZ]
      have HC0 : Kp (CZ w1 Z wd dp ((L.map (· + n)).take 0) W4) := by
        subst hZ hW4
        exact ⟨⟨(Below.refl _ _).alloc (Nat.le_refl _) _, by go_simp, by go_simp, fun j => by go_simp, .slice none 0 0, by go_simp, OwnI.nil _ _⟩⟩
      have HZ1 : Kp (w.heap.size + 1 < Z ∧ w1.heap.size = Z) := ⟨by rw [← hZ]; exact hz1_1, hZ⟩
      have HCW : Kp (∀ V, Below Z w1 V → V.cell? ⟨w.heap.size + 1, 0, none⟩ = some (.int .i64 0) ∧ V.cell? ⟨w.heap.size + 1, 1, none⟩ = some (.int .i64 0) ∧ V.cell? ⟨w.heap.size + 1, 2, none⟩ = some (.slice none 0 0) ∧ (∀ j, V.frozen? ⟨w.heap.size + 1, j, none⟩ = false) ∧ Below w.heap.size w V) := ⟨fun V hV => by
        have h1 := HZ1.out.1
        exact ⟨(hV.cell (p := ⟨_, 0, none⟩) h1).trans c1_1_0, (hV.cell (p := ⟨_, 1, none⟩) h1).trans c1_1_1, (hV.cell (p := ⟨_, 2, none⟩) h1).trans c1_1_2, fun j => (World.frozen?_of_block (a := ⟨_, j, none⟩) (hV.block _ h1)).trans (z1_1 j), HB1.out.trans (hV.mono (by omega))⟩⟩
      clear hW4 hZ c1_0_0 c1_0_1 c1_0_2 c1_1_0 c1_1_1 c1_1_2 z1_0 z1_1 hz1_0 hz1_1 z0 z1 z2
      go_loopw [25] (fun i wr => ∃ k : Nat, k ≤ M ∧ i = .int .i64 k ∧ Kp (CZ w1 Z wd dp ((L.map (· + n)).take k) wr)) (fun i _ => M - (intOf i).toNat)
      case atStart => exact ⟨0, Nat.zero_le _, rfl, HC0⟩
      case round =>
        clear HC0
        obtain ⟨k, hk, rfl, HK⟩ := hrel
        obtain ⟨hLM, hM0, hM1, hup⟩ := HLN.out
        by_cases hlt : k < M
        · obtain ⟨y, hy⟩ : ∃ y, L[k]? = some y := ⟨_, List.getElem?_eq_getElem (by omega)⟩
          obtain ⟨b', o', hg, hcz⟩ := HCE.out k y hy
          subst hg
          have hbw := (HCW.out wr HK.out.1).2.2.2.2
          have hbl := World.block_lt_of_cell? _ _ hcz
          have cx := (hbw.cell (p := ⟨b', o' + k, none⟩) hbl).trans hcz
          have o1 : (k : Int) < (M : Int) := by omega
          have o4 : k ≤ 1000 := by omega
          have o5 := hup k y hy
          have hlk : ((L.map (· + n)).take k).length = k := by rw [List.length_take, List.length_map]; omega
          have hst : (L.map (· + n)).take k ++ [y + n] = (L.map (· + n)).take (k + 1) := by rw [List.take_add_one, List.getElem?_map, hy]; rfl
          obtain ⟨g0, c0, g5, c5, W5, hcu, hrun, ⟨vz, hvz⟩, hfz, hcn⟩ := cz_next (x := y + n) HK.out (by rw [hlk]; omega)
          rw [hst] at hcn
          rw [hlk] at hcu hrun hcn
          have HN := Kp.mk hcn
          have hf2 := hfz 2
          clear hcn hst hlk hfz hcz hbw hbl hup hy
          go_wp2
          go_roundw
          case rel => exact ⟨k + 1, by omega, by go_num, HN⟩
          case measure => simp [intOf]; omega
        · have hkM : k = M := by omega
          subst hkM
          have o1 : ¬ (k : Int) < (k : Int) := by omega
          have hall : (L.map (· + n)).take k = L.map (· + n) := List.take_of_length_le (by rw [List.length_map]; omega)
          have hk2 := HK.out
          rw [hall] at hk2
          have hzl := hk2.lt
          obtain ⟨hbz, e0, e1, e2, u, e3, hown⟩ := hk2
          obtain ⟨r0, r1, r2, rz, hbw⟩ := HCW.out wr hbz
          obtain ⟨G, hG1, hG2, hri⟩ := RI.of_own hown (by rw [List.length_map]; omega)
          have HU := Kp.mk hri.is
          have HRI := Kp.mk hri
          have HBW := Kp.mk hbw
          have hz1 := HZ1.out.1
          have n2 : ¬ w.heap.size + 1 = G := by omega
          have HBZ := Kp.mk hbz
          have HGL := Kp.mk hG2
          obtain ⟨cu, hue, -, -, -⟩ := id hri
          subst hue
          have HGG : Kp (w.heap.size ≤ G) := ⟨by omega⟩
          obtain ⟨N2, hN2⟩ : ∃ N, (L.map (· + n)).length = N := ⟨_, rfl⟩
          rw [hN2] at HU HRI e3
          clear hall hri hown hbz hbw hN2 rz e2 hG1 hG2 hup
          go_wp2_with fail
          refine (HV3.out _ _ HU.out).mono ?_
          rintro en w5 ⟨rfl, hb5⟩
          have HRI5 := Kp.mk (HRI.out.on HGL.out hb5)
          have HB5 := Kp.mk (HBW.out.trans (hb5.mono HBW.out.size))
          have f0 := (hb5.cell (p := ⟨Z, 0, none⟩) hzl).trans e0
          have f1 := (hb5.cell (p := ⟨Z, 1, none⟩) hzl).trans e1
          have f3 := (hb5.cell (p := ⟨Z, 2, none⟩) hzl).trans e3
          obtain ⟨s0, s1, s2, sz, -⟩ := HCW.out w5 (HBZ.out.trans (hb5.mono (Nat.le_of_lt hzl)))
          have t0 := sz 0
          have t1 := sz 1
          have t2 := sz 2
          clear hb5 sz r0 r1 r2 e0 e1 e3 HU HRI
          cases R with
          | false =>
            have hE : E = 4 := by rw [HE.out]; simp
            subst hE
            clear HE
            go_wp2
            refine bodyPost_ret (v := .tuple #[.agg #[.int .i64 0, .int .i64 0, .slice none 0 0], .int .i64 4]) (by simp [results, Try.results22, go_sem, s0, s1, s2]) rfl ⟨⟨_, rfl, HZZ.out 4 _ (by decide)⟩, ?_⟩
            repeat (first | exact HB5.out | refine Below.setCell ?_ (by simp only; omega) _)
          | true =>
            have hE : E = 0 := by rw [HE.out]; simp
            subst hE
            clear HE
            go_wp2
            refine bodyPost_ret (v := .tuple #[.agg #[.int .i64 wd, .int .i64 dp, .slice (some ⟨G, 0, none⟩) N2 cu], .int .i64 0]) (by simp [results, Try.results22, go_sem, s0, s1, s2]) rfl ⟨⟨_, rfl, ?_⟩, ?_⟩
            · show GN w.heap.size _ _ wd dp (L.map (· + n))
              refine GN.mk_ (RI.is (G := G) ?_) (fun bl o s q _ => by simp only [Option.some.injEq, Addr.mk.injEq] at q; have := HGG.out; omega)
              repeat (first | exact HRI5.out | refine RI.away ?_ n2 _ _)
            · repeat (first | exact HB5.out | refine Below.setCell ?_ (by simp only; omega) _)
theorem rRaised_any (wd dp n : Int) (v : Value) (L : List Int) (w : World) (hv : IS w v L) (hl : L.length ≤ 9223372036854775807) :
    Calls Try.prog 22 #[.agg #[.int .i64 wd, .int .i64 dp, v], .int .i64 n] w fun e w' => (∃ V, e = .returned (.tuple #[V, .int .i64 (rsE wd dp L n)]) ∧ GN w.heap.size w' V (gA (rsE wd dp L n) wd) (gA (rsE wd dp L n) dp) (gL (rsE wd dp L n) (L.map (· + n)))) ∧ Below w.heap.size w w' := by
  have HV : Kp (∀ W, Below w.heap.size w W → Calls Try.prog 17 #[.agg #[.int .i64 wd, .int .i64 dp, v]] W fun e w' => e = .returned (.bool (gdB wd dp L)) ∧ Below W.heap.size W w') := ⟨fun W hW => rValid_any wd dp v L W (hv.below hW) hl⟩
  obtain ⟨g, c, rfl, -, hcell⟩ := hv
  refine rRaised_st wd dp n (gdB wd dp L) (inB (-1000) 1000 n) (gdB wd dp (L.map (· + n))) g L.length c L _ w HV ⟨fun W => rin_any n (-1000) 1000 W⟩ ⟨fun h1 h2 W u hu => rValid_any wd dp u _ W hu (by rw [List.length_map]; exact hl)⟩ ⟨fun h1 h2 => ?_⟩ ⟨hcell⟩ ⟨?_⟩
  · have hg := gd_len h1
    rw [inB_iff] at h2
    have hal := (gdB_iff h1).2.2.2
    exact ⟨rfl, hg.1, by omega, fun k y hy => IntWalk.i64_in _ (by have := allIn_at hal hy; omega)⟩
  · unfold rsE
    cases hg : gdB wd dp L with
    | false => rfl
    | true =>
      obtain ⟨h0, -⟩ := gd_len hg
      obtain ⟨a1, a2, a3, hal⟩ := gdB_iff hg
      rw [allIn_iff] at hal
      have m0 : 0 ≤ Lib.minOf L := (minOf_ge h0).2 fun x hx => (hal x hx).1
      have x0 : Lib.maxOf L ≤ 1000 := (maxOf_le h0).2 fun x hx => (hal x hx).2
      have mall : ∀ x ∈ L, Lib.minOf L ≤ x := (minOf_ge h0).1 (Int.le_refl _)
      have xall : ∀ x ∈ L, x ≤ Lib.maxOf L := (maxOf_le h0).1 (Int.le_refl _)
      obtain ⟨y, hy⟩ : ∃ y, y ∈ L := by
        cases L with
        | nil => simp at h0
        | cons z L => exact ⟨z, List.mem_cons_self⟩
      have y1 := mall y hy
      have y2 := xall y hy
      have y3 := hal y hy
      have key : inB (-(Lib.minOf L)) (1000 - Lib.maxOf L) n = (inB (-1000) 1000 n && gdB wd dp (L.map (· + n))) := by
        rw [Bool.eq_iff_iff, Bool.and_eq_true, inB_iff, inB_iff]
        constructor
        · rintro ⟨p1, p2⟩
          refine ⟨⟨by omega, by omega⟩, ?_⟩
          have : allIn 0 1000 (L.map (· + n)) = true := by
            rw [allIn_iff]
            intro z hz
            obtain ⟨t, ht, rfl⟩ := List.mem_map.1 hz
            have := mall t ht
            have := xall t ht
            omega
          unfold gdB
          rw [this, List.length_map, a3, allIn_two.2 ⟨a1, a2⟩]
          simp
        · rintro ⟨-, p2⟩
          have hal2 := (gdB_iff p2).2.2.2
          rw [allIn_iff] at hal2
          have q1 : -n ≤ Lib.minOf L := (minOf_ge h0).2 fun x hx => by have := hal2 (x + n) (List.mem_map_of_mem hx); omega
          have q2 : Lib.maxOf L ≤ 1000 - n := (maxOf_le h0).2 fun x hx => by have := hal2 (x + n) (List.mem_map_of_mem hx); omega
          omega
      rw [key]
      cases inB (-1000) 1000 n <;> cases gdB wd dp (L.map (· + n)) <;> rfl
end Go.Proofs.Ytjnggchljilooaa.Sc
