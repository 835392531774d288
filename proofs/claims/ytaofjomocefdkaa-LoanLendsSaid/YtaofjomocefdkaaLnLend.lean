/-
  WALKS (layer 9, loan): the program's Lend.
-/
import Derived.Test.YtaofjomocefdkaaLnConcat
import Derived.StillTailTactics
namespace Go.Proofs.Ytaofjomocefdkaa.Ln
open Go Go.RowKit Go.Sort
attribute [-go_sem] Builtin.append_

theorem region_tail {P : Program} {id : Nat} {Q : Exit → Act → World → Prop} {a : Act} {w : World} {l : List Oper} (n : Nat) (hm : P.follows .mixedOrders = true) (hB : Region.lexTailB .any l.toArray n = true)
    (h : ∀ w1, w1 = w.drew → wpStill P l.toArray w1 (fun a' => wpList P l.toArray Q (l.drop n) a' w1) (l.take n) a) : (Code.region id l.toArray true).wp P Q a w :=
  wp_region_still_tail n hm hB (h _ rfl)
set_option maxHeartbeats 2000000 in
theorem Lend_one (v : Value) (l : List Loan) (x : Loan) (w : World) (hv : LS w v l) (hm : l.length ≤ 1000) (hx : x.wf) (h0 : lndB l x = false) : Calls Try.prog 30 #[v, .agg #[.string x.p, .string x.t, .int .i64 x.out, .int .i64 x.due, .int .i64 x.back]] w fun e w' => e = .returned (.tuple #[.slice none 0 0, .int .i64 1]) ∧ Below w.heap.size w w' := by
  have HV : Kp (∀ W, Below w.heap.size w W → Calls Try.prog 60 #[v] W (EntPost l W)) := ⟨fun W hW => entered_any v l W (hv.below hW) (by omega)⟩
  have HO : Kp (∀ W, Calls Try.prog 15 #[.agg #[.string x.p, .string x.t, .int .i64 x.out, .int .i64 x.due, .int .i64 x.back]] W fun e w' => e = .returned (.bool (okB x)) ∧ Below W.heap.size W w') := ⟨fun W => ValidLoan_any x W hx⟩
  have h1 : lnE (validL l) (okB x) (x.back == 0) = false := h0
  obtain ⟨V, hV⟩ : ∃ V, validL l = V := ⟨_, rfl⟩
  obtain ⟨O, hO⟩ : ∃ O, okB x = O := ⟨_, rfl⟩
  obtain ⟨B, hB⟩ : ∃ B, (x.back == (0 : Int)) = B := ⟨_, rfl⟩
  have HVV := Kp.mk hV
  rw [hV] at h1
  rw [hO] at HO h1
  rw [hB] at h1
  obtain ⟨g, c, rfl⟩ := hv.shape
  obtain ⟨N, hN⟩ : ∃ N, l.length = N := ⟨_, rfl⟩
  rw [hN] at HV ⊢
  obtain ⟨xp, xt, xo, xd, xb⟩ := x
  simp only at HO hB
  have hb1 : Below w.heap.size w (w.alloc (.cells #[.string xp, .string xt, .int .i64 xo, .int .i64 xd, .int .i64 xb] 26)) := by repeat (first | exact Below.refl _ _ | refine Below.alloc ?_ (by simp <;> omega) _ | refine bDrewN ?_ _ | refine Below.drew ?_)
  have hat : LAt (w.alloc (.cells #[.string xp, .string xt, .int .i64 xo, .int .i64 xd, .int .i64 xb] 26)) w.heap.size 0 ⟨xp, xt, xo, xd, xb⟩ := ⟨by go_simp, by go_simp, by go_simp, by go_simp, by go_simp⟩
  have HB1 := Kp.mk hb1
  have HAT := Kp.mk hat
  clear hv hm hx hV hO hN hb1 hat h0
  go_enter Try.func30, Try.ntmps30
  go_wp2_with fail
  refine (HV.out _ HB1.out).mono ?_
  rintro en w1 ⟨hb, hres⟩
  have HB2 := Kp.mk (HB1.out.trans (hb.mono HB1.out.size))
  obtain ⟨d0, d1, d2, d3, d4⟩ := HAT.out.on hb
  simp only [Nat.zero_add] at d0 d1 d2 d3 d4
  cases V with
  | false =>
    have he : en = .returned (.tuple #[.map none, .bool false]) := by
      rcases hres with ⟨h, -⟩ | ⟨-, h⟩
      · rw [HVV.out] at h; cases h
      · exact h
    subst he
    clear hb hres h1 hB
    go_wp2
    go_ret2
    exact ⟨rfl, HB2.out⟩
  | true =>
    obtain ⟨b, rfl, -⟩ : ∃ b, en = .returned (.tuple #[.map (some b), .bool true]) ∧ True := by
      rcases hres with ⟨-, b, h, -⟩ | ⟨h, -⟩
      · exact ⟨b, h, trivial⟩
      · rw [HVV.out] at h; cases h
    clear hres
    have HA2 := Kp.mk (HAT.out.on hb)
    clear hb
    go_wp2_with fail
    refine (HO.out _).mono ?_
    rintro en w2 ⟨rfl, hb⟩
    have HB3 := Kp.mk (HB2.out.trans (hb.mono HB2.out.size))
    clear d0 d1 d2 d3 d4
    obtain ⟨d0, d1, d2, d3, d4⟩ := HA2.out.on hb
    simp only [Nat.zero_add] at d0 d1 d2 d3 d4
    clear hb
    cases O with
    | false =>
      clear h1 hB
      go_wp2
      go_ret2
      exact ⟨rfl, HB3.out⟩
    | true =>
      have hB2 : B = false := h1
      subst hB2
      have j2 : (xb != (0 : Int)) = true := by simpa using hB
      clear hB h1
      go_wp2
      go_ret2
      exact ⟨rfl, HB3.out⟩
attribute [local irreducible] wpStill
set_option maxRecDepth 100000 in
set_option maxHeartbeats 1000000 in
theorem Lend_go (v : Value) (l : List Loan) (x : Loan) (w : World) (hv : LS w v l) (hm : l.length ≤ 1000) (hx : x.wf) (h0 : lndB l x = true) : Calls Try.prog 30 #[v, .agg #[.string x.p, .string x.t, .int .i64 x.out, .int .i64 x.due, .int .i64 x.back]] w (LsPost w (lendL l x) (lendE l x)) := by
  have h1 := h0
  unfold lndB at h1
  simp only [Bool.and_eq_true, beq_iff_eq] at h1
  have h200 := validL_len h1.1.1
  have HV : Kp (∀ W, Below w.heap.size w W → Calls Try.prog 60 #[v] W (EntPost l W)) := ⟨fun W hW => entered_any v l W (hv.below hW) (by omega)⟩
  have HO : Kp (∀ W, Calls Try.prog 15 #[.agg #[.string x.p, .string x.t, .int .i64 x.out, .int .i64 x.due, .int .i64 x.back]] W fun e w' => e = .returned (.bool true) ∧ Below W.heap.size W w') := ⟨fun W => h1.1.2 ▸ ValidLoan_any x W hx⟩
  have HEN : Kp (∀ b W, Cal W b (b + 1) l.length (calL l) → Calls Try.prog 71 #[.map (some b), .agg #[.string x.p, .string x.t, .int .i64 x.out, .int .i64 x.due, .int .i64 x.back]] W fun e w' => e = .returned (.bool (lastOk (calL l x.p) x.out)) ∧ Below b W w') := ⟨fun b W hC => (enter_any b l.length (calL l) (calL (l ++ [x])) x W hC hx (by unfold maxLen; omega) (by have := calL_len l x.p; omega) (by rw [calL_snoc, eqS_refl, if_pos rfl]) (fun t ht => by rw [calL_snoc, if_neg (fun h => ht (eqS_iff.1 h).symm), List.append_nil])).mono fun e w' h => ⟨h.1, h.2.1⟩⟩
  have HVV := Kp.mk h1.1.1
  have HLV := Kp.mk hv
  have HCC : Kp (∀ (W : World) (Z Yn c : Nat) (g : Option Addr), W.cell? ⟨Z, 0, none⟩ = some (.slice g l.length c) → W.cell? ⟨Z, 1, none⟩ = some (.slice (some ⟨Yn, 0, none⟩) 1 1) → LAt W Yn 0 x → LS W (.slice g l.length c) l → Calls Try.prog 72 #[.slice (some ⟨Z, 0, none⟩) 2 2] W fun e w' => ∃ v, e = .returned v ∧ OwnL w' W.heap.size v (l ++ [x]) ∧ Below W.heap.size W w') := ⟨fun W Z Yn c g h0 h1 h2 h3 => concat_any l x W Z Yn c g h0 h1 h2 h3 hm⟩
  have HWF : Kp (∀ y ∈ l ++ [x], y.wf) := ⟨fun z hz => by
    rcases List.mem_append.1 hz with hz | hz
    · exact hv.wfs z hz
    · rw [List.mem_singleton.1 hz]; exact hx⟩
  have H9 : Kp (mayB l x = false → lendE l x = 9 ∧ lendL l x = []) := ⟨fun h => lend_9 h0 h⟩
  have H4 : Kp (mayB l x = true → l.length = 200 → lendE l x = 4 ∧ lendL l x = []) := ⟨fun h h' => lend_4 h0 h h'⟩
  have H00 : Kp (mayB l x = true → l.length ≠ 200 → lendE l x = 0 ∧ lendL l x = l ++ [x]) := ⟨fun h h' => lend_0 h0 h h'⟩
  obtain ⟨g, c, rfl⟩ := hv.shape
  have hcs : (l.length = 0 ∧ mayB l x = lastOk (calL l x.p) x.out) ∨ (∃ m y b o, l.length = m + 1 ∧ g = some ⟨b, o, none⟩ ∧ w.cell? ⟨b, o + m * 5 + 2, none⟩ = some (.int .i64 y) ∧ mayB l x = (!(decide (x.out < y)) && lastOk (calL l x.p) x.out)) := by
    cases hm : l.length with
    | zero =>
      refine .inl ⟨rfl, ?_⟩
      rw [List.eq_nil_of_length_eq_zero hm]
      rfl
    | succ m =>
      obtain ⟨y, b', o', hy, rfl, hcy⟩ := hv.last hm
      refine .inr ⟨m, y.out, b', o', rfl, rfl, hcy, ?_⟩
      have hp : prevOk l x = decide (y.out ≤ x.out) := by unfold prevOk; rw [hy]
      unfold mayB
      rw [hp]
      congr 1
      rw [Bool.eq_iff_iff]
      simp
  obtain ⟨E, hE⟩ : ∃ E, lastOk (calL l x.p) x.out = E := ⟨_, rfl⟩
  rw [hE] at HEN hcs
  obtain ⟨N, hN⟩ : ∃ N, l.length = N := ⟨_, rfl⟩
  have HN := Kp.mk hN
  have HCC2 : Kp (∀ (W : World) (Z Yn c : Nat) (g : Option Addr), W.cell? ⟨Z, 0, none⟩ = some (.slice g N c) → W.cell? ⟨Z, 1, none⟩ = some (.slice (some ⟨Yn, 0, none⟩) 1 1) → LAt W Yn 0 x → LS W (.slice g l.length c) l → Calls Try.prog 72 #[.slice (some ⟨Z, 0, none⟩) 2 2] W fun e w' => ∃ v, e = .returned v ∧ OwnL w' W.heap.size v (l ++ [x]) ∧ Below W.heap.size W w') := ⟨fun W Z Yn c g h0 => HCC.out W Z Yn c g (by rw [hN]; exact h0)⟩
  rw [hN] at HV HEN hcs h200 H4 H00 ⊢
  have hxb : x.back = 0 := h1.2
  obtain ⟨LE, hLE⟩ : ∃ E, lendE l x = E := ⟨_, rfl⟩
  obtain ⟨LL, hLL⟩ : ∃ L, lendL l x = L := ⟨_, rfl⟩
  obtain ⟨MB, hMB⟩ : ∃ M, mayB l x = M := ⟨_, rfl⟩
  rw [hLE, hLL] at H9 H4 H00 ⊢
  rw [hMB] at H9 H4 H00 hcs
  obtain ⟨xp, xt, xo, xd, xb⟩ := x
  simp only at HO hxb HEN hcs HCC2 HWF
  subst hxb
  have hb1 : Below w.heap.size w (w.alloc (.cells #[.string xp, .string xt, .int .i64 xo, .int .i64 xd, .int .i64 0] 26)) := by repeat (first | exact Below.refl _ _ | refine Below.alloc ?_ (by simp <;> omega) _ | refine bDrewN ?_ _ | refine Below.drew ?_)
  have hat : LAt (w.alloc (.cells #[.string xp, .string xt, .int .i64 xo, .int .i64 xd, .int .i64 0] 26)) w.heap.size 0 ⟨xp, xt, xo, xd, 0⟩ := ⟨by go_simp, by go_simp, by go_simp, by go_simp, by go_simp⟩
  have HB1 := Kp.mk hb1
  have HAT := Kp.mk hat
  have HCS := Kp.mk hcs
  clear hm hN hx h1 h0 hLE hLL hMB hb1 hat hE hcs hv
  go_enter Try.func30, Try.ntmps30
  go_wp2_with fail
  refine (HV.out _ HB1.out).mono ?_
  rintro en w1 ⟨hb, hres⟩
  have HB2 := Kp.mk (HB1.out.trans (hb.mono HB1.out.size))
  have HA2 := Kp.mk (HAT.out.on hb)
  obtain ⟨b, rfl, hbs, hbl, hC⟩ : ∃ b, en = .returned (.tuple #[.map (some b), .bool true]) ∧ (w.alloc (.cells #[.string xp, .string xt, .int .i64 xo, .int .i64 xd, .int .i64 0] 26)).heap.size ≤ b ∧ b < w1.heap.size ∧ Cal w1 b (b + 1) l.length (calL l) := by
    rcases hres with ⟨-, h⟩ | ⟨h, -⟩
    · exact h
    · rw [HVV.out] at h; cases h
  rw [HN.out] at hC
  rw [World.size_alloc] at hbs
  clear hres
  obtain ⟨d0, d1, d2, d3, d4⟩ := HA2.out
  simp only [Nat.zero_add] at d0 d1 d2 d3 d4
  clear hb
  go_wp2_with fail
  refine (HO.out _).mono ?_
  rintro en w2 ⟨rfl, hb⟩
  have HB3 := Kp.mk (HB2.out.trans (hb.mono HB2.out.size))
  have HA3 := Kp.mk (HA2.out.on hb)
  have HC3 := Kp.mk (hC.on hb)
  have HBL : Kp (w.heap.size < b ∧ b < w2.heap.size) := ⟨by omega, by have := hb.size; omega⟩
  clear d0 d1 d2 d3 d4 hC hbs hbl
  have hA3 := HA3.out
  obtain ⟨d0, d1, d2, d3, d4⟩ := hA3
  simp only [Nat.zero_add] at d0 d1 d2 d3 d4
  clear hb
  go_wp2_with fail
  obtain ⟨Y, hY⟩ : ∃ Y, w.heap.size = Y := ⟨_, rfl⟩
  have HY := Kp.mk hY
  rw [hY] at HB3 HA3 HBL
  simp only [hY] at d0 d1 d2 d3 d4 ⊢
  clear hY
  have hyl : Y < w2.heap.size := HA3.out.lt
  have HK : Kp (∀ V, Below b w2 V → Below Y w V ∧ LAt V Y 0 ⟨xp, xt, xo, xd, 0⟩) := ⟨fun V hV => ⟨HB3.out.trans (hV.mono (Nat.le_of_lt HBL.out.1)), HA3.out.same (hV.block _ HBL.out.1)⟩⟩
  rcases HCS.out with ⟨rfl, hmb⟩ | ⟨m, y, b', o', hnm, rfl, hcy, hmb⟩
  · have HMB := Kp.mk hmb
    have i4 : ¬ (0 : Int) < 0 := by omega
    clear hmb
    refine region_tail 18 (by kernel_rfl) (by kernel_rfl) ?_
    intro wd hwd
    have hbd : Below w2.heap.size w2 wd := by rw [hwd]; exact Below.drew (Below.refl _ _)
    have HKD := Kp.mk (HK.out _ (hbd.mono (Nat.le_of_lt HBL.out.2)))
    have HCD := Kp.mk (HC3.out.on hbd)
    have HBD := Kp.mk (hbd.mono (Nat.le_of_lt HBL.out.2))
    clear hwd hbd d0 d1 d2 d3 d4
    have hkd := HKD.out.2
    obtain ⟨d0, d1, d2, d3, d4⟩ := hkd
    simp only [Nat.zero_add] at d0 d1 d2 d3 d4
    simp only [List.take_succ_cons, List.take_zero, List.drop_succ_cons, List.drop_zero]
    repeat still_step
    refine wpStill_nil ?_
    change wpList _ _ _ _ _ _
    go_wp2_with fail
    refine (HEN.out b _ HCD.out).mono ?_
    rintro en w6 ⟨rfl, hb6⟩
    have HKW := Kp.mk (HK.out _ (HBD.out.trans hb6))
    clear hb6 d0 d1 d2 d3 d4
    have hkw := HKW.out.2
    obtain ⟨d0, d1, d2, d3, d4⟩ := hkw
    simp only [Nat.zero_add] at d0 d1 d2 d3 d4
    cases E with
    | false =>
      have HER := Kp.mk (H9.out HMB.out)
      go_wp2
      go_ret2
      rw [HER.out.1, HER.out.2]
      exact ⟨_, rfl, ⟨none, 0, rfl, Nat.le_refl _, fun i x hx => by simp at hx⟩, HY.out ▸ HKW.out.1⟩
    | true =>
        have hq : ¬ (0 : Nat) = 200 := by omega
        have HER := Kp.mk (H00.out HMB.out hq)
        have i2 : ((0 : Int) == 200) = false := by decide
        have HLW := Kp.mk (HLV.out.below (HY.out ▸ HKW.out.1))
        have hbx : ∀ (a b : Array Value) (s t : TypeId), Below w6.heap.size w6 ((w6.alloc (.cells a s)).alloc (.cells b t)) := fun a b s t => ((Below.refl _ _).alloc (Nat.le_refl _) _).alloc (by simp) _
        have HBX := Kp.mk hbx
        clear hbx
        go_wp2_with fail
        refine (HCC2.out _ _ (w6.heap.size) c g ?_ ?_ ?_ ?_).mono ?_
        · go_simp
        · go_simp
        · exact (lat_new w6 ⟨xp, xt, xo, xd, 0⟩ _).on ((Below.refl _ _).alloc (Nat.le_refl _) _)
        · exact HLW.out.below (HBX.out _ _ _ _)
        rintro en w8 ⟨v, rfl, ho, hb8⟩
        have hz : Y ≤ w6.heap.size := by have := HKW.out.1.size; have := HY.out; omega
        have HF := Kp.mk (And.intro (ho.ls HWF.out) (HKW.out.1.trans (((HBX.out _ _ _ _).mono hz).trans (hb8.mono (Nat.le_trans hz (HBX.out _ _ _ _).size)))))
        clear ho hb8 hz
        go_wp2
        go_ret2
        rw [HER.out.1, HER.out.2]
        exact ⟨_, rfl, HF.out.1, HY.out ▸ HF.out.2⟩
  · obtain ⟨P, hP⟩ : ∃ P, decide (xo < y) = P := ⟨_, rfl⟩
    rw [hP] at hmb
    have HMB := Kp.mk hmb
    have i4 : decide (0 < N) = true := decide_eq_true (by omega)
    have i5 : IntKind.i64.wrap ((N : Int) - 1) = (m : Int) := by rw [show (N : Int) - 1 = m by omega]; exact IntWalk.i64_in _ (by omega)
    have o5 : (m : Int) < (N : Int) := by omega
    have hcy2 : ∀ V, Below Y w V → V.cell? ⟨b', o' + m * 5 + 2, none⟩ = some (.int .i64 y) := fun V hV => (World.cell?_of_block (a := ⟨b', _, none⟩) (hV.block _ (HY.out ▸ World.block_lt_of_cell? _ _ hcy))).trans hcy
    have HCY := Kp.mk hcy2
    clear hmb hnm hcy hcy2
    cases P with
    | true =>
      refine region_tail 18 (by kernel_rfl) (by kernel_rfl) ?_
      intro wd hwd
      have hbd : Below w2.heap.size w2 wd := by rw [hwd]; exact Below.drew (Below.refl _ _)
      have HKD := Kp.mk (HK.out _ (hbd.mono (Nat.le_of_lt HBL.out.2)))
      have HCD := Kp.mk (HC3.out.on hbd)
      have HBD := Kp.mk (hbd.mono (Nat.le_of_lt HBL.out.2))
      have hcy := HCY.out _ HKD.out.1
      clear hwd hbd d0 d1 d2 d3 d4
      have hkd := HKD.out.2
      obtain ⟨d0, d1, d2, d3, d4⟩ := hkd
      simp only [Nat.zero_add] at d0 d1 d2 d3 d4
      simp only [List.take_succ_cons, List.take_zero, List.drop_succ_cons, List.drop_zero]
      repeat still_step
      refine wpStill_nil ?_
      change wpList _ _ _ _ _ _
      clear i4 i5 o5 hcy hP
      have HER := Kp.mk (H9.out (by rw [HMB.out]; rfl))
      go_wp2
      go_ret2
      rw [HER.out.1, HER.out.2]
      exact ⟨_, rfl, ⟨none, 0, rfl, Nat.le_refl _, fun i x hx => by simp at hx⟩, HY.out ▸ HKD.out.1⟩
    | false =>
      refine region_tail 18 (by kernel_rfl) (by kernel_rfl) ?_
      intro wd hwd
      have hbd : Below w2.heap.size w2 wd := by rw [hwd]; exact Below.drew (Below.refl _ _)
      have HKD := Kp.mk (HK.out _ (hbd.mono (Nat.le_of_lt HBL.out.2)))
      have HCD := Kp.mk (HC3.out.on hbd)
      have HBD := Kp.mk (hbd.mono (Nat.le_of_lt HBL.out.2))
      have hcy := HCY.out _ HKD.out.1
      clear hwd hbd d0 d1 d2 d3 d4
      have hkd := HKD.out.2
      obtain ⟨d0, d1, d2, d3, d4⟩ := hkd
      simp only [Nat.zero_add] at d0 d1 d2 d3 d4
      simp only [List.take_succ_cons, List.take_zero, List.drop_succ_cons, List.drop_zero]
      repeat still_step
      refine wpStill_nil ?_
      change wpList _ _ _ _ _ _
      clear i4 i5 o5 hcy hP
      go_wp2_with fail
      refine (HEN.out b _ HCD.out).mono ?_
      rintro en w6 ⟨rfl, hb6⟩
      have HKW := Kp.mk (HK.out _ (HBD.out.trans hb6))
      clear hb6 d0 d1 d2 d3 d4
      have hkw := HKW.out.2
      obtain ⟨d0, d1, d2, d3, d4⟩ := hkw
      simp only [Nat.zero_add] at d0 d1 d2 d3 d4
      cases E with
      | false =>
        have HER := Kp.mk (H9.out (by rw [HMB.out]; rfl))
        go_wp2
        go_ret2
        rw [HER.out.1, HER.out.2]
        exact ⟨_, rfl, ⟨none, 0, rfl, Nat.le_refl _, fun i x hx => by simp at hx⟩, HY.out ▸ HKW.out.1⟩
      | true =>
        by_cases hq : N = 200
        · have HER := Kp.mk (H4.out (by rw [HMB.out]; rfl) hq)
          have i2 : ((N : Int) == 200) = true := by rw [hq]; rfl
          go_wp2
          go_ret2
          rw [HER.out.1, HER.out.2]
          exact ⟨_, rfl, ⟨none, 0, rfl, Nat.le_refl _, fun i x hx => by simp at hx⟩, HY.out ▸ HKW.out.1⟩
        · have HER := Kp.mk (H00.out (by rw [HMB.out]; rfl) hq)
          have i2 : ((N : Int) == 200) = false := by simp; omega
          have HLW := Kp.mk (HLV.out.below (HY.out ▸ HKW.out.1))
          have hbx : ∀ (a b : Array Value) (s t : TypeId), Below w6.heap.size w6 ((w6.alloc (.cells a s)).alloc (.cells b t)) := fun a b s t => ((Below.refl _ _).alloc (Nat.le_refl _) _).alloc (by simp) _
          have HBX := Kp.mk hbx
          clear hbx
          go_wp2_with fail
          refine (HCC2.out _ _ (w6.heap.size) c (some ⟨b', o', none⟩) ?_ ?_ ?_ ?_).mono ?_
          · go_simp
          · go_simp
          · exact (lat_new w6 ⟨xp, xt, xo, xd, 0⟩ _).on ((Below.refl _ _).alloc (Nat.le_refl _) _)
          · exact HLW.out.below (HBX.out _ _ _ _)
          rintro en w8 ⟨v, rfl, ho, hb8⟩
          have hz : Y ≤ w6.heap.size := by have := HKW.out.1.size; have := HY.out; omega
          have HF := Kp.mk (And.intro (ho.ls HWF.out) (HKW.out.1.trans (((HBX.out _ _ _ _).mono hz).trans (hb8.mono (Nat.le_trans hz (HBX.out _ _ _ _).size)))))
          clear ho hb8 hz
          go_wp2
          go_ret2
          rw [HER.out.1, HER.out.2]
          exact ⟨_, rfl, HF.out.1, HY.out ▸ HF.out.2⟩
theorem Lend_any (v : Value) (l : List Loan) (x : Loan) (w : World) (hv : LS w v l) (hm : l.length ≤ 1000) (hx : x.wf) : Calls Try.prog 30 #[v, .agg #[.string x.p, .string x.t, .int .i64 x.out, .int .i64 x.due, .int .i64 x.back]] w (LsPost w (lendL l x) (lendE l x)) := by
  cases h : lndB l x with
  | true => exact Lend_go v l x w hv hm hx h
  | false =>
    obtain ⟨e1, e2⟩ := lend_1 h
    rw [e1, e2]
    exact (Lend_one v l x w hv hm hx h).mono fun e w' ⟨h1, h2⟩ => ⟨_, h1, ⟨none, 0, rfl, Nat.le_refl _, fun i x hx => by simp at hx⟩, h2⟩
end Go.Proofs.Ytaofjomocefdkaa.Ln
