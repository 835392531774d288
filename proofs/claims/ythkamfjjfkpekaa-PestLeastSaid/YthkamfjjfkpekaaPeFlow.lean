/-
  WALKS (layer 8, pest): which amounts are a flow.
-/
import Derived.Test.YthkamfjjfkpekaaPeVal
namespace Go.Proofs.Ythkamfjjfkpekaa.Pe
open Go Go.RowKit Go.Proofs Go.Sort

/-- Through each of the first doors goes no more than its cost. -/
def capF (ds : List Dr) (fl : List Int) : Nat → Bool
  | 0 => true
  | k + 1 => capF ds fl k && inB (-(ds.getD k default).c) (ds.getD k default).c (fl.getD k 0)
theorem capF_no {ds : List Dr} {fl : List Int} {k n : Nat} (h : capF ds fl k = false) (hk : k ≤ n) : capF ds fl n = false := by
  induction n with
  | zero => rwa [show k = 0 by omega] at h
  | succ n ih =>
    by_cases e : k = n + 1
    · rwa [e] at h
    · unfold capF
      rw [ih (by omega)]
      rfl
/-- Of the first rooms, those out of a set have nothing that leaves them. -/
def zeroF (S : Nat) (ol : List Int) : Nat → Bool
  | 0 => true
  | k + 1 => zeroF S ol k && (decide (ol.getD k 0 = 0) || S.testBit k)
theorem zeroF_no {S : Nat} {ol : List Int} {k n : Nat} (h : zeroF S ol k = false) (hk : k ≤ n) : zeroF S ol n = false := by
  induction n with
  | zero => rwa [show k = 0 by omega] at h
  | succ n ih =>
    by_cases e : k = n + 1
    · rwa [e] at h
    · unfold zeroF
      rw [ih (by omega)]
      rfl
/-- What the walk keeps: the house, the amounts. -/
structure FV (w : World) (Z : Nat) (fl : List Int) (v : Value) (R : Int) (I K : Nat) (W : World) : Prop where
  below : Below w.heap.size w W
  fr : Row 83 W (Z + 1) fl
  h0 : W.cell? ⟨Z, 0, none⟩ = some (.int .i64 R)
  h1 : W.cell? ⟨Z, 1, none⟩ = some v
  h2 : W.cell? ⟨Z, 2, none⟩ = some (.int .i64 (I : Nat))
  h3 : W.cell? ⟨Z, 3, none⟩ = some (.int .i64 (K : Nat))
theorem FV.on {w W V : World} {Z : Nat} {fl : List Int} {v : Value} {R : Int} {I K : Nat} (h : FV w Z fl v R I K W) (hb : Below W.heap.size W V) : FV w Z fl v R I K V :=
  ⟨h.below.trans (hb.mono h.below.size), h.fr.on hb, (hb.cell (p := ⟨Z, 0, none⟩) (World.block_lt_of_cell? _ _ h.h0)).trans h.h0, (hb.cell (p := ⟨Z, 1, none⟩) (World.block_lt_of_cell? _ _ h.h1)).trans h.h1, (hb.cell (p := ⟨Z, 2, none⟩) (World.block_lt_of_cell? _ _ h.h2)).trans h.h2, (hb.cell (p := ⟨Z, 3, none⟩) (World.block_lt_of_cell? _ _ h.h3)).trans h.h3⟩
theorem flow_start {w W0 : World} {R : Int} {I K : Nat} {v : Value} {fl : List Int} {t : TypeId}
    (h0 : ((w.alloc (.cells #[.int .i64 R, v, .int .i64 (I : Nat), .int .i64 (K : Nat)] t)).alloc (.cells (ivs fl) 83)) = W0) :
    FV w w.heap.size fl v R I K W0 := by
  subst h0
  exact ⟨by repeat (first | exact Below.refl _ _ | refine Below.alloc ?_ (by simp <;> omega) _ | refine bDrewN ?_ _ | refine Below.drew ?_), ⟨second_row _ _ _ _⟩, by go_simp, by go_simp, by go_simp, by go_simp⟩
set_option maxRecDepth 100000 in
set_option maxHeartbeats 4000000 in
theorem isFlow_any (R : Int) (I K : Nat) (v : Value) (ds : List Dr) (fl : List Int) (w : World) (hv : DS w v ds) (hl : ds.length ≤ 40) (hfl : fl.length = 40) (hf : ∀ k : Nat, k < ds.length → -1000 ≤ fl.getD k 0 ∧ fl.getD k 0 ≤ 1000) (hd : DoorsIn ds) (hdc : ∀ d ∈ ds, 0 ≤ d.c ∧ d.c ≤ 1000) (hI : I < 4096) (hK : K < 4096) :
    Calls Try.prog 69 #[.agg #[.int .i64 R, v, .int .i64 (I : Nat), .int .i64 (K : Nat)], .agg (ivs fl)] w fun e w' => e = .returned (.bool (capF ds fl ds.length && zeroF (I ||| K) (leavF ds fl ds.length) 12)) ∧ Below w.heap.size w w' := by
  have HLC : Kp (∀ W, Below w.heap.size w W → Calls Try.prog 96 #[.agg #[.int .i64 R, v, .int .i64 (I : Nat), .int .i64 (K : Nat)], .agg (ivs fl)] W fun e w' => e = .returned (.agg (ivs (leavF ds fl ds.length))) ∧ Below W.heap.size W w') := ⟨fun W hW => leaving_any R I K v ds fl W (hv.below hW) hl hfl hf hd⟩
  have HLN := Kp.mk (leavF_len ds fl ds.length)
  obtain ⟨ol, hol⟩ : ∃ ol, leavF ds fl ds.length = ol := ⟨_, rfl⟩
  rw [hol] at HLC HLN
  rw [hol]
  have HH : Kp (∀ (k : Nat) W, k ≤ 63 → Calls Try.prog 61 #[.int .i64 ((I ||| K : Nat) : Int), .int .i64 (k : Nat)] W fun e w' => e = .returned (.bool ((I ||| K).testBit k)) ∧ W = w') := ⟨fun k W hk => has_any (I ||| K) k W (by have := Nat.or_lt_two_pow (n := 12) (x := I) (y := K) (by omega) (by omega); omega) hk⟩
  have HOR : Kp (bits .or .i64 (I : Int) (K : Int) = ((I ||| K : Nat) : Int)) := ⟨or_nat (by omega) (by omega)⟩
  have HIX : Kp (∀ (k : Nat) W, k < 12 → (Instr.index 105 (.agg (ivs ol)) (.int .i64 (k : Int))).run Try.prog W = .ok (.int .i64 (ol.getD k 0)) W) := ⟨fun k W hk => run_ix ol HLN.out k hk W⟩
  have HIS : Kp ((Try.prog.info? 83).map (·.size) = some (ivs fl).size) := ⟨by rw [ivs_size, hfl]; kernel_rfl⟩
  obtain ⟨g, c, rfl, hi⟩ := hv
  have HS := Kp.mk hi
  obtain ⟨N, hN⟩ : ∃ N, ds.length = N := ⟨_, rfl⟩
  have HN := Kp.mk hN
  have HFL := Kp.mk hfl
  have HD := Kp.mk hdc
  rw [hN] at hl HLC ⊢
  clear hi hN hf hd hfl hdc hI hK hol
  go_enter Try.func69, Try.ntmps69
  go_wp2
  obtain ⟨W1, hW1⟩ : ∃ W, (w.alloc (.cells #[.int .i64 R, .slice g N c, .int .i64 (I : Nat), .int .i64 (K : Nat)] 24)).alloc (.cells (ivs fl) 83) = W := ⟨_, rfl⟩
  try rw [hW1]
  have hlv := flow_start hW1
  obtain ⟨Z, hZ⟩ : ∃ Z, w.heap.size = Z := ⟨_, rfl⟩
  have HZ := Kp.mk hZ
  rw [hZ] at hlv
  have HL0 := Kp.mk hlv
  try simp only [hZ]
  try simp only [Nat.add_assoc, Nat.reduceAdd]
  clear hW1 hlv hZ
  go_loopw [12] (fun i wr => ∃ k : Nat, k ≤ N ∧ i = .int .i64 k ∧ Kp (FV w Z fl (.slice g N c) R I K wr) ∧ Kp (capF ds fl k = true)) (fun i _ => N - (intOf i).toNat)
  case atStart => exact ⟨0, Nat.zero_le _, rfl, HL0, ⟨rfl⟩⟩
  case round =>
    clear HL0
    obtain ⟨k, hk, rfl, HL, HCP⟩ := hrel
    by_cases hlt : k < N
    · obtain ⟨d, hx⟩ : ∃ d, ds[k]? = some d := ⟨_, List.getElem?_eq_getElem (by rw [HN.out]; exact hlt)⟩
      obtain ⟨f, hfx⟩ : ∃ f, fl[k]? = some f := ⟨_, List.getElem?_eq_getElem (by rw [HFL.out]; omega)⟩
      have hxd : ds.getD k default = d := by rw [List.getD_eq_getElem?_getD, hx]; rfl
      have hfd : fl.getD k 0 = f := by rw [List.getD_eq_getElem?_getD, hfx]; rfl
      obtain ⟨b, o, hg, h1, h2, h3⟩ := HS.out k d hx
      subst hg
      have q1 := HD.out d (List.mem_of_getElem? hx)
      obtain ⟨da, db, dc⟩ := d
      simp only at h1 h2 h3 q1
      have hbl : b < w.heap.size := World.block_lt_of_cell? _ _ h1
      have c1 := (HL.out.below.cell (p := ⟨b, o + k * 3, none⟩) hbl).trans h1
      have c2 := (HL.out.below.cell (p := ⟨b, o + k * 3 + 1, none⟩) hbl).trans h2
      have c3 := (HL.out.below.cell (p := ⟨b, o + k * 3 + 2, none⟩) hbl).trans h3
      have o1 : (k : Int) < (N : Int) := by omega
      have o4 : k ≤ 40 := by omega
      have ik : (k : Int) < 40 := by omega
      have jk : k < 40 := by omega
      have e1 : IntKind.i64.wrap (-dc) = -dc := IntWalk.i64_in _ (by omega)
      obtain ⟨C, hC⟩ : ∃ C, inB (-dc) dc f = C := ⟨_, rfl⟩
      have HST : Kp (capF ds fl (k + 1) = (capF ds fl k && C)) := ⟨by
        show (capF ds fl k && inB (-(ds.getD k default).c) (ds.getD k default).c (fl.getD k 0)) = _
        rw [hxd, hfd, hC]⟩
      have HWI : Kp (∀ W u, IS W u [f] → Calls Try.prog 51 #[.int .i64 (-dc), .int .i64 dc, u] W fun e w' => e = .returned (.bool C) ∧ Below W.heap.size W w') := ⟨fun W u hu => by
        have := within_any (-dc) dc u [f] W hu (by simp)
        rw [allIn_one, hC] at this
        exact this.mono fun e w' ⟨he, hw⟩ => ⟨he, hw ▸ Below.refl _ _⟩⟩
      have HFX := Kp.mk hfx
      clear hx hxd hfx hfd h1 h2 h3 hbl q1 hC
      go_wp2
      obtain ⟨D, hD⟩ : ∃ D, wr.heap.size = D := ⟨_, rfl⟩
      obtain ⟨V, hV⟩ : ∃ V, wr.alloc (.cells #[.int .i64 da, .int .i64 db, .int .i64 dc] 48) = V := ⟨_, rfl⟩
      have hbz : Below wr.heap.size wr V := by subst hV; exact (Below.refl _ _).alloc (Nat.le_refl _) _
      have HLV := Kp.mk (HL.out.on hbz)
      have HDV : Kp (V.cell? ⟨D, 2, none⟩ = some (.int .i64 dc)) := ⟨by subst hV hD; go_simp⟩
      have HALL : Kp (∀ w', Below V.heap.size V w' → w'.cell? ⟨D, 2, none⟩ = some (.int .i64 dc) ∧ w'.cell? ⟨Z + 1, k, none⟩ = some (.int .i64 f)) := ⟨fun w' hb => ⟨(hb.cell (p := ⟨D, 2, none⟩) (World.block_lt_of_cell? _ _ HDV.out)).trans HDV.out, (HLV.out.on hb).fr.cell HFX.out⟩⟩
      rw [hV]
      simp only [hD]
      clear hbz hV hD c1 c2 c3 HL HDV
      refine wp_region_noPanic ?_
      refine region_nm ?_
      intro ops Qp hops hQp
      have HQP : Kp (∀ c a d v w, Qp (.panic c) (Act.put a d v) w → Qp (.panic c) a w) := ⟨by subst hQp; intro c a d v w h; exact h⟩
      have HFIN : Kp (∀ (w' : World) (b8 : Nat), Below V.heap.size V w' → (w'.cell? ⟨b8, 0, none⟩ = some (.int .i64 f)) → Qp .normal { tmps := #[.agg #[.int .i64 R, .slice (some ⟨b, o, none⟩) N c, .int .i64 (I : Nat), .int .i64 (K : Nat)], .agg (ivs fl), .pointer (some ⟨Z, 0, none⟩), .pointer (some ⟨Z + 1, 0, none⟩), u4, .int .i64 (k : Int), .pointer (some ⟨D, 0, none⟩), undef, undef, .pointer (some ⟨Z, 1, none⟩), .slice (some ⟨b, o, none⟩) N c, .int .i64 (N : Int), .int .i64 (k : Int), .bool true, .int .i64 (k : Int), .pointer (some ⟨b, o + k * 3, none⟩), .agg #[.int .i64 da, .int .i64 db, .int .i64 dc], .pointer (some ⟨D, 2, none⟩), .int .i64 dc, .int .i64 (-dc), .pointer (some ⟨D, 2, none⟩), .int .i64 dc, .int .i64 (k : Int), .pointer (some ⟨Z + 1, k, none⟩), .int .i64 f, .slice (some ⟨b8, 0, none⟩) 1 1, .bool C, .bool (!C), u28, undef, undef, undef, undef, undef, undef, undef, undef, undef, undef, undef, undef, undef, undef, undef, undef, undef, undef, undef, undef], defers := [] } w') := by
        refine ⟨?_⟩
        intro w' b8 hw f8_0
        have HBV := Kp.mk hw
        clear HQP hops hw
        subst hQp
        refine NoPanic.normal ?_
        have HL2 := Kp.mk (HLV.out.on HBV.out)
        clear HWI HALL
        cases C with
        | true =>
          have HC2 : Kp (capF ds fl (k + 1) = true) := ⟨by rw [HST.out, HCP.out]; rfl⟩
          go_wp2
          go_roundw
          case rel => exact ⟨k + 1, by omega, by go_num, HL2, HC2⟩
          case measure => simp [intOf]; omega
        | false =>
          have HC2 : Kp (capF ds fl N = false) := ⟨capF_no (k := k + 1) (by rw [HST.out, HCP.out]; rfl) (by omega)⟩
          go_wp2
          go_ret
          exact ⟨by rw [HC2.out]; rfl, HL2.out.below⟩
      have S0_1_2_3_4_5_6_7_8_9 : Kp (∀ (w' : World) (b8 : Nat), Below V.heap.size V w' → (w'.cell? ⟨b8, 0, none⟩ = some (.int .i64 f)) → wpAnyH Try.prog .any ops Qp (fun w' => Below V.heap.size V w') 1 #[true, true, true, true, true, true, true, true, true, true, false] { tmps := #[.agg #[.int .i64 R, .slice (some ⟨b, o, none⟩) N c, .int .i64 (I : Nat), .int .i64 (K : Nat)], .agg (ivs fl), .pointer (some ⟨Z, 0, none⟩), .pointer (some ⟨Z + 1, 0, none⟩), u4, .int .i64 (k : Int), .pointer (some ⟨D, 0, none⟩), undef, undef, .pointer (some ⟨Z, 1, none⟩), .slice (some ⟨b, o, none⟩) N c, .int .i64 (N : Int), .int .i64 (k : Int), .bool true, .int .i64 (k : Int), .pointer (some ⟨b, o + k * 3, none⟩), .agg #[.int .i64 da, .int .i64 db, .int .i64 dc], .pointer (some ⟨D, 2, none⟩), .int .i64 dc, .int .i64 (-dc), .pointer (some ⟨D, 2, none⟩), .int .i64 dc, .int .i64 (k : Int), .pointer (some ⟨Z + 1, k, none⟩), .int .i64 f, .slice (some ⟨b8, 0, none⟩) 1 1, .bool C, u27, u28, undef, undef, undef, undef, undef, undef, undef, undef, undef, undef, undef, undef, undef, undef, undef, undef, undef, undef, undef, undef], defers := [] } w') := by
        refine ⟨?_⟩
        intro w' b8 hw f8_0
        refine wpAnyH_take (i := 10) (oi := { dst := some 27, op := Go.Op.unOp Go.UnOp.not 4 (Go.Operand.tmp 26), type := 4, pos := "flow.go:99", after := #[{ on := 9, ground := Go.Ground.data }], guard := none }) (v := .bool (!C)) (by rw [hops]; kernel_rfl) (by rw [hops]; kernel_rfl) (by rw [hops]; kernel_rfl) (by rw [hops]; kernel_rfl) (fun c a w h => HQP.out c a _ _ w h) (Or.inl ⟨by rw [hops]; kernel_rfl, by intro w _; go_simp⟩) hw ?_
        simp only [Act.put, List.setIfInBounds_toArray, List.set_cons_zero, List.set_cons_succ]
        refine wpAnyH_done (by rw [hops]; kernel_rfl) ?_ _
        exact HFIN.out w' b8 hw f8_0
      have S0_1_2_3_4_5_6_7_8 : Kp (∀ (w' : World) (b8 : Nat), Below V.heap.size V w' → (w'.cell? ⟨b8, 0, none⟩ = some (.int .i64 f)) → wpAnyH Try.prog .any ops Qp (fun w' => Below V.heap.size V w') 2 #[true, true, true, true, true, true, true, true, true, false, false] { tmps := #[.agg #[.int .i64 R, .slice (some ⟨b, o, none⟩) N c, .int .i64 (I : Nat), .int .i64 (K : Nat)], .agg (ivs fl), .pointer (some ⟨Z, 0, none⟩), .pointer (some ⟨Z + 1, 0, none⟩), u4, .int .i64 (k : Int), .pointer (some ⟨D, 0, none⟩), undef, undef, .pointer (some ⟨Z, 1, none⟩), .slice (some ⟨b, o, none⟩) N c, .int .i64 (N : Int), .int .i64 (k : Int), .bool true, .int .i64 (k : Int), .pointer (some ⟨b, o + k * 3, none⟩), .agg #[.int .i64 da, .int .i64 db, .int .i64 dc], .pointer (some ⟨D, 2, none⟩), .int .i64 dc, .int .i64 (-dc), .pointer (some ⟨D, 2, none⟩), .int .i64 dc, .int .i64 (k : Int), .pointer (some ⟨Z + 1, k, none⟩), .int .i64 f, .slice (some ⟨b8, 0, none⟩) 1 1, u26, u27, u28, undef, undef, undef, undef, undef, undef, undef, undef, undef, undef, undef, undef, undef, undef, undef, undef, undef, undef, undef, undef], defers := [] } w') := by
        refine ⟨?_⟩
        intro w' b8 hw f8_0
        refine wpAnyH_ready (rs := [9]) (by rw [hops]; kernel_rfl) (by simp) ?_
        refine AllReadyH.cons (o := { dst := some 26, op := Go.Op.call { callee := Go.Callee.value (Go.Operand.func 51), args := #[Go.Operand.tmp 19, Go.Operand.tmp 21, Go.Operand.tmp 25], argTypes := #[3, 3, 25] }, type := 4, pos := "flow.go:99", after := #[{ on := 2, ground := Go.Ground.data }, { on := 4, ground := Go.Ground.data }, { on := 8, ground := Go.Ground.data }], guard := none }) (by rw [hops]; kernel_rfl) (fun K hK => ?_) ?_
        · rw [if_pos (by rw [hops]; kernel_rfl)]
          go_simp
          refine (HWI.out w' _ (is_one f8_0)).mono ?_
          rintro en w5 ⟨rfl, hb5⟩
          exact hK.out _ _ (hw.trans (hb5.mono hw.size)) (fun hwn => S0_1_2_3_4_5_6_7_8_9.out w5 b8 hwn ((hb5.cell (p := ⟨b8, 0, none⟩) (World.block_lt_of_cell? _ _ f8_0)).trans f8_0) )
        exact AllReadyH.nil
      have S : Kp (∀ (w' : World), Below V.heap.size V w' → wpAnyH Try.prog .any ops Qp (fun w' => Below V.heap.size V w') 11 #[false, false, false, false, false, false, false, false, false, false, false] { tmps := #[.agg #[.int .i64 R, .slice (some ⟨b, o, none⟩) N c, .int .i64 (I : Nat), .int .i64 (K : Nat)], .agg (ivs fl), .pointer (some ⟨Z, 0, none⟩), .pointer (some ⟨Z + 1, 0, none⟩), u4, .int .i64 (k : Int), .pointer (some ⟨D, 0, none⟩), undef, undef, .pointer (some ⟨Z, 1, none⟩), .slice (some ⟨b, o, none⟩) N c, .int .i64 (N : Int), .int .i64 (k : Int), .bool true, .int .i64 (k : Int), .pointer (some ⟨b, o + k * 3, none⟩), .agg #[.int .i64 da, .int .i64 db, .int .i64 dc], u17, u18, u19, u20, u21, u22, u23, u24, u25, u26, u27, u28, undef, undef, undef, undef, undef, undef, undef, undef, undef, undef, undef, undef, undef, undef, undef, undef, undef, undef, undef, undef], defers := [] } w') := by
        refine ⟨?_⟩
        intro w' hw
        refine wpAnyH_take (i := 0) (oi := { dst := some 17, op := Go.Op.fieldAddr 48 (Go.Operand.tmp 6) 2, type := 0, pos := "flow.go:99", after := #[], guard := none }) (v := .pointer (some ⟨D, 2, none⟩)) (by rw [hops]; kernel_rfl) (by rw [hops]; kernel_rfl) (by rw [hops]; kernel_rfl) (by rw [hops]; kernel_rfl) (fun c a w h => HQP.out c a _ _ w h) (Or.inl ⟨by rw [hops]; kernel_rfl, by intro w _; go_simp⟩) hw ?_
        simp only [Act.put, List.setIfInBounds_toArray, List.set_cons_zero, List.set_cons_succ]
        refine wpAnyH_take (i := 1) (oi := { dst := some 18, op := Go.Op.load 3 (Go.Operand.tmp 17), type := 3, pos := "flow.go:99", after := #[{ on := 0, ground := Go.Ground.data }], guard := none }) (v := .int .i64 dc) (by rw [hops]; kernel_rfl) (by rw [hops]; kernel_rfl) (by rw [hops]; kernel_rfl) (by rw [hops]; kernel_rfl) (fun c a w h => HQP.out c a _ _ w h) (Or.inl ⟨by rw [hops]; kernel_rfl, by intro w hwS; obtain ⟨d2, a1⟩ := HALL.out w hwS; go_simp⟩) hw ?_
        simp only [Act.put, List.setIfInBounds_toArray, List.set_cons_zero, List.set_cons_succ]
        refine wpAnyH_take (i := 2) (oi := { dst := some 19, op := Go.Op.unOp Go.UnOp.neg 3 (Go.Operand.tmp 18), type := 3, pos := "flow.go:99", after := #[{ on := 1, ground := Go.Ground.data }], guard := none }) (v := .int .i64 (-dc)) (by rw [hops]; kernel_rfl) (by rw [hops]; kernel_rfl) (by rw [hops]; kernel_rfl) (by rw [hops]; kernel_rfl) (fun c a w h => HQP.out c a _ _ w h) (Or.inl ⟨by rw [hops]; kernel_rfl, by intro w _; go_simp⟩) hw ?_
        simp only [Act.put, List.setIfInBounds_toArray, List.set_cons_zero, List.set_cons_succ]
        refine wpAnyH_take (i := 3) (oi := { dst := some 20, op := Go.Op.fieldAddr 48 (Go.Operand.tmp 6) 2, type := 0, pos := "flow.go:99", after := #[], guard := none }) (v := .pointer (some ⟨D, 2, none⟩)) (by rw [hops]; kernel_rfl) (by rw [hops]; kernel_rfl) (by rw [hops]; kernel_rfl) (by rw [hops]; kernel_rfl) (fun c a w h => HQP.out c a _ _ w h) (Or.inl ⟨by rw [hops]; kernel_rfl, by intro w _; go_simp⟩) hw ?_
        simp only [Act.put, List.setIfInBounds_toArray, List.set_cons_zero, List.set_cons_succ]
        refine wpAnyH_take (i := 4) (oi := { dst := some 21, op := Go.Op.load 3 (Go.Operand.tmp 20), type := 3, pos := "flow.go:99", after := #[{ on := 3, ground := Go.Ground.data }], guard := none }) (v := .int .i64 dc) (by rw [hops]; kernel_rfl) (by rw [hops]; kernel_rfl) (by rw [hops]; kernel_rfl) (by rw [hops]; kernel_rfl) (fun c a w h => HQP.out c a _ _ w h) (Or.inl ⟨by rw [hops]; kernel_rfl, by intro w hwS; obtain ⟨d2, a1⟩ := HALL.out w hwS; go_simp⟩) hw ?_
        simp only [Act.put, List.setIfInBounds_toArray, List.set_cons_zero, List.set_cons_succ]
        refine wpAnyH_take (i := 5) (oi := { dst := some 22, op := Go.Op.move (Go.Operand.tmp 5), type := 3, pos := "flow.go:99", after := #[], guard := none }) (v := .int .i64 (k : Int)) (by rw [hops]; kernel_rfl) (by rw [hops]; kernel_rfl) (by rw [hops]; kernel_rfl) (by rw [hops]; kernel_rfl) (fun c a w h => HQP.out c a _ _ w h) (Or.inl ⟨by rw [hops]; kernel_rfl, by intro w _; go_simp⟩) hw ?_
        simp only [Act.put, List.setIfInBounds_toArray, List.set_cons_zero, List.set_cons_succ]
        refine wpAnyH_take (i := 6) (oi := { dst := some 23, op := Go.Op.indexAddr 83 (Go.Operand.tmp 3) (Go.Operand.tmp 22), type := 0, pos := "flow.go:99", after := #[{ on := 5, ground := Go.Ground.data }], guard := none }) (v := .pointer (some ⟨Z + 1, k, none⟩)) (by rw [hops]; kernel_rfl) (by rw [hops]; kernel_rfl) (by rw [hops]; kernel_rfl) (by rw [hops]; kernel_rfl) (fun c a w h => HQP.out c a _ _ w h) (Or.inl ⟨by rw [hops]; kernel_rfl, by intro w _; go_simp⟩) hw ?_
        simp only [Act.put, List.setIfInBounds_toArray, List.set_cons_zero, List.set_cons_succ]
        refine wpAnyH_take (i := 7) (oi := { dst := some 24, op := Go.Op.load 3 (Go.Operand.tmp 23), type := 3, pos := "flow.go:99", after := #[{ on := 6, ground := Go.Ground.data }], guard := none }) (v := .int .i64 f) (by rw [hops]; kernel_rfl) (by rw [hops]; kernel_rfl) (by rw [hops]; kernel_rfl) (by rw [hops]; kernel_rfl) (fun c a w h => HQP.out c a _ _ w h) (Or.inl ⟨by rw [hops]; kernel_rfl, by intro w hwS; obtain ⟨d2, a1⟩ := HALL.out w hwS; go_simp⟩) hw ?_
        simp only [Act.put, List.setIfInBounds_toArray, List.set_cons_zero, List.set_cons_succ]
        refine wpAnyH_ready (rs := [8]) (by rw [hops]; kernel_rfl) (by simp) ?_
        refine AllReadyH.cons (o := { dst := some 25, op := Go.Op.buildSlice 25 1 #[(0, Go.Operand.tmp 24)], type := 25, pos := "flow.go:99", after := #[{ on := 7, ground := Go.Ground.data }], guard := none }) (by rw [hops]; kernel_rfl) (fun K hK => ?_) ?_
        · rw [if_pos (by rw [hops]; kernel_rfl)]
          go_simp
          have hal : Below w'.heap.size w' (w'.alloc (.cells #[.int .i64 f] 3)) := (Below.refl _ _).alloc (Nat.le_refl _) _
          exact hK.out _ _ (hw.trans (hal.mono hw.size)) (fun hwn => S0_1_2_3_4_5_6_7_8.out (w'.alloc (.cells #[.int .i64 f] 3)) w'.heap.size hwn (by go_simp) )
        exact AllReadyH.nil
      have hsz : ops.size = 11 := by rw [hops]; rfl
      refine wp_region_held_drew (S := fun w' => Below V.heap.size V w') (by kernel_rfl) (Below.drew (Below.refl _ _)) (fun hw0 => ?_)
      rw [hsz]
      exact S.out _ hw0
    · have hkn : k = N := by omega
      subst hkn
      have o1 : ¬ (k : Int) < (k : Int) := by omega
      have c0 := HL.out.h0
      have c1 := HL.out.h1
      have c2 := HL.out.h2
      have c3 := HL.out.h3
      clear hk hlt
      go_wp2_with (with_reducible refine wpList_load_row (o := ⟨some 30, _, _, _, _, _⟩) rfl 83 (.tmp 3) rfl (Z + 1) rfl 83 (ivs fl) (0, 0) _ HL.out.fr.at_ Try.underlying83 rfl HIS.out ?_)
      refine (HLC.out _ HL.out.below).mono ?_
      rintro en w1 ⟨rfl, hb1⟩
      have HL1 := Kp.mk (HL.out.on hb1)
      clear hb1 c0 c1 c2 c3 HL HLC
      go_wp2_with fail
      go_loop [32] (fun i => ∃ j : Nat, j ≤ 12 ∧ i = .int .i64 j ∧ Kp (zeroF (I ||| K) ol j = true)) (fun i => 12 - (intOf i).toNat)
      case atStart => exact ⟨0, Nat.zero_le _, rfl, ⟨rfl⟩⟩
      case round =>
        obtain ⟨j, hj, rfl, HZE⟩ := hrel
        by_cases hlt : j < 12
        · have o2 : (j : Int) < 12 := by omega
          have hix := HIX.out j w1 hlt
          have HHJ := Kp.mk (fun W => HH.out j W (by omega))
          obtain ⟨X, hX⟩ : ∃ X, ol.getD j 0 = X := ⟨_, rfl⟩
          obtain ⟨Bt, hBt⟩ : ∃ B, (I ||| K).testBit j = B := ⟨_, rfl⟩
          have HST : Kp (zeroF (I ||| K) ol (j + 1) = (zeroF (I ||| K) ol j && (decide (X = 0) || Bt))) := ⟨by rw [← hX, ← hBt]; rfl⟩
          rw [hX] at hix
          rw [hBt] at HHJ
          clear hX hBt
          have c2 := HL1.out.h2
          have c3 := HL1.out.h3
          have hor := HOR.out
          by_cases h0 : X = 0
          · subst h0
            have HZ2 : Kp (zeroF (I ||| K) ol (j + 1) = true) := ⟨by rw [HST.out, HZE.out]; rfl⟩
            clear HST
            go_wp2
            go_round
            case rel => exact ⟨j + 1, by omega, by go_num, HZ2⟩
            case measure => simp [intOf]; omega
          · have i1 : (X == (0 : Int)) = false := by simp [h0]
            have i2 : (X != (0 : Int)) = true := by simp [h0]
            have HX0 := Kp.mk (decide_eq_false h0)
            clear h0
            cases Bt with
            | true =>
              have HZ2 : Kp (zeroF (I ||| K) ol (j + 1) = true) := ⟨by rw [HST.out, HZE.out, HX0.out]; rfl⟩
              clear HST
              go_wp2_with fail
              refine (HHJ.out _).mono ?_
              rintro en w2 ⟨rfl, rfl⟩
              go_wp2
              go_round
              case rel => exact ⟨j + 1, by omega, by go_num, HZ2⟩
              case measure => simp [intOf]; omega
            | false =>
              have HZ2 : Kp (zeroF (I ||| K) ol 12 = false) := ⟨zeroF_no (k := j + 1) (by rw [HST.out, HZE.out, HX0.out]; rfl) (by omega)⟩
              clear HST
              go_wp2_with fail
              refine (HHJ.out _).mono ?_
              rintro en w2 ⟨rfl, rfl⟩
              go_wp2
              go_ret
              exact ⟨by rw [HZ2.out, Bool.and_false]; rfl, HL1.out.below⟩
        · have hj2 : j = 12 := by omega
          subst hj2
          go_wp2
          go_ret
          exact ⟨by rw [HZE.out, HCP.out]; rfl, HL1.out.below⟩
end Go.Proofs.Ythkamfjjfkpekaa.Pe
