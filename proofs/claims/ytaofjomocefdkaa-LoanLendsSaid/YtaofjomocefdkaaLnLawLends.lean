/-
  THE WALK of the law LoanLends.
-/
import Derived.Test.YtaofjomocefdkaaLnLend
import Derived.Test.YtaofjomocefdkaaLnSeen
import Derived.Test.YtaofjomocefdkaaLnChosen
import Derived.Test.YtaofjomocefdkaaLnFit
import Derived.Test.YtaofjomocefdkaaLnAwake
import Derived.Deep.DeepCutAuto
namespace Go.Proofs.Ytaofjomocefdkaa.Ln
open Go Go.RowKit Go.Sort
attribute [-go_sem] Builtin.append_

/-- Loans copied onto an empty row of the call's own, however many came in. -/
theorem OwnL.copyR {w : World} {base Z c0 : Nat} {l : List Loan} {g : Option Addr} {c : Nat} (h : OwnL w base (.slice (some ⟨Z, 0, none⟩) 0 c0) []) (hl : LS w (.slice g l.length c) l) (hm : l.length * 56 ≤ 140737488351232) (hb : base ≤ w.heap.size) :
    ∃ g' c' w', (Builtin.append_ #[22, 22] 22 #[.slice (some ⟨Z, 0, none⟩) 0 c0, .slice g l.length c]).run Try.prog w = .ok (.slice (some ⟨g', 0, none⟩) l.length c') w' ∧ OwnL w' base (.slice (some ⟨g', 0, none⟩) l.length c') l ∧ w.grownBy w' (some Z) := by
  obtain ⟨i0, hi, hz0, hz1, hz2⟩ := info_parts info_ln
  rcases Nat.eq_zero_or_pos l.length with h0 | h0
  · have hl0 := List.eq_nil_of_length_eq_zero h0
    subst hl0
    exact h.copy hl (by simp) hb
  · have hfl : ∃ b o, g = some ⟨b, o, none⟩ ∧ ∀ j u, (flatL l)[j]? = some u → w.cell? ⟨b, o + j, none⟩ = some u := by
      obtain ⟨g2, c2, e, hcc, hi2⟩ := hl
      simp only [Value.slice.injEq] at e
      obtain ⟨rfl, -, rfl⟩ := e
      obtain ⟨b, o, rfl, -, -⟩ := hi2 0 _ (List.getElem?_eq_getElem h0)
      exact ⟨b, o, rfl, flatL_ls ⟨_, _, rfl, hcc, hi2⟩⟩
    obtain ⟨b, o, rfl, hfl⟩ := hfl
    obtain ⟨v', w', hrun, hown, hg, hnil, hat⟩ := run_append_own_at (P := Try.prog) (w := w) base 22 22 26 i0 (.agg #[.string ⟨#[]⟩, .string ⟨#[]⟩, .int .i64 0, .int .i64 0, .int .i64 0]) 5 56 Try.underlying22 hi hz0 hz1 hz2 rfl (by decide)
      _ 0 [] h ⟨b, o, none⟩ l.length c (flatL l) (flatL_len l) (fun j u hu => by rw [Addr.add_lit]; exact hfl j u hu) (flatL_one _) (by unfold maxLen; omega) (by omega) hb
    rw [Nat.zero_add, List.nil_append] at hown
    rcases hown.2 with ⟨hv, hn⟩ | ⟨g2, cap, cur, rfl, hrest⟩
    · omega
    · exact ⟨g2, cap, w', hrun, ⟨hown.1, .inr ⟨g2, cap, cur, rfl, hrest⟩⟩, hg⟩
theorem OwnL.nextR {w : World} {base Y : Nat} {v : Value} {l : List Loan} {x : Loan} (h : OwnL w base v l) (hx : LAt w Y 0 x) (hn : l.length * 56 ≤ 140737488351232) (hb : base ≤ w.heap.size) :
    ∃ g c w', (Builtin.append_ #[22, 22] 22 #[v, .slice (some ⟨Y, 0, none⟩) 1 1]).run Try.prog w = .ok (.slice g (l.length + 1) c) w' ∧ OwnL w' base (.slice g (l.length + 1) c) (l ++ [x]) ∧ w.grownBy w' v.ownBlock := by
  obtain ⟨i0, hi, hz0, hz1, hz2⟩ := info_parts info_ln
  obtain ⟨v', w', hrun, hown, hg, -, hat⟩ := run_append_own_at (P := Try.prog) (w := w) base 22 22 26 i0 (.agg #[.string ⟨#[]⟩, .string ⟨#[]⟩, .int .i64 0, .int .i64 0, .int .i64 0]) 5 56 Try.underlying22 hi hz0 hz1 hz2 rfl (by decide)
    v l.length (flatL l) h ⟨Y, 0, none⟩ 1 1 (flatL [x]) rfl (newsL_one hx) (flatL_one _) (by unfold maxLen; omega) (by omega) hb
  have ho : OwnL w' base v' (l ++ [x]) := by
    unfold OwnL
    rw [List.length_append, flatL_append]
    exact hown
  obtain ⟨g, c, hv⟩ := ho.shape
  rw [List.length_append, List.length_singleton] at hv
  subst hv
  exact ⟨g, c, w', hrun, ho, hg⟩
theorem copy_oneR {w W : World} {base Z c0 : Nat} {l : List Loan} {g : Option Addr} {c : Nat} {x : Loan} (hb : Below base w W) (h : OwnL W base (.slice (some ⟨Z, 0, none⟩) 0 c0) []) (hl : LS W (.slice g l.length c) l) (hm : l.length * 56 ≤ 140737488351232) (hbz : base ≤ W.heap.size) :
    ∃ g' c' W', (Builtin.append_ #[22, 22] 22 #[.slice (some ⟨Z, 0, none⟩) 0 c0, .slice g l.length c]).run Try.prog W = .ok (.slice (some ⟨g', 0, none⟩) l.length c') W' ∧ Below base w W' ∧ (∀ j, j < W.heap.size → j ≠ Z → W'.heap[j]? = W.heap[j]?) ∧ W.heap.size ≤ W'.heap.size ∧
      (∀ (Y : Nat) (W2 : World), (W2 = W' ∨ ∃ o, W2 = W'.alloc o) → LAt W2 Y 0 x → ∃ g2 c2 W3, (Builtin.append_ #[22, 22] 22 #[.slice (some ⟨g', 0, none⟩) l.length c', .slice (some ⟨Y, 0, none⟩) 1 1]).run Try.prog W2 = .ok (.slice g2 (l.length + 1) c2) W3 ∧ OwnL W3 base (.slice g2 (l.length + 1) c2) (l ++ [x]) ∧ Below base w W3) := by
  obtain ⟨g', c', W', hrun, hown, hg⟩ := h.copyR hl hm hbz
  have hZ : base ≤ Z := (h.block (j := Z) rfl).1
  have hb' : Below base w W' := hb.grown hg hbz (fun j hj => by cases hj; exact hZ)
  refine ⟨g', c', W', hrun, hb', fun j hj hne => hg.block j hj (fun e => hne (by cases e; rfl)), hg.size, fun Y W2 hW2 hx => ?_⟩
  have hb2 : Below W'.heap.size W' W2 := by
    rcases hW2 with rfl | ⟨o, rfl⟩
    · exact Below.refl _ _
    · exact (Below.refl _ _).alloc (Nat.le_refl _) _
  have hz' : base ≤ W'.heap.size := Nat.le_trans hbz hg.size
  have ho := hown.on hb2
  obtain ⟨g2, c2, W3, hr, ho3, hg3⟩ := ho.nextR hx hm (Nat.le_trans hz' hb2.size)
  exact ⟨g2, c2, W3, hr, ho3, (hb'.trans (hb2.mono hz')).grown hg3 (Nat.le_trans hz' hb2.size) (fun j hj => (ho.block hj).1)⟩
theorem lends_len {l : List Loan} {x : Loan} (h : (!fitB (l ++ [x]) && !fitB l) = false) : l.length ≤ 203 := by
  rw [Bool.and_eq_false_iff] at h
  rcases h with h | h
  · have := fit_len (show fitB (l ++ [x]) = true by simpa using h)
    rw [List.length_append, List.length_singleton] at this
    omega
  · exact fit_len (by simpa using h)
theorem lendL_len (l : List Loan) (x : Loan) : (lendL l x).length ≤ l.length + 1 := by
  unfold lendL
  split
  · rw [List.length_append, List.length_singleton]; exact Nat.le_refl _
  · exact Nat.zero_le _
set_option maxRecDepth 100000 in
set_option maxHeartbeats 4000000 in
theorem lawLends_any (v : Value) (l : List Loan) (x : Loan) (w : World) (hv : LS w v l) (hm : l.length * 56 ≤ 140737488351232) (hx : x.wf) :
    Calls Try.prog 5 #[v, .agg #[.string x.p, .string x.t, .int .i64 x.out, .int .i64 x.due, .int .i64 x.back]] w fun e w' => e = .returned (.bool true) ∧ Below w.heap.size w w' := by
  have HAW : Kp (∀ W, Calls Try.prog 14 #[] W fun e w' => e = .returned (.bool true) ∧ Below W.heap.size W w') := ⟨fun W => awake_any W⟩
  have HF1 : Kp (∀ W u, LS W u (l ++ [x]) → Calls Try.prog 13 #[u] W fun e w' => e = .returned (.bool (fitB (l ++ [x]))) ∧ Below W.heap.size W w') := ⟨fun W u hu => fit_any u (l ++ [x]) W hu (by rw [List.length_append, List.length_singleton]; omega)⟩
  have HF2 : Kp (∀ W, Below w.heap.size w W → Calls Try.prog 13 #[v] W fun e w' => e = .returned (.bool (fitB l)) ∧ Below W.heap.size W w') := ⟨fun W hW => fit_any v l W (hv.below hW) (by omega)⟩
  have hwfs : ∀ z ∈ l ++ [x], z.wf := fun z hz => by
    rcases List.mem_append.1 hz with hz | hz
    · exact hv.wfs z hz
    · rw [List.mem_singleton.1 hz]; exact hx
  have HLEN : Kp ((!fitB (l ++ [x]) && !fitB l) = false → l.length ≤ 203) := ⟨lends_len⟩
  have HLV := Kp.mk hv
  have HL1 : Kp (l.length ≤ 203 → ∀ W, Below w.heap.size w W → Calls Try.prog 30 #[v, .agg #[.string x.p, .string x.t, .int .i64 x.out, .int .i64 x.due, .int .i64 x.back]] W (LsPost W (lendL l x) (lendE l x))) := ⟨fun h W hW => Lend_any v l x W (hv.below hW) (by omega) hx⟩
  have HL2 : Kp (l.length ≤ 203 → ∀ W, Below w.heap.size w W → Calls Try.prog 31 #[v, .agg #[.string x.p, .string x.t, .int .i64 x.out, .int .i64 x.due, .int .i64 x.back]] W (LsPost W (lendL l x) (lendE l x))) := ⟨fun h W hW => rLend_any v l x W (hv.below hW) (by omega) hx⟩
  have HSM : Kp (l.length ≤ 203 → ∀ u1 u2 W, LS W u1 (lendL l x) → LS W u2 (lendL l x) → Calls Try.prog 32 #[u1, u2] W fun e w' => e = .returned (.bool true) ∧ Below W.heap.size W w') := ⟨fun h u1 u2 W h1 h2 => same_loans u1 u2 _ W (by have := lendL_len l x; omega) h1 h2⟩
  have HWH : Kp (l.length ≤ 203 → lendE l x = 0 → ∀ u W, LS W u (lendL l x) → Calls Try.prog 23 #[u, .string x.p, .int .i64 x.out] W fun e w' => e = .returned (.tuple #[.string x.t, .int .i64 0]) ∧ Below W.heap.size W w') := ⟨fun h h0 u W hu => by
    obtain ⟨⟨a1, a2⟩, -, -⟩ := lend_where h0
    have e : lendL l x = l ++ [x] := by unfold lendL; rw [if_pos h0]
    rw [e] at hu
    have := WhereV_any u (l ++ [x]) x.p x.out W hu (by rw [List.length_append, List.length_singleton]; omega) hx.1
    rwa [a1, a2] at this⟩
  have HWE : Kp (l.length ≤ 203 → lendE l x = 0 → ∀ u W, LS W u (lendL l x) → Calls Try.prog 23 #[u, .string x.p, .int .i64 100000] W fun e w' => e = .returned (.tuple #[.string x.t, .int .i64 0]) ∧ Below W.heap.size W w') := ⟨fun h h0 u W hu => by
    obtain ⟨-, a1, a2⟩ := lend_where h0
    have e : lendL l x = l ++ [x] := by unfold lendL; rw [if_pos h0]
    rw [e] at hu
    have := WhereV_any u (l ++ [x]) x.p 100000 W hu (by rw [List.length_append, List.length_singleton]; omega) hx.1
    rwa [a1, a2] at this⟩
  have HVA : Kp (l.length ≤ 203 → lendE l x = 0 → ∀ u W, LS W u (lendL l x) → Calls Try.prog 21 #[u] W fun e w' => e = .returned (.bool true) ∧ Below W.heap.size W w') := ⟨fun h h0 u W hu => by
    have e : lendL l x = l ++ [x] := by unfold lendL; rw [if_pos h0]
    rw [e] at hu
    have := Valid_any u (l ++ [x]) W hu (by rw [List.length_append, List.length_singleton]; omega)
    rwa [lend_valid h0] at this⟩
  obtain ⟨F1, hF1⟩ : ∃ F, fitB (l ++ [x]) = F := ⟨_, rfl⟩
  obtain ⟨F2, hF2⟩ : ∃ F, fitB l = F := ⟨_, rfl⟩
  rw [hF1] at HF1 HLEN
  rw [hF2] at HF2 HLEN
  obtain ⟨LE, hLE⟩ : ∃ E, lendE l x = E := ⟨_, rfl⟩
  obtain ⟨LL, hLL⟩ : ∃ L, lendL l x = L := ⟨_, rfl⟩
  rw [hLE, hLL] at HL1 HL2
  rw [hLE, hLL] at HWH HWE HVA
  rw [hLL] at HSM
  obtain ⟨g, c, rfl⟩ := hv.shape
  obtain ⟨xp, xt, xo, xd, xb⟩ := x
  simp only at HL1 HL2 HWH HWE
  obtain ⟨W1, hW1⟩ : ∃ W, w.alloc (.cells #[.string xp, .string xt, .int .i64 xo, .int .i64 xd, .int .i64 xb] 26) = W := ⟨_, rfl⟩
  have hb1 : Below w.heap.size w W1 := by rw [← hW1]; exact by repeat (first | exact Below.refl _ _ | refine Below.alloc ?_ (by simp <;> omega) _ | refine bDrewN ?_ _ | refine Below.drew ?_)
  have hat : LAt W1 w.heap.size 0 ⟨xp, xt, xo, xd, xb⟩ := by rw [← hW1]; exact lat_new w ⟨xp, xt, xo, xd, xb⟩ _
  have HB1 := Kp.mk hb1
  have HAT := Kp.mk hat
  have hyl : w.heap.size < W1.heap.size := hat.lt
  have hDl : ∀ V : World, Below W1.heap.size W1 V → LS V (.slice g l.length c) l := fun V hV => (HLV.out.below HB1.out).below hV
  obtain ⟨Y, hY⟩ : ∃ Y, w.heap.size = Y := ⟨_, rfl⟩
  have HY := Kp.mk hY
  rw [hY] at hyl hat
  have HA1 := Kp.mk hat
  obtain ⟨A0, hA0⟩ : ∃ A, (W1.alloc (.cells #[] 26)).drew = A := ⟨_, rfl⟩
  have bA : Below W1.heap.size W1 A0 := by rw [← hA0]; exact Below.drew ((Below.refl _ _).alloc (Nat.le_refl _) _)
  have zA : A0.heap.size = W1.heap.size + 1 := by rw [← hA0]; simp
  have oA : OwnL A0 W1.heap.size (.slice (some ⟨W1.heap.size, 0, none⟩) 0 0) [] := by rw [← hA0]; exact (OwnL.fresh W1 W1.heap.size (Nat.le_refl _)).on (Below.drew (Below.refl _ _))
  obtain ⟨ga, ca, A1, ra, ba1, sa1, za1, na⟩ := copy_oneR (w := W1) (x := ⟨xp, xt, xo, xd, xb⟩) bA oA (hDl A0 bA) hm (by omega)
  have hA1 : LAt A1 Y 0 ⟨xp, xt, xo, xd, xb⟩ := (HA1.out.on bA).same (sa1 Y (by omega) (by omega))
  obtain ⟨g2, c2a, A3, ra2, oa3, ba3⟩ := na A1.heap.size (A1.alloc (.cells #[.string xp, .string xt, .int .i64 xo, .int .i64 xd, .int .i64 xb] 26)) (.inr ⟨_, rfl⟩) (lat_new A1 ⟨xp, xt, xo, xd, xb⟩ _)
  obtain ⟨a0, a1, a2, a3, a4⟩ := hA1
  obtain ⟨B0, hB0⟩ : ∃ B, ((W1.alloc (.cells #[] 26)).alloc (.cells #[.string xp, .string xt, .int .i64 xo, .int .i64 xd, .int .i64 xb] 26)).drew = B := ⟨_, rfl⟩
  have bB0 : Below (W1.alloc (.cells #[] 26)).heap.size (W1.alloc (.cells #[] 26)) B0 := by rw [← hB0]; exact Below.drew ((Below.refl _ _).alloc (Nat.le_refl _) _)
  have bB : Below W1.heap.size W1 B0 := by rw [← hB0]; exact Below.drew (((Below.refl _ _).alloc (Nat.le_refl _) _).alloc (by simp) _)
  have zB : B0.heap.size = W1.heap.size + 2 := by rw [← hB0]; simp
  have xB : LAt B0 (W1.heap.size + 1) 0 ⟨xp, xt, xo, xd, xb⟩ := by
    rw [← hB0]
    have := (lat_new (W1.alloc (.cells #[] 26)) ⟨xp, xt, xo, xd, xb⟩ 26).on (Below.drew (Below.refl _ _))
    rwa [World.size_alloc] at this
  have oB : OwnL B0 W1.heap.size (.slice (some ⟨W1.heap.size, 0, none⟩) 0 0) [] := (OwnL.fresh W1 W1.heap.size (Nat.le_refl _)).on bB0
  obtain ⟨gb, cb, B1, rb, bb1, sb1, zb1, nb⟩ := copy_oneR (w := W1) (x := ⟨xp, xt, xo, xd, xb⟩) bB oB (hDl B0 bB) hm (by omega)
  obtain ⟨g3, c3b, B3, rb2, ob3, bb3⟩ := nb (W1.heap.size + 1) B1 (.inl rfl) (xB.same (sb1 _ (by omega) (by omega)))
  obtain ⟨C0, hC0⟩ : ∃ C, ((W1.alloc (.cells #[.string xp, .string xt, .int .i64 xo, .int .i64 xd, .int .i64 xb] 26)).alloc (.cells #[] 26)).drew = C := ⟨_, rfl⟩
  have bC0 : Below (W1.alloc (.cells #[.string xp, .string xt, .int .i64 xo, .int .i64 xd, .int .i64 xb] 26)).heap.size (W1.alloc (.cells #[.string xp, .string xt, .int .i64 xo, .int .i64 xd, .int .i64 xb] 26)) C0 := by rw [← hC0]; exact Below.drew ((Below.refl _ _).alloc (Nat.le_refl _) _)
  have bC : Below W1.heap.size W1 C0 := by rw [← hC0]; exact Below.drew (((Below.refl _ _).alloc (Nat.le_refl _) _).alloc (by simp) _)
  have zC : C0.heap.size = W1.heap.size + 2 := by rw [← hC0]; simp
  have oC : OwnL C0 W1.heap.size (.slice (some ⟨W1.heap.size + 1, 0, none⟩) 0 0) [] := by
    rw [← hC0]
    have := (OwnL.fresh (W1.alloc (.cells #[.string xp, .string xt, .int .i64 xo, .int .i64 xd, .int .i64 xb] 26)) W1.heap.size (by simp)).on (Below.drew (Below.refl _ _))
    rwa [World.size_alloc] at this
  obtain ⟨gc, cc, C1, rc, bc1, sc1, zc1, nc⟩ := copy_oneR (w := W1) (x := ⟨xp, xt, xo, xd, xb⟩) bC oC (hDl C0 bC) hm (by omega)
  obtain ⟨g4, c4c, C3, rc2, oc3, bc3⟩ := nc W1.heap.size C1 (.inl rfl) (((lat_new W1 ⟨xp, xt, xo, xd, xb⟩ 26).on bC0).same (sc1 _ (by omega) (by omega)))
  have HFA := Kp.mk (And.intro (oa3.ls hwfs) ba3)
  have HFB := Kp.mk (And.intro (ob3.ls hwfs) bb3)
  have HFC := Kp.mk (And.intro (oc3.ls hwfs) bc3)
  have HBW : Kp (∀ V, Below W1.heap.size W1 V → Below w.heap.size w V) := ⟨fun V hV => HB1.out.trans (hV.mono HB1.out.size)⟩
  obtain ⟨N, hN⟩ : ∃ N, l.length = N := ⟨_, rfl⟩
  rw [hN] at ra ra2 rb rb2 rc rc2 HFA HFB HFC HF2 HLEN HL1 HL2 HSM HWH HWE HVA ⊢
  rw [← hA0] at ra
  rw [← hB0] at rb
  rw [← hC0] at rc
  obtain ⟨d0, d1, d2, d3, d4⟩ := hat
  simp only [Nat.zero_add] at d0 d1 d2 d3 d4 a0 a1 a2 a3 a4
  clear hA0 bA zA oA ba1 sa1 za1 na oa3 ba3 hB0 bB0 bB zB xB oB bb1 sb1 zb1 nb ob3 bb3 hC0 bC0 bC oC zC bc1 sc1 zc1 nc oc3 bc3 hwfs hDl hm hx hF1 hF2 hLE hLL hN hv hb1
  go_enter Try.func5, Try.ntmps5
  go_wp2_with fail
  try rw [hW1]
  try rw [hY]
  clear hW1 hY

  go_upto_region 1 with fail
  go_cut [25] (fun s25 wx => s25 = .bool (!F1 && !F2) ∧ Kp (Below W1.heap.size W1 wx))
  case first =>
    cases F1
    case false =>
      go_region_with (first | (go_at_call 13; refine (HF2.out _ (HBW.out _ HBX.out)).mono ?_; rintro en w6 ⟨rfl, hb6⟩; have HBY := Kp.mk (HBX.out.trans (hb6.mono HBX.out.size)); clear hb6) | (go_at_call 13; refine (HF1.out _ _ (by first | exact HFA.out.1 | exact HFB.out.1 | exact HFC.out.1)).mono ?_; rintro en w5 ⟨rfl, hb5⟩; (first | have HBX := Kp.mk (HFA.out.2.trans (hb5.mono HFA.out.2.size)) | have HBX := Kp.mk (HFB.out.2.trans (hb5.mono HFB.out.2.size)) | have HBX := Kp.mk (HFC.out.2.trans (hb5.mono HFC.out.2.size))); clear hb5))
      all_goals
        go_wp2_with fail
        go_meet
        exact ⟨rfl, HBY⟩
    case true =>
      go_region_with (go_at_call 13; refine (HF1.out _ _ (by first | exact HFA.out.1 | exact HFB.out.1 | exact HFC.out.1)).mono ?_; rintro en w5 ⟨rfl, hb5⟩; (first | have HBX := Kp.mk (HFA.out.2.trans (hb5.mono HFA.out.2.size)) | have HBX := Kp.mk (HFB.out.2.trans (hb5.mono HFB.out.2.size)) | have HBX := Kp.mk (HFC.out.2.trans (hb5.mono HFC.out.2.size))); clear hb5; go_wp2_with fail; refine wpAny_take (i := 7) (v := ?_) rfl (by kernel_rfl) (by kernel_rfl) (by kernel_rfl) (fun _ _ _ h => h) (Or.inl ⟨by rfl, by intro w; go_simp; first | done | with_reducible rfl⟩) ?_; refine wpAny_take (i := 8) (v := ?_) rfl (by kernel_rfl) (by kernel_rfl) (by kernel_rfl) (fun _ _ _ h => h) (Or.inl ⟨by rfl, by intro w; go_simp; first | done | with_reducible rfl⟩) ?_; refine wpAny_take (i := 9) (v := undef) rfl (by kernel_rfl) (by kernel_rfl) (by kernel_rfl) (fun _ _ _ h => h) (Or.inr ⟨by rfl, rfl⟩) ?_; refine wpAny_take (i := 10) (v := undef) rfl (by kernel_rfl) (by kernel_rfl) (by kernel_rfl) (fun _ _ _ h => h) (Or.inr ⟨by rfl, rfl⟩) ?_; refine wpAny_take (i := 11) (v := undef) rfl (by kernel_rfl) (by kernel_rfl) (by kernel_rfl) (fun _ _ _ h => h) (Or.inr ⟨by rfl, rfl⟩) ?_)
      all_goals
        go_wp2_with fail
        go_meet
        exact ⟨rfl, HBX⟩
  case rest =>
    obtain ⟨rfl, HQ0⟩ := hcut
    clear HF1 HF2
    obtain ⟨G, hG⟩ : ∃ G, (!F1 && !F2) = G := ⟨_, rfl⟩
    rw [hG] at HLEN ⊢
    clear hG
    cases G
    case true =>
      go_wp2_with fail
      refine (HAW.out _).mono ?_
      rintro en w1 ⟨rfl, hb⟩
      have HB1 := Kp.mk ((HBW.out _ HQ0.out).trans (hb.mono (HBW.out _ HQ0.out).size))
      clear hb
      go_wp2
      go_ret
      exact ⟨rfl, HB1.out⟩
    case false =>
      have HN := Kp.mk (HLEN.out rfl)
      replace HL1 := Kp.mk (HL1.out HN.out)
      replace HL2 := Kp.mk (HL2.out HN.out)
      replace HSM := Kp.mk (HSM.out HN.out)
      replace HWH := Kp.mk (HWH.out HN.out)
      replace HWE := Kp.mk (HWE.out HN.out)
      replace HVA := Kp.mk (HVA.out HN.out)
      have k1 : (LE == LE) = true := by simp
      have k2 : (LE != LE) = false := by simp
      obtain ⟨c0_0, c0_1, c0_2, c0_3, c0_4⟩ := HA1.out.on HQ0.out
      try simp only [Nat.zero_add] at c0_0 c0_1 c0_2 c0_3 c0_4
      by_cases h0 : LE = 0
      · subst h0
        replace HWH := Kp.mk (HWH.out rfl)
        replace HWE := Kp.mk (HWE.out rfl)
        replace HVA := Kp.mk (HVA.out rfl)
        go_wp2_with fail
        refine (HL1.out _ (HBW.out _ HQ0.out)).mono ?_
        rintro en w1 ⟨u1, rfl, hu, hb⟩
        have HQ1 := Kp.mk (HQ0.out.trans (hb.mono HQ0.out.size))
        obtain ⟨g1, c1, rfl⟩ := hu.shape
        have HU1_1 := Kp.mk hu
        clear hu hb
        clear c0_0 c0_1 c0_2 c0_3 c0_4
        obtain ⟨c1_0, c1_1, c1_2, c1_3, c1_4⟩ := HA1.out.on HQ1.out
        try simp only [Nat.zero_add] at c1_0 c1_1 c1_2 c1_3 c1_4
        go_wp2_with fail
        refine (HL2.out _ (HBW.out _ HQ1.out)).mono ?_
        rintro en w2 ⟨u2, rfl, hu, hb⟩
        have HQ2 := Kp.mk (HQ1.out.trans (hb.mono HQ1.out.size))
        have HU1_2 : Kp (LS w2 (.slice g1 LL.length c1) LL) := ⟨HU1_1.out.below hb⟩
        obtain ⟨g2, c2, rfl⟩ := hu.shape
        have HU2_2 := Kp.mk hu
        clear hu hb
        clear c1_0 c1_1 c1_2 c1_3 c1_4
        obtain ⟨c2_0, c2_1, c2_2, c2_3, c2_4⟩ := HA1.out.on HQ2.out
        try simp only [Nat.zero_add] at c2_0 c2_1 c2_2 c2_3 c2_4
        go_wp2_with fail
        refine (HSM.out _ _ _ HU1_2.out HU2_2.out).mono ?_
        rintro en w3 ⟨rfl, hb⟩
        have HQ3 := Kp.mk (HQ2.out.trans (hb.mono HQ2.out.size))
        have HU1_3 : Kp (LS w3 (.slice g1 LL.length c1) LL) := ⟨HU1_2.out.below hb⟩
        clear hb
        clear c2_0 c2_1 c2_2 c2_3 c2_4
        obtain ⟨c3_0, c3_1, c3_2, c3_3, c3_4⟩ := HA1.out.on HQ3.out
        try simp only [Nat.zero_add] at c3_0 c3_1 c3_2 c3_3 c3_4
        go_wp2_with fail
        refine (HWH.out _ _ HU1_3.out).mono ?_
        rintro en w4 ⟨rfl, hb⟩
        have HQ4 := Kp.mk (HQ3.out.trans (hb.mono HQ3.out.size))
        have HU1_4 : Kp (LS w4 (.slice g1 LL.length c1) LL) := ⟨HU1_3.out.below hb⟩
        clear hb
        clear c3_0 c3_1 c3_2 c3_3 c3_4
        obtain ⟨c4_0, c4_1, c4_2, c4_3, c4_4⟩ := HA1.out.on HQ4.out
        try simp only [Nat.zero_add] at c4_0 c4_1 c4_2 c4_3 c4_4
        go_wp2_with fail
        refine (HWE.out _ _ HU1_4.out).mono ?_
        rintro en w5 ⟨rfl, hb⟩
        have HQ5 := Kp.mk (HQ4.out.trans (hb.mono HQ4.out.size))
        have HU1_5 : Kp (LS w5 (.slice g1 LL.length c1) LL) := ⟨HU1_4.out.below hb⟩
        clear hb
        clear c4_0 c4_1 c4_2 c4_3 c4_4
        obtain ⟨c5_0, c5_1, c5_2, c5_3, c5_4⟩ := HA1.out.on HQ5.out
        try simp only [Nat.zero_add] at c5_0 c5_1 c5_2 c5_3 c5_4
        go_wp2_with fail
        refine (HVA.out _ _ HU1_5.out).mono ?_
        rintro en w6 ⟨rfl, hb⟩
        have HQ6 := Kp.mk (HQ5.out.trans (hb.mono HQ5.out.size))
        clear hb
        clear c5_0 c5_1 c5_2 c5_3 c5_4
        obtain ⟨c6_0, c6_1, c6_2, c6_3, c6_4⟩ := HA1.out.on HQ6.out
        try simp only [Nat.zero_add] at c6_0 c6_1 c6_2 c6_3 c6_4
        go_wp2_with fail
        refine (HAW.out _).mono ?_
        rintro en w7 ⟨rfl, hb⟩
        have HQ7 := Kp.mk (HQ6.out.trans (hb.mono HQ6.out.size))
        clear hb
        have HB := Kp.mk (HBW.out _ HQ7.out)
        go_wp2
        go_ret
        exact ⟨rfl, HB.out⟩
      · have j1 : (LE == (0 : Int)) = false := by simp [h0]
        have j2 : (LE != (0 : Int)) = true := by simp [h0]
        clear HWH HWE HVA h0
        go_wp2_with fail
        refine (HL1.out _ (HBW.out _ HQ0.out)).mono ?_
        rintro en w1 ⟨u1, rfl, hu, hb⟩
        have HQ1 := Kp.mk (HQ0.out.trans (hb.mono HQ0.out.size))
        obtain ⟨g1, c1, rfl⟩ := hu.shape
        have HU1_1 := Kp.mk hu
        clear hu hb
        clear c0_0 c0_1 c0_2 c0_3 c0_4
        obtain ⟨c1_0, c1_1, c1_2, c1_3, c1_4⟩ := HA1.out.on HQ1.out
        try simp only [Nat.zero_add] at c1_0 c1_1 c1_2 c1_3 c1_4
        go_wp2_with fail
        refine (HL2.out _ (HBW.out _ HQ1.out)).mono ?_
        rintro en w2 ⟨u2, rfl, hu, hb⟩
        have HQ2 := Kp.mk (HQ1.out.trans (hb.mono HQ1.out.size))
        have HU1_2 : Kp (LS w2 (.slice g1 LL.length c1) LL) := ⟨HU1_1.out.below hb⟩
        obtain ⟨g2, c2, rfl⟩ := hu.shape
        have HU2_2 := Kp.mk hu
        clear hu hb
        clear c1_0 c1_1 c1_2 c1_3 c1_4
        obtain ⟨c2_0, c2_1, c2_2, c2_3, c2_4⟩ := HA1.out.on HQ2.out
        try simp only [Nat.zero_add] at c2_0 c2_1 c2_2 c2_3 c2_4
        go_wp2_with fail
        refine (HSM.out _ _ _ HU1_2.out HU2_2.out).mono ?_
        rintro en w3 ⟨rfl, hb⟩
        have HQ3 := Kp.mk (HQ2.out.trans (hb.mono HQ2.out.size))
        have HU1_3 : Kp (LS w3 (.slice g1 LL.length c1) LL) := ⟨HU1_2.out.below hb⟩
        clear hb
        clear c2_0 c2_1 c2_2 c2_3 c2_4
        obtain ⟨c3_0, c3_1, c3_2, c3_3, c3_4⟩ := HA1.out.on HQ3.out
        try simp only [Nat.zero_add] at c3_0 c3_1 c3_2 c3_3 c3_4
        go_wp2_with fail
        refine (HAW.out _).mono ?_
        rintro en w4 ⟨rfl, hb⟩
        have HQ4 := Kp.mk (HQ3.out.trans (hb.mono HQ3.out.size))
        clear hb
        have HB := Kp.mk (HBW.out _ HQ4.out)
        go_wp2
        go_ret
        exact ⟨rfl, HB.out⟩
end Go.Proofs.Ytaofjomocefdkaa.Ln
