/-
  WALKS (layer 9, loan): the loans of a piece, or to a borrower, collected.
-/
import Derived.Test.YtaofjomocefdkaaLnOwn
namespace Go.Proofs.Ytaofjomocefdkaa.Ln
open Go Go.RowKit Go.Sort
attribute [local go_sem] Oper.semAt_some

def askE (l : List Loan) (s : ByteArray) : Int := chkE (validL l) (nameB s) true
def askL (q : Loan → Bool) (l : List Loan) (s : ByteArray) : List Loan := if askE l s = 0 then l.filter q else []
/-- Loans and an error: what Of and To answer. -/
def LsPost (w : World) (L : List Loan) (E : Int) (e : Ending) (w' : World) : Prop := ∃ u, e = .returned (.tuple #[u, .int .i64 E]) ∧ LS w' u L ∧ Below w.heap.size w w'
theorem named_no (v : Value) (l : List Loan) (s : ByteArray) (f : Nat) (w : World) (hv : LS w v l) (hm : l.length ≤ 4611686018427387904) (hs : s.size ≤ maxLen) (hE0 : askE l s ≠ 0) :
    Calls Try.prog 85 #[v, .func (.func f) #[] #[], .string s] w fun e w' => e = .returned (.tuple #[.slice none 0 0, .int .i64 (askE l s)]) ∧ Below w.heap.size w w' := by
  have HN : Kp (∀ W, Calls Try.prog 19 #[.string s] W (NamePost s W)) := ⟨fun W => Name_any s W hs⟩
  have HC : Kp (∀ W, Below w.heap.size w W → Calls Try.prog 61 #[v, .bool (nameB s), .bool true] W fun e w' => e = .returned (.int .i64 (askE l s)) ∧ Below w.heap.size w w') := ⟨fun W hW => (checked_any v l (nameB s) true W (hv.below hW) hm).mono fun e w' ⟨h1, h2⟩ => ⟨h1, hW.trans (h2.mono hW.size)⟩⟩
  obtain ⟨E, hE⟩ : ∃ E, askE l s = E := ⟨_, rfl⟩
  rw [hE] at HC hE0 ⊢
  have j1 : (E == (0 : Int)) = false := by simp [hE0]
  have j2 : (E != (0 : Int)) = true := by simp [hE0]
  have j3 : decide (E = 0) = false := by simp [hE0]
  obtain ⟨g, c, rfl⟩ := hv.shape
  obtain ⟨N, hN⟩ : ∃ N, l.length = N := ⟨_, rfl⟩
  rw [hN] at HC ⊢
  clear hv hm hN hE hs
  go_enter Try.func85, Try.ntmps85
  go_wp2_with fail
  refine (HN.out _).mono ?_
  rintro en w1 ⟨rfl, hb1⟩
  have HB1 := Kp.mk hb1
  clear hb1
  go_wp2_with fail
  refine (HC.out _ HB1.out).mono ?_
  rintro en w3 ⟨rfl, hb3⟩
  have HB3 := Kp.mk hb3
  clear hb3
  go_wp2
  go_ret2
  exact ⟨rfl, HB3.out⟩
theorem nm_start {w3 W0 : World} {Z : Nat} {g : Option Addr} {n c f : Nat} {s : ByteArray} (hZ : w3.heap.size = Z)
    (h : (((w3.alloc (.cells #[.slice none 0 0] 22)).alloc (.cells #[.slice g n c] 22)).alloc (.cells #[.func (.func f) #[] #[]] 71)).alloc (.cells #[.string s] 9) = W0) :
    Below w3.heap.size w3 W0 ∧ W0.heap.size = Z + 4 ∧ W0.cell? ⟨Z, 0, none⟩ = some (.slice none 0 0) ∧ (∀ j, W0.frozen? ⟨Z, j, none⟩ = false) ∧ W0.cell? ⟨Z + 1, 0, none⟩ = some (.slice g n c) ∧ W0.cell? ⟨Z + 2, 0, none⟩ = some (.func (.func f) #[] #[]) ∧ W0.cell? ⟨Z + 3, 0, none⟩ = some (.string s) := by
  subst h
  subst hZ
  exact ⟨by repeat (first | exact Below.refl _ _ | refine Below.alloc ?_ (by simp <;> omega) _ | refine bDrewN ?_ _ | refine Below.drew ?_), by simp, by go_simp, fun j => by go_simp, by go_simp, by go_simp, by go_simp⟩
attribute [-go_sem] Builtin.append_
set_option maxRecDepth 100000 in
set_option maxHeartbeats 2000000 in
theorem named_ok (v : Value) (l : List Loan) (s : ByteArray) (f : Nat) (q : Loan → Bool) (w : World) (hv : LS w v l) (hs : s.size ≤ maxLen) (hE0 : askE l s = 0)
    (hEf : ∀ args W, (callFunc f args).run Try.prog W = .ok (.enter f args) W)
    (hQ : Kp (∀ W x, x ∈ l → Calls Try.prog f #[.agg #[.string x.p, .string x.t, .int .i64 x.out, .int .i64 x.due, .int .i64 x.back], .string s] W fun e w' => e = .returned (.bool (q x)) ∧ Below W.heap.size W w')) :
    Calls Try.prog 85 #[v, .func (.func f) #[] #[], .string s] w (LsPost w (l.filter q) 0) := by
  obtain ⟨hva, hnm, -⟩ := chkE_zero hE0
  have hlen := validL_len hva
  have HN : Kp (∀ W, Calls Try.prog 19 #[.string s] W fun e w' => e = .returned (.bool true) ∧ Below W.heap.size W w') := ⟨fun W => hnm ▸ Name_any s W hs⟩
  have HC : Kp (∀ W, Below w.heap.size w W → Calls Try.prog 61 #[v, .bool true, .bool true] W fun e w' => e = .returned (.int .i64 0) ∧ Below w.heap.size w w') := ⟨fun W hW => (checked_any v l true true W (hv.below hW) (by omega)).mono fun e w' ⟨h1, h2⟩ => ⟨by rw [h1, hva]; rfl, hW.trans (h2.mono hW.size)⟩⟩
  have HLV := Kp.mk hv
  have HWF := Kp.mk hv.wfs
  obtain ⟨g, c, rfl⟩ := hv.shape
  have HBK : Kp (∀ k o, 0 < l.length → g = some ⟨k, o, none⟩ → k < w.heap.size) := ⟨fun k o h0 hg => hv.blk h0 hg⟩
  obtain ⟨N, hN⟩ : ∃ N, l.length = N := ⟨_, rfl⟩
  have HN2 := Kp.mk hN
  have HLN : Kp (N ≤ 200) := ⟨hN ▸ hlen⟩
  rw [hN] at HC ⊢
  clear hv hs hE0 hva hnm hlen hN
  refine (callsIn_wide (n := 7)).1 ?_
  refine callsIn_of_wp_marks Try.func85 rfl trivial ?_ rfl
  simp only [Try.ntmps85, List.size_toArray, List.length_cons, List.length_nil, Nat.reduceAdd, Nat.reduceSub, Array.replicate_succ, Array.replicate_zero, List.push_toArray, List.append_toArray, List.nil_append, List.cons_append]
  gi_wp2_with fail
  refine ⟨trivial, (callsIn_wide.2 (HN.out _)).mono ?_⟩
  rintro en w1 ⟨rfl, hb1⟩
  have HB1 := Kp.mk hb1
  clear hb1
  gi_wp2_with fail
  refine ⟨trivial, (callsIn_wide.2 (HC.out _ HB1.out)).mono ?_⟩
  rintro en w3 ⟨rfl, hb3⟩
  have HB3 := Kp.mk hb3
  clear hb3
  gi_wp2_with fail
  refine ⟨trivial, (callsIn_wide.2 (thoseS_any _ _ _ _ _ _)).mono ?_⟩
  rintro en W0 ⟨rfl, hW0⟩
  obtain ⟨Z, hZ⟩ : ∃ Z, w3.heap.size = Z := ⟨_, rfl⟩
  obtain ⟨hb0, z0, q0, q1, q2, q3, q4⟩ := nm_start hZ hW0
  have HS0 : Kp (W0.heap.size = Z + 4) := ⟨z0⟩
  have HZW : Kp (w.heap.size ≤ Z) := ⟨hZ ▸ HB3.out.size⟩
  have hb0w : Below w.heap.size w W0 := HB3.out.trans (hb0.mono HB3.out.size)
  have HI0 : Kp (CIL w Z (Z + 6) [] W0) := ⟨hb0w, .slice none 0 0, q0, q1, OwnL.nil _ _⟩
  have HL0 : Kp (LS W0 (.slice g l.length c) l) := ⟨HLV.out.below hb0w⟩
  have HQ4 := Kp.mk (And.intro q2 (And.intro q3 q4))
  clear hW0 hb0 z0 q0 q1 q2 q3 q4 hb0w
  gi_wp2
  try simp only [World.size_alloc, hZ]
  clear hZ
  have hnn := HN2.out
  subst hnn
  have HSK : Kp (∀ k, SK g (Z + 1 + 1) (Z + 1 + 2) l.length k → k < Z + 4 ∧ k ≠ Z) := ⟨fun k hk => by
    have := HZW.out
    rcases hk with rfl | rfl | ⟨h0, o, hg⟩
    · omega
    · omega
    · have := HBK.out k o h0 hg
      omega⟩
  have HXL : Kp ((ixL q l).length ≤ l.length) := ⟨ixP_len _ _ _⟩
  refine wpIn_yieldsS (k := 0) (enc := encI) (xs := ixL q l) rfl (by omega) (gf := 95) (lb := #[.pointer (some ⟨Z + 1, 0, none⟩), .pointer (some ⟨Z + 1 + 1, 0, none⟩), .pointer (some ⟨Z + 1 + 2, 0, none⟩)]) rfl trivial (enters_of Try.func95 (by kernel_rfl) rfl) (fun _ => rfl)
    (thoseS_yields 6 (by omega) (Z + 1) (Z + 1 + 1) (Z + 1 + 2) c f g q l s W0 (by have := HLN.out; omega) hEf hQ HQ4.out.1 HQ4.out.2.1 HQ4.out.2.2 HL0.out) Keep.trans (fun V o o' _ _ _ => Keep.putObj (by omega) (fun hk => by have := HS0.out; have := HSK.out _ hk; omega))
    (fun pre V => CIL w Z (Z + 6) (pre.map Prod.snd) V)
    (fun _ _ _ => False)
    (fun p => Turns.abides (C := Z + 1) (CIL.turns (by have := HZW.out; omega) (by omega)) (by have := HS0.out; omega)) (fun _ _ => Turns.abides (C := Z) turns_const (by have := HS0.out; omega))
    HI0.out
    (fun pre x a' V => CIL w Z (Z + 6) (pre.map Prod.snd) V ∧ ∃ G, Z + 6 ≤ G ∧ LAt V G 0 x.2 ∧ a' = { tmps := #[.slice g l.length c, .func (.func f) #[] #[], .string s, undef, undef, undef, .slice none 0 0, .int .i64 0, .int .i64 0, .pointer (some ⟨Z, 0, none⟩), undef, .pointer (some ⟨G, 0, none⟩), .slice g l.length c, .string s, .bool true, .int .i64 0, .int .i64 0, .bool false, undef, .slice g l.length c, .func (.func f) #[] #[], .string s, .func (.func 95) #[] #[.pointer (some ⟨Z + 1, 0, none⟩), .pointer (some ⟨Z + 1 + 1, 0, none⟩), .pointer (some ⟨Z + 1 + 2, 0, none⟩)], .int .i64 x.1, .agg #[.string x.2.p, .string x.2.t, .int .i64 x.2.out, .int .i64 x.2.due, .int .i64 x.2.back], undef, undef, undef, undef, undef], defers := [] })
    ?ax ?assign ?body ?done ?stop
  case ax =>
    rintro pre x a' X V row ⟨hi, G, hG, hx, ha⟩ g' hr
    exact ⟨Turns.abides (C := Z + 1) (CIL.turns (by have := HZW.out; omega) (by omega)) (by have := HS0.out; omega) X V row hi g' hr, G, hG, lat_abide hx g' hr (by have := HS0.out; omega), ha⟩
  case assign =>
    rintro l2 pre ⟨xi, xp, xt, xo, xd, xb⟩ V hi _ hsz
    have HI := Kp.mk hi
    clear hi
    have ez : ((#[23, 24] : Array Tmp).zip (encI (xi, ⟨xp, xt, xo, xd, xb⟩))).foldl (fun tmps (q : Tmp × Value) => tmps.setIfInBounds q.1 q.2) #[.slice g l.length c, .func (.func f) #[] #[], .string s, undef, undef, undef, .slice none 0 0, .int .i64 0, .int .i64 0, .pointer (some ⟨Z, 0, none⟩), undef, undef, .slice g l.length c, .string s, .bool true, .int .i64 0, .int .i64 0, .bool false, undef, .slice g l.length c, .func (.func f) #[] #[], .string s, .func (.func 95) #[] #[.pointer (some ⟨Z + 1, 0, none⟩), .pointer (some ⟨Z + 1 + 1, 0, none⟩), .pointer (some ⟨Z + 1 + 2, 0, none⟩)], undef, undef, undef, undef, undef, undef, undef] = #[.slice g l.length c, .func (.func f) #[] #[], .string s, undef, undef, undef, .slice none 0 0, .int .i64 0, .int .i64 0, .pointer (some ⟨Z, 0, none⟩), undef, undef, .slice g l.length c, .string s, .bool true, .int .i64 0, .int .i64 0, .bool false, undef, .slice g l.length c, .func (.func f) #[] #[], .string s, .func (.func 95) #[] #[.pointer (some ⟨Z + 1, 0, none⟩), .pointer (some ⟨Z + 1 + 1, 0, none⟩), .pointer (some ⟨Z + 1 + 2, 0, none⟩)], .int .i64 xi, .agg #[.string xp, .string xt, .int .i64 xo, .int .i64 xd, .int .i64 xb], undef, undef, undef, undef, undef] := by simp [encI]
    rw [ez]
    clear ez
    gi_wp2
    have hzv : Z + 6 ≤ V.heap.size := by have := HS0.out; omega
    have hbb : Below V.heap.size V (V.alloc (.cells #[.string xp, .string xt, .int .i64 xo, .int .i64 xd, .int .i64 xb] 62)) := (Below.refl _ _).alloc (Nat.le_refl _) _
    refine ⟨alloc_keeps _ _ _, Keep.below hbb (fun j hj => by have := HS0.out; have := HSK.out _ hj; omega), HI.out.on hbb, ?_⟩
    have hla : LAt (V.alloc (.cells #[.string xp, .string xt, .int .i64 xo, .int .i64 xd, .int .i64 xb] 62)) V.heap.size 0 ⟨xp, xt, xo, xd, xb⟩ := ⟨by go_simp, by go_simp, by go_simp, by go_simp, by go_simp⟩
    first
      | exact ⟨V.heap.size, hzv, hla, rfl⟩
      | exact ⟨hzv, hla, rfl⟩
      | exact ⟨hzv, hla⟩
      | trace_state
  case body =>
    rintro l2 pre x a' V ⟨hi, G, hG, hgr, rfl⟩ hpre hsz
    have hpl : (pre.map Prod.snd).length ≤ 100000 := by
      have h2 := hpre.length_le
      have := HXL.out
      have := HLN.out
      rw [List.length_append] at h2
      rw [List.length_map]
      omega
    have HSZ : Kp (W0.heap.size = Z + 4 ∧ W0.heap.size + 2 ≤ V.heap.size) := ⟨HS0.out, by omega⟩
    obtain ⟨g0, c0, g2, cc, W', hcu, hrun, ⟨vz, hcz⟩, hfz, hci, hkeep⟩ := cil_next (x := x.2) hi (by have := HZW.out; omega) (by omega) hpl (by have := HSZ.out; omega)
    have HCI : Kp (CIL w Z (Z + 6) ((pre ++ [x]).map Prod.snd) (W'.setCell ⟨Z, 0, none⟩ (.slice g2 ((pre.map Prod.snd).length + 1) cc))) := ⟨by rw [List.map_append]; exact hci⟩
    have HKP := Lib.hid hkeep
    have hfz0 := hfz 0
    obtain ⟨xi, xp, xt, xo, xd, xb⟩ := x
    obtain ⟨d0, d1, d2, d3, d4⟩ := hgr
    simp only [Nat.zero_add] at d0 d1 d2 d3 d4 hrun
    obtain ⟨m, hm⟩ : ∃ m, (pre.map Prod.snd).length = m := ⟨_, rfl⟩
    rw [hm] at hcu hrun HCI HKP
    clear hci hkeep hfz hi hpre hm hpl
    gi_wp2
    exact ⟨(HKP.out (SK g (Z + 1 + 1) (Z + 1 + 2) l.length) 0 W0.heap.size (by have := HSZ.out; omega) (by have := HSZ.out; omega) (fun j hj => by have := HSK.out _ hj; omega)).from, HKP.out (SK g (Z + 1 + 1) (Z + 1 + 2) l.length) 0 (W0.heap.size + 2) (by have := HSZ.out; omega) (by have := HSZ.out; omega) (fun j hj => by have := HSK.out _ hj; omega), HCI.out⟩
  case done =>
    rintro D V hD hi hd
    have hgb := grownBy_putObj' V D (.deferred none)
    have hi2 := CIL.turns (C := Z + 1) (by have := HZW.out; omega) (by omega) _ _ (some D) hi hgb (fun r e => by cases e; exact ⟨by have := HS0.out; omega, .inr ⟨_, hd, rfl⟩⟩)
    have HD2 := Kp.mk hd
    obtain ⟨-, u, hcu, -, -⟩ := hi
    obtain ⟨hbl, u2, hcu2, -, ho2⟩ := hi2
    have hu : u2 = u := by
      rw [World.cell?_of_block (a := ⟨Z, 0, none⟩) (World.putObj_heap_other (show Z ≠ D by have := HS0.out; omega)), hcu] at hcu2
      exact (Option.some.inj hcu2).symm
    subst hu
    rw [ixL_snd] at ho2
    have HO2 := Kp.mk (ho2.ls fun x hx => HWF.out x (List.mem_filter.1 hx).1)
    have HBL := Kp.mk hbl
    clear hd hgb ho2 hbl
    gi_wp2
    refine ⟨by simp, .inl ⟨_, _, rfl, run_takeDeferred HD2.out, ?_⟩⟩
    exact ⟨.tuple #[u2, .int .i64 0], by simp [results, Try.results85, go_sem], u2, rfl, HO2.out, HBL.out⟩
  case stop =>
    rintro D cd ys V hD hys hi hd
    exact hi.elim
theorem named_any (v : Value) (l : List Loan) (s : ByteArray) (f : Nat) (q : Loan → Bool) (w : World) (hv : LS w v l) (hm : l.length ≤ 4611686018427387904) (hs : s.size ≤ maxLen)
    (hEf : ∀ args W, (callFunc f args).run Try.prog W = .ok (.enter f args) W)
    (hQ : ∀ W x, x ∈ l → Calls Try.prog f #[.agg #[.string x.p, .string x.t, .int .i64 x.out, .int .i64 x.due, .int .i64 x.back], .string s] W fun e w' => e = .returned (.bool (q x)) ∧ Below W.heap.size W w') :
    Calls Try.prog 85 #[v, .func (.func f) #[] #[], .string s] w (LsPost w (askL q l s) (askE l s)) := by
  unfold askL
  by_cases h : askE l s = 0
  · rw [if_pos h, h]
    exact named_ok v l s f q w hv hs h hEf ⟨hQ⟩
  · rw [if_neg h]
    exact (named_no v l s f w hv hm hs h).mono fun e w' ⟨h1, h2⟩ => ⟨_, h1, ⟨none, 0, rfl, Nat.le_refl _, fun i x hx => by simp at hx⟩, h2⟩
theorem Of_any (v : Value) (l : List Loan) (s : ByteArray) (w : World) (hv : LS w v l) (hm : l.length ≤ 4611686018427387904) (hs : s.size ≤ maxLen) : Calls Try.prog 45 #[v, .string s] w (LsPost w (askL (fun x => eqS x.p s) l s) (askE l s)) := by
  have HN : Kp (Calls Try.prog 85 #[v, .func (.func 63) #[] #[], .string s] w (LsPost w (askL (fun x => eqS x.p s) l s) (askE l s))) := ⟨named_any v l s _ _ w hv hm hs (enters_of Try.func63 (by kernel_rfl) rfl) fun W x _ => isOf_any x s W⟩
  obtain ⟨g, c, rfl⟩ := hv.shape
  obtain ⟨N, hN⟩ : ∃ N, l.length = N := ⟨_, rfl⟩
  rw [hN] at HN ⊢
  clear hv hm hs hN
  go_enter Try.func45, Try.ntmps45
  go_wp2_with fail
  refine HN.out.mono ?_
  rintro en w1 ⟨u, rfl, hl, hb⟩
  have HR := Kp.mk (And.intro hl hb)
  clear hl hb
  go_wp2
  go_ret2
  exact ⟨_, rfl, HR.out.1, HR.out.2⟩
theorem To_any (v : Value) (l : List Loan) (s : ByteArray) (w : World) (hv : LS w v l) (hm : l.length ≤ 4611686018427387904) (hs : s.size ≤ maxLen) : Calls Try.prog 47 #[v, .string s] w (LsPost w (askL (fun x => eqS x.t s) l s) (askE l s)) := by
  have HN : Kp (Calls Try.prog 85 #[v, .func (.func 87) #[] #[], .string s] w (LsPost w (askL (fun x => eqS x.t s) l s) (askE l s))) := ⟨named_any v l s _ _ w hv hm hs (enters_of Try.func87 (by kernel_rfl) rfl) fun W x _ => isTo_any x s W⟩
  obtain ⟨g, c, rfl⟩ := hv.shape
  obtain ⟨N, hN⟩ : ∃ N, l.length = N := ⟨_, rfl⟩
  rw [hN] at HN ⊢
  clear hv hm hs hN
  go_enter Try.func47, Try.ntmps47
  go_wp2_with fail
  refine HN.out.mono ?_
  rintro en w1 ⟨u, rfl, hl, hb⟩
  have HR := Kp.mk (And.intro hl hb)
  clear hl hb
  go_wp2
  go_ret2
  exact ⟨_, rfl, HR.out.1, HR.out.2⟩
end Go.Proofs.Ytaofjomocefdkaa.Ln
