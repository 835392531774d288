/-
  WALKS (layer 9, loan): the program's changed where no error comes.
-/
import Derived.Test.YtaofjomocefdkaaLnChg
import Derived.Test.YtaofjomocefdkaaLnRChg
namespace Go.Proofs.Ytaofjomocefdkaa.Ln
open Go Go.RowKit Go.Sort
attribute [local go_sem] Oper.semAt_some
attribute [-go_sem] Builtin.append_

theorem ct_start {w8 W0 : World} {B : Nat} {g : Option Addr} {n c f : Nat} {s : ByteArray} (hB : w8.heap.size = B)
    (h : ((w8.alloc (.cells #[.slice g n c] 22)).alloc (.cells #[.func (.func f) #[] #[]] 71)).alloc (.cells #[.string s] 9) = W0) :
    Below w8.heap.size w8 W0 ∧ W0.heap.size = B + 3 ∧ W0.cell? ⟨B, 0, none⟩ = some (.slice g n c) ∧ W0.cell? ⟨B + 1, 0, none⟩ = some (.func (.func f) #[] #[]) ∧ W0.cell? ⟨B + 2, 0, none⟩ = some (.string s) := by
  subst h
  subst hB
  exact ⟨by repeat (first | exact Below.refl _ _ | refine Below.alloc ?_ (by simp <;> omega) _ | refine bDrewN ?_ _ | refine Below.drew ?_), by simp, by go_simp, by go_simp, by go_simp⟩
theorem Row.turns {G n C : Nat} {v : Value} {l : List Loan} (hl : 0 < l.length) : Turns 0 C (fun W => Row W G n v l) := by
  intro X Y row h gr hr
  have h2 := h
  obtain ⟨c, -, -, -, -, hi⟩ := h2
  have ha := (hi 0 _ (List.getElem?_eq_getElem hl)).1
  refine h.same (gr.block G ha.lt (fun e => ?_))
  obtain ⟨h1, h2 | ⟨p, hp, hc⟩⟩ := hr G e.symm
  · omega
  · rw [cells_of ha.c0 p hp] at hc; cases hc
theorem Hd.far {w V : World} {ps : List (Nat × Nat × Value)} {a : Addr} {u : Value} (h : Hd w ps V) (hp : ∀ p ∈ ps, p.1 ≠ a.block) (ha : w.heap.size ≤ a.block) : Hd w ps (V.setCell a u) :=
  h.same (h.below.setCell ha _) fun p hpp => Below.heap_setCell _ _ _ _ (fun e => hp p hpp e)
/-- What a round leaves that says no more. -/
def chgX (Z f : Nat) (v0 : Value) (d : Int) (l : List Loan) (ok : Loan → Bool) (ch : Loan → Loan) (w : World) (y : Nat × Loan) (V : World) : Prop :=
  ∃ r m, Hd w (cgL Z v0 f d r m) V ∧ ((ok y.2 = false ∧ r = .slice none 0 0 ∧ m = 9) ∨ (ok y.2 = true ∧ m = 0 ∧ 0 < l.length ∧ ∃ G, Row V G l.length r (l.set y.1 (ch y.2))))
theorem chgX.turns {Z f C : Nat} {v0 : Value} {d : Int} {l : List Loan} {ok : Loan → Bool} {ch : Loan → Loan} {w : World} {y : Nat × Loan} (hw : w.heap.size ≤ C) (hZ : Z + 4 < C) : Turns 0 C (chgX Z f v0 d l ok ch w y) := by
  intro X Y row h gr hr
  obtain ⟨r, m, h1, h2⟩ := h
  refine ⟨r, m, Hd.turns hw (fun p hp => .inl ?_) X Y row h1 gr hr, ?_⟩
  · simp only [List.mem_cons, List.not_mem_nil, or_false] at hp
    rcases hp with rfl | rfl | rfl | rfl | rfl <;> simp only <;> omega
  · rcases h2 with h2 | ⟨h2, h3, h4, G, h5⟩
    · exact .inl h2
    · exact .inr ⟨h2, h3, h4, G, Row.turns (by rw [List.length_set]; exact h4) X Y row h5 gr hr⟩
set_option maxRecDepth 100000 in
set_option maxHeartbeats 4000000 in
theorem changed_ok (v : Value) (l : List Loan) (s : ByteArray) (d : Int) (f : Nat) (ok : Loan → Bool) (ch : Loan → Loan) (w : World) (hv : LS w v l) (hs : s.size ≤ maxLen) (hE0 : whE l s d = 0)
    (hEf : ∀ args W, (callFunc f args).run Try.prog W = .ok (.enter f args) W)
    (hQ : Kp (∀ W x, x ∈ l → Calls Try.prog f #[.agg #[.string x.p, .string x.t, .int .i64 x.out, .int .i64 x.due, .int .i64 x.back], .int .i64 d] W fun e w' => e = .returned (.tuple #[.agg #[.string (ch x).p, .string (ch x).t, .int .i64 (ch x).out, .int .i64 (ch x).due, .int .i64 (ch x).back], .bool (ok x)]) ∧ Below W.heap.size W w')) (hw : ∀ x ∈ l, (ch x).wf) :
    Calls Try.prog 73 #[v, .string s, .func (.func f) #[] #[], .int .i64 d] w (LsPost w (chgL l s d ok ch) (chgE l s d ok)) := by
  obtain ⟨hva, hnm, hal⟩ := chkE_zero hE0
  have hlen := validL_len hva
  obtain ⟨Z, hZ⟩ : ∃ Z, w.heap.size = Z := ⟨_, rfl⟩
  have HLV := Kp.mk hv
  obtain ⟨g, c, rfl⟩ := hv.shape
  have HBK : Kp (∀ k o, 0 < l.length → g = some ⟨k, o, none⟩ → k < w.heap.size) := ⟨fun k o h0 hg => hv.blk h0 hg⟩
  obtain ⟨N, hN⟩ : ∃ N, l.length = N := ⟨_, rfl⟩
  have HN2 := Kp.mk hN
  have HLN : Kp (N ≤ 200) := ⟨hN ▸ hlen⟩
  have HZ := Kp.mk hZ
  obtain ⟨W1, hW1⟩ : ∃ W1, ((((w.alloc (.cells #[.slice g N c] 22)).alloc (.cells #[.func (.func f) #[] #[]] 81)).alloc (.cells #[.int .i64 d] 3)).alloc (.cells #[.slice none 0 0] 22)).alloc (.cells #[.int .i64 0] 28) = W1 := ⟨_, rfl⟩
  obtain ⟨z1, hd1⟩ := cg_start hZ rfl hW1
  have HD1 := Kp.mk hd1
  have hb1 := hd1.below
  rw [hN] at hv ⊢
  have HN : Kp (∀ W, Below W1.heap.size W1 W → Calls Try.prog 19 #[.string s] W fun e w' => e = .returned (.bool true) ∧ Below W1.heap.size W1 w' ∧ Below W.heap.size W w') := ⟨fun W hW => (Name_any s W hs).mono fun e w' ⟨h1, h2⟩ => ⟨by rw [h1, hnm], hW.trans (h2.mono hW.size), h2⟩⟩
  have HA : Kp (∀ W u, RI W u [d] → Calls Try.prog 53 #[u] W fun e w' => e = .returned (.bool true) ∧ W = w') := ⟨fun W u hu => hal ▸ areDays_any u _ W hu (by simp)⟩
  have HC : Kp (∀ W, Below W1.heap.size W1 W → Calls Try.prog 61 #[.slice g N c, .bool true, .bool true] W fun e w' => e = .returned (.int .i64 0) ∧ Below W1.heap.size W1 w') := ⟨fun W hW => (checked_any _ l true true W ((hv.below hb1).below hW) (by omega)).mono fun e w' ⟨h1, h2⟩ => ⟨by rw [h1, hva]; rfl, hW.trans (h2.mono hW.size)⟩⟩
  have HCC : Kp (∀ W, Below W1.heap.size W1 W → W.cell? ⟨Z, 0, none⟩ = some (.slice g N c) ∧ W.cell? ⟨Z + 2, 0, none⟩ = some (.int .i64 d)) := ⟨fun W hW => ⟨(cg_cells (HD1.out.on hW)).1.1, (cg_cells (HD1.out.on hW)).1.2.2⟩⟩
  obtain ⟨c0, c2⟩ := HCC.out W1 (Below.refl _ _)
  have HE0 := Kp.mk hE0
  have HQQ := hQ
  have HWC := Kp.mk hw
  clear hv hs hE0 hva hnm hlen hN hal hb1 z1 hd1 hw
  refine (callsIn_wide (n := 7)).1 ?_
  refine callsIn_of_wp_marks Try.func73 rfl trivial ?_ rfl
  simp only [Try.ntmps73, List.size_toArray, List.length_cons, List.length_nil, Nat.reduceAdd, Nat.reduceSub, Array.replicate_succ, Array.replicate_zero, List.push_toArray, List.append_toArray, List.nil_append, List.cons_append]
  gi_wp2
  try rw [hW1]
  try simp only [hZ]
  clear hW1 hZ
  refine wpIn_wide.2 ?_
  refine wp_region_noPanic ?_
  go_region_held3 (fun w' => w'.cell? ⟨Z, 0, none⟩ = some (.slice g N c) ∧ w'.cell? ⟨Z + 2, 0, none⟩ = some (.int .i64 d)) (repeat (first | assumption | refine ⟨?_, ?_⟩ | refine cell_drew_some ?_ | refine Lib.cell?_alloc_some _ ?_))
    (first
      | (go_at_call 19; refine (HN.out _ (by (repeat (with_reducible first | exact Below.refl _ _ | assumption | refine Below.drew ?_ | refine bDrewN ?_ _ | refine bAl ?_)))).mono ?_; rintro en w6 ⟨rfl, hb6, hb7⟩; obtain ⟨f0, f2⟩ := HCC.out _ hb6)
      | (go_at_call 53; refine (HA.out _ _ (by (repeat (first | exact ri_new1 _ _ _ | (with_reducible refine RI.below ?_ hb7) | (with_reducible refine RI.drew ?_) | exact ri_of1 (by go_simp))))).mono ?_; rintro en w7 ⟨rfl, rfl⟩)
      | (go_at_call 61; refine (HC.out _ (by (repeat (with_reducible first | exact Below.refl _ _ | assumption | refine Below.drew ?_ | refine bDrewN ?_ _ | refine bAl ?_)))).mono ?_; rintro en w8 ⟨rfl, hb8⟩; obtain ⟨f3, f5⟩ := HCC.out _ hb8))
  all_goals
    refine NoPanic.normal ?_
    have HD8 := Kp.mk (HD1.out.on hb8)
    have HW8 : Kp (Z + 4 < w8.heap.size) := ⟨HD8.out.lt (p := (Z + 4, 0, .int .i64 0)) (by simp)⟩
    have HWZ : Kp (w.heap.size = Z) := HZ
    clear hb6 hb7 hb8 f0 f2 f5 c0 c2
    try clear f3
    obtain ⟨⟨e0, e1, e2⟩, ⟨e3, e4⟩, y3, y4⟩ := cg_cells HD8.out
    first
      | (obtain ⟨B15, hB15⟩ : ∃ B, w6.heap.size = B := ⟨_, rfl⟩
         simp only [hB15]
         clear hB15)
      | (obtain ⟨B15, hB15⟩ : ∃ B, W1.heap.size = B := ⟨_, rfl⟩
         simp only [hB15]
         clear hB15)
    gi_wp2_with fail
    refine ⟨trivial, (callsIn_wide.2 (thoseS_any _ _ _ _ _ _)).mono ?_⟩
    rintro en W0 ⟨rfl, hW0⟩
    obtain ⟨B, hB⟩ : ∃ B, w8.heap.size = B := ⟨_, rfl⟩
    obtain ⟨hb0, z0, q2, q3, q4⟩ := ct_start hB hW0
    have HS0 : Kp (W0.heap.size = B + 3 ∧ Z + 4 < B) := ⟨z0, hB ▸ HW8.out⟩
    have HDW := Kp.mk (HD8.out.on hb0)
    have HL0 : Kp (LS W0 (.slice g l.length c) l) := ⟨HLV.out.below HDW.out.below⟩
    have HQ4 := Kp.mk (And.intro q2 (And.intro q3 q4))
    clear hW0 hb0 z0 q2 q3 q4 e0 e1 e2 e3 e4 y3 y4
    gi_wp2
    try simp only [World.size_alloc, hB]
    clear hB
    have hnn := HN2.out
    subst hnn
    have HTU : Kp (∀ (r : Value) (m : Int), Turns 0 B (Hd w (cgL Z (.slice g l.length c) f d r m))) := ⟨fun r m => Hd.turns (by have := HWZ.out; have := HS0.out; omega) fun p h => .inl (by
      have := HS0.out
      simp only [List.mem_cons, List.not_mem_nil, or_false] at h
      rcases h with rfl | rfl | rfl | rfl | rfl <;> simp only <;> omega)⟩
    have HSK : Kp (∀ k, SK g (B + 1) (B + 2) l.length k → k < B + 3 ∧ (k < Z ∨ B ≤ k)) := ⟨fun k hk => by
      have := HWZ.out
      have := HS0.out
      rcases hk with rfl | rfl | ⟨h0, o, hg⟩
      · omega
      · omega
      · have := HBK.out k o h0 hg
        omega⟩
    refine wpIn_yieldsS (k := 0) (enc := encI) (xs := ixL (openB s) l) rfl (by omega) (gf := 95) (lb := #[.pointer (some ⟨B, 0, none⟩), .pointer (some ⟨B + 1, 0, none⟩), .pointer (some ⟨B + 2, 0, none⟩)]) rfl trivial (enters_of Try.func95 (by kernel_rfl) rfl) (fun _ => rfl)
      (thoseS_yields 6 (by omega) B (B + 1) (B + 2) c 99 g (openB s) l s W0 (by have := HLN.out; omega) (enters_of Try.func99 (by kernel_rfl) rfl) ⟨fun W x _ => isOpen_any x s W⟩ HQ4.out.1 HQ4.out.2.1 HQ4.out.2.2 HL0.out) Keep.trans (fun V o o' _ _ _ => Keep.putObj (by omega) (fun hk => by have := HS0.out; have := HSK.out _ hk; omega))
      (fun pre V => Hd w (cgL Z (.slice g l.length c) f d (.slice none 0 0) 0) V ∧ pre = [])
      (fun cd ys V => cd = .ret ∧ ∃ y, ys = [y] ∧ chgX Z f (.slice g l.length c) d l ok ch w y V)
      (fun p => Turns.abides (C := B) (fun X Y row h gr hr => ⟨HTU.out _ _ X Y row h.1 gr hr, h.2⟩) (by have := HS0.out; omega))
      (fun cd ys => Turns.abides (C := B) (fun X Y row h gr hr => by
        obtain ⟨h0, y, h1, h2⟩ := h
        exact ⟨h0, y, h1, chgX.turns (by have := HWZ.out; have := HS0.out; omega) (by have := HS0.out; omega) X Y row h2 gr hr⟩) (by have := HS0.out; omega))
      ⟨HDW.out, rfl⟩
      (fun pre x a' V => (Hd w (cgL Z (.slice g l.length c) f d (.slice none 0 0) 0) V ∧ pre = []) ∧ ∃ G, B + 5 ≤ G ∧ LAt V G 0 x.2 ∧ a' = { tmps := #[.slice g l.length c, .string s, .func (.func f) #[] #[], .int .i64 d, .pointer (some ⟨Z, 0, none⟩), undef, .pointer (some ⟨Z + 1, 0, none⟩), .pointer (some ⟨Z + 1 + 1, 0, none⟩), .pointer (some ⟨Z + 1 + 1 + 1, 0, none⟩), .pointer (some ⟨Z + 1 + 1 + 1 + 1, 0, none⟩), .int .i64 0, .int .i64 x.1, .pointer (some ⟨G, 0, none⟩), undef, undef, undef, .slice g l.length c, .string s, .bool true, .int .i64 d, .slice (some ⟨B15, 0, none⟩) 1 1, .bool true, .int .i64 0, .int .i64 0, .bool false, undef, .slice g l.length c, .string s, .func (.func 95) #[] #[.pointer (some ⟨B, 0, none⟩), .pointer (some ⟨B + 1, 0, none⟩), .pointer (some ⟨B + 2, 0, none⟩)], .int .i64 x.1, .agg #[.string x.2.p, .string x.2.t, .int .i64 x.2.out, .int .i64 x.2.due, .int .i64 x.2.back], undef, undef, undef, undef, undef, undef, undef, undef, undef, undef, undef, undef, undef, undef, undef, undef], defers := [] })
      ?ax ?assign ?body ?done ?stop
    case ax =>
      rintro pre x a' X V row ⟨hi, G, hG, hx, ha⟩ g' hr
      exact ⟨⟨Turns.abides (C := B) (HTU.out _ _) (by have := HS0.out; omega) X V row hi.1 g' hr, hi.2⟩, G, hG, lat_abide hx g' hr (by have := HS0.out; omega), ha⟩
    case assign =>
      rintro l2 pre ⟨xi, xp, xt, xo, xd, xb⟩ V ⟨hi, hpp⟩ _ hsz
      have HI := Kp.mk hi
      clear hi
      have ez : ((#[29, 30] : Array Tmp).zip (encI (xi, ⟨xp, xt, xo, xd, xb⟩))).foldl (fun tmps (q : Tmp × Value) => tmps.setIfInBounds q.1 q.2) #[.slice g l.length c, .string s, .func (.func f) #[] #[], .int .i64 d, .pointer (some ⟨Z, 0, none⟩), undef, .pointer (some ⟨Z + 1, 0, none⟩), .pointer (some ⟨Z + 1 + 1, 0, none⟩), .pointer (some ⟨Z + 1 + 1 + 1, 0, none⟩), .pointer (some ⟨Z + 1 + 1 + 1 + 1, 0, none⟩), .int .i64 0, undef, undef, undef, undef, undef, .slice g l.length c, .string s, .bool true, .int .i64 d, .slice (some ⟨B15, 0, none⟩) 1 1, .bool true, .int .i64 0, .int .i64 0, .bool false, undef, .slice g l.length c, .string s, .func (.func 95) #[] #[.pointer (some ⟨B, 0, none⟩), .pointer (some ⟨B + 1, 0, none⟩), .pointer (some ⟨B + 2, 0, none⟩)], undef, undef, undef, undef, undef, undef, undef, undef, undef, undef, undef, undef, undef, undef, undef, undef, undef, undef] = #[.slice g l.length c, .string s, .func (.func f) #[] #[], .int .i64 d, .pointer (some ⟨Z, 0, none⟩), undef, .pointer (some ⟨Z + 1, 0, none⟩), .pointer (some ⟨Z + 1 + 1, 0, none⟩), .pointer (some ⟨Z + 1 + 1 + 1, 0, none⟩), .pointer (some ⟨Z + 1 + 1 + 1 + 1, 0, none⟩), .int .i64 0, undef, undef, undef, undef, undef, .slice g l.length c, .string s, .bool true, .int .i64 d, .slice (some ⟨B15, 0, none⟩) 1 1, .bool true, .int .i64 0, .int .i64 0, .bool false, undef, .slice g l.length c, .string s, .func (.func 95) #[] #[.pointer (some ⟨B, 0, none⟩), .pointer (some ⟨B + 1, 0, none⟩), .pointer (some ⟨B + 2, 0, none⟩)], .int .i64 xi, .agg #[.string xp, .string xt, .int .i64 xo, .int .i64 xd, .int .i64 xb], undef, undef, undef, undef, undef, undef, undef, undef, undef, undef, undef, undef, undef, undef, undef, undef] := by simp [encI]
      rw [ez]
      clear ez
      gi_wp2
      have hzv : B + 5 ≤ V.heap.size := by have := HS0.out; omega
      have hbb : Below V.heap.size V (V.alloc (.cells #[.string xp, .string xt, .int .i64 xo, .int .i64 xd, .int .i64 xb] 62)) := (Below.refl _ _).alloc (Nat.le_refl _) _
      first
        | refine ⟨alloc_keeps _ _ _, Keep.below hbb (fun j hj => by have := HS0.out; have := HSK.out _ hj; omega), HI.out.on hbb, ?_⟩
        | refine ⟨alloc_keeps _ _ _, Keep.below hbb (fun j hj => by have := HS0.out; have := HSK.out _ hj; omega), ⟨HI.out.on hbb, hpp⟩, ?_⟩
      have hla : LAt (V.alloc (.cells #[.string xp, .string xt, .int .i64 xo, .int .i64 xd, .int .i64 xb] 62)) V.heap.size 0 ⟨xp, xt, xo, xd, xb⟩ := ⟨by go_simp, by go_simp, by go_simp, by go_simp, by go_simp⟩
      first
        | exact ⟨V.heap.size, hzv, hla, rfl⟩
        | exact ⟨hzv, hla, rfl⟩
        | exact ⟨hzv, hla⟩
    case body =>
      rintro l2 pre x a' V ⟨⟨hi, hpp⟩, G, hG, hgr, rfl⟩ hpre hsz
      subst hpp
      have HI := Kp.mk hi
      have hxm := ixL_mem (hpre.subset (show x ∈ [] ++ [x] by simp))
      have hxl : l[x.1]? = some x.2 := (ixP_mem (hpre.subset (show x ∈ [] ++ [x] by simp))).2.1
      have HGL : Kp (G < V.heap.size) := ⟨hgr.lt⟩
      have HQX : Kp (∀ W, Calls Try.prog f #[.agg #[.string x.2.p, .string x.2.t, .int .i64 x.2.out, .int .i64 x.2.due, .int .i64 x.2.back], .int .i64 d] W fun e w' => e = .returned (.tuple #[.agg #[.string (ch x.2).p, .string (ch x.2).t, .int .i64 (ch x.2).out, .int .i64 (ch x.2).due, .int .i64 (ch x.2).back], .bool (ok x.2)]) ∧ Below W.heap.size W w') := ⟨fun W => HQQ.out W x.2 hxm.1⟩
      have HSZ : Kp (W0.heap.size = B + 3 ∧ W0.heap.size + 2 ≤ V.heap.size ∧ Z + 4 < B) := ⟨HS0.out.1, by omega, HS0.out.2⟩
      have HWX := Kp.mk (HWC.out x.2 hxm.1)
      have HXL := Kp.mk hxl
      obtain ⟨R, hR⟩ : ∃ R, ok x.2 = R := ⟨_, rfl⟩
      obtain ⟨⟨yp, yt, yo, yd, yb⟩, hy⟩ : ∃ y, ch x.2 = y := ⟨_, rfl⟩
      have HRR := Kp.mk hR
      have HYY := Kp.mk hy
      rw [hR, hy] at HQX
      rw [hy] at HWX
      have HLX := Kp.mk hgr
      obtain ⟨xi, xp, xt, xo, xd, xb⟩ := x
      obtain ⟨⟨c0, c1, c2⟩, ⟨c3, c4⟩, z3, z4⟩ := cg_cells hi
      obtain ⟨d0, d1, d2, d3, d4⟩ := hgr
      simp only [Nat.zero_add] at d0 d1 d2 d3 d4 HQX
      clear hi hR hy hpre hsz hxm hxl
      gi_wp2_with fail
      refine ⟨trivial, (CallsIn.inRound _ (callsIn_wide.2 (HQX.out _))).mono ?_⟩
      rintro en w9 ⟨rfl, hb9⟩
      obtain ⟨w10, hw10⟩ : ∃ w10, w9.alloc (.cells #[.string yp, .string yt, .int .i64 yo, .int .i64 yd, .int .i64 yb] 62) = w10 := ⟨_, rfl⟩
      have hb10 : Below V.heap.size V w10 := by rw [← hw10]; exact hb9.alloc hb9.size _
      have HB10 := Kp.mk hb10
      have HD10 := Kp.mk (HI.out.on hb10)
      obtain ⟨⟨e0, e1, e2⟩, ⟨e3, e4⟩, y3, y4⟩ := cg_cells HD10.out
      have HY10 : Kp (LAt w10 w9.heap.size 0 ⟨yp, yt, yo, yd, yb⟩) := ⟨by subst hw10; exact ⟨by go_simp, by go_simp, by go_simp, by go_simp, by go_simp⟩⟩
      clear hb9 hb10 c0 c1 c2 c3 c4 z3 z4 d0 d1 d2 d3 d4
      have hk1 : KeepsFrom W0.heap.size V w10 := KeepsFrom.of_grownBy (grown_below HB10.out none) (fun j e => by cases e)
      have HK1 := Kp.mk hk1
      clear hk1
      cases R with
      | false =>
        gi_wp2
        try simp only [hw10]
        exact ⟨(HK1.out.trans ((KeepsOthers.setCell _ _ _).from _)).trans ((KeepsOthers.setCell _ _ _).from _), rfl, (xi, ⟨xp, xt, xo, xd, xb⟩), rfl, .slice none 0 0, 9, cg_store HD10.out (by have := HWZ.out; omega) rfl, .inl ⟨HRR.out, rfl, rfl⟩⟩
      | true =>
        have hxn := (List.getElem?_eq_some_iff.1 HXL.out).1
        obtain ⟨g', c', e', -, hi2⟩ := HLV.out
        obtain ⟨b0, o0, hg0, -, -⟩ := hi2 xi _ HXL.out
        simp only [Value.slice.injEq] at e'
        obtain ⟨rfl, -, -⟩ := e'
        subst hg0
        have HCL : Kp (Calls Try.prog 100 #[.slice (some ⟨b0, o0, none⟩) l.length c] w10 fun e w' => ∃ u, e = .returned u ∧ (∃ G, w10.heap.size ≤ G ∧ Row w' G l.length u l) ∧ Below w10.heap.size w10 w') := ⟨clone_any b0 o0 c l w10 (by omega) (by have := HLN.out; omega) (HLV.out.below HD10.out.below)⟩
        have o1 : (xi : Int) < (l.length : Int) := by omega
        have o2 : xi ≤ 200 := by have := HLN.out; omega
        have HXN := Kp.mk hxn
        clear hi2 hxn
        gi_wp2_with fail
        try rw [hw10]
        refine ⟨trivial, (CallsIn.inRound _ (callsIn_wide.2 HCL.out)).mono ?_⟩
        rintro en w11 ⟨u, rfl, ⟨Gc, hGc, hrow⟩, hb11⟩
        have HROW := Kp.mk hrow
        have hfz := hrow.frz
        obtain ⟨⟨p0, p1, p2, p3, p4⟩, -⟩ := hrow.at HXL.out
        obtain ⟨cu, rfl, -⟩ := hrow
        have HD11 := Kp.mk (HD10.out.on hb11)
        obtain ⟨⟨r0, r1, r2⟩, ⟨r3, r4⟩, s3, s4⟩ := cg_cells HD11.out
        obtain ⟨t0, t1, t2, t3, t4⟩ := HY10.out.on hb11
        have HB11 := Kp.mk hb11
        have HGC : Kp (w10.heap.size ≤ Gc) := ⟨hGc⟩
        have hzz : Z + 5 ≤ Gc := by have := HSZ.out; have := HB10.out.size; omega
        simp only [Nat.zero_add] at t0 t1 t2 t3 t4
        clear hGc hb11 e0 e1 e2 e3 e4 y3 y4
        gi_wp2
        have hput := Row.put HROW.out HXN.out HWX.out
        simp only at hput
        obtain ⟨W12, hW12⟩ : ∃ W12, (((((w11.setCell ⟨Gc, xi * 5, none⟩ (.string yp)).setCell ⟨Gc, xi * 5 + 1, none⟩ (.string yt)).setCell ⟨Gc, xi * 5 + 2, none⟩ (.int .i64 yo)).setCell ⟨Gc, xi * 5 + 3, none⟩ (.int .i64 yd)).setCell ⟨Gc, xi * 5 + 4, none⟩ (.int .i64 yb)) = W12 := ⟨_, rfl⟩
        have hfr : ∀ p ∈ cgL Z (.slice (some ⟨b0, o0, none⟩) l.length c) f d (.slice none 0 0) 0, p.1 ≠ Gc := fun p hp => by
          simp only [List.mem_cons, List.not_mem_nil, or_false] at hp
          rcases hp with rfl | rfl | rfl | rfl | rfl <;> simp only <;> omega
        have hgw : w.heap.size ≤ Gc := by have := HWZ.out; omega
        have hd12 : Hd w (cgL Z (.slice (some ⟨b0, o0, none⟩) l.length c) f d (.slice none 0 0) 0) W12 := by
          rw [← hW12]
          exact ((((HD11.out.far hfr hgw).far hfr hgw).far hfr hgw).far hfr hgw).far hfr hgw
        have hk12 : KeepsFrom W0.heap.size V W12 := by
          rw [← hW12]
          exact (((((HK1.out.trans (KeepsFrom.of_grownBy (grown_below HB11.out none) (fun j e => by cases e))).trans ((KeepsOthers.setCell _ _ _).from _)).trans ((KeepsOthers.setCell _ _ _).from _)).trans ((KeepsOthers.setCell _ _ _).from _)).trans ((KeepsOthers.setCell _ _ _).from _)).trans ((KeepsOthers.setCell _ _ _).from _)
        rw [hW12] at hput ⊢
        have hrow14 : Row ((W12.setCell ⟨Z + 3, 0, none⟩ (.slice (some ⟨Gc, 0, none⟩) l.length cu)).setCell ⟨Z + 4, 0, none⟩ (.int .i64 0)) Gc l.length (.slice (some ⟨Gc, 0, none⟩) l.length cu) (l.set xi ⟨yp, yt, yo, yd, yb⟩) :=
          hput.same ((Below.heap_setCell _ _ _ _ (by simp only; omega)).trans (Below.heap_setCell _ _ _ _ (by simp only; omega)))
        exact ⟨(hk12.trans ((KeepsOthers.setCell _ _ _).from _)).trans ((KeepsOthers.setCell _ _ _).from _), rfl, (xi, ⟨xp, xt, xo, xd, xb⟩), rfl, .slice (some ⟨Gc, 0, none⟩) l.length cu, 0, cg_store hd12 (by have := HWZ.out; omega) rfl, .inr ⟨HRR.out, rfl, by have := HXN.out; omega, Gc, by rw [HYY.out]; exact hrow14⟩⟩
    case done =>
      rintro D V hD ⟨hi, hpp⟩ hd
      have hs1 := cg_store (r' := .slice none 0 0) (m' := 8) hi (by have := HWZ.out; omega) rfl
      have hd2 : ((V.setCell ⟨Z + 3, 0, none⟩ (.slice none 0 0)).setCell ⟨Z + 4, 0, none⟩ (.int .i64 8)).heap[D]? = some (.deferred (some [])) :=
        (Below.heap_setCell _ _ _ _ (by have := HS0.out; simp; omega)).trans ((Below.heap_setCell _ _ _ _ (by have := HS0.out; simp; omega)).trans hd)
      have g9 := HTU.out _ _ _ _ (some D) hs1 (grownBy_putObj' _ D (.deferred none)) (fun r e => by cases e; exact ⟨by have := HS0.out; omega, .inr ⟨_, hd2, rfl⟩⟩)
      have HG9 := Kp.mk g9
      have HD2 := Kp.mk hd2
      have HNO := Kp.mk (chg_none (ok := ok) (ch := ch) HE0.out (ixL_none hpp))
      obtain ⟨-, ⟨c3, c4⟩, z3, z4⟩ := cg_cells hi
      clear hi hs1 hd hd2 g9
      gi_wp2
      refine ⟨by simp, .inl ⟨_, _, rfl, run_takeDeferred HD2.out, ?_⟩⟩
      obtain ⟨-, ⟨e1, e2⟩, -, -⟩ := cg_cells HG9.out
      rw [HNO.out.1, HNO.out.2]
      exact ⟨.tuple #[.slice none 0 0, .int .i64 8], by simp [results, Try.results73, go_sem, e1, e2], _, rfl, ⟨none, 0, rfl, Nat.le_refl _, fun i x hx => by simp at hx⟩, HG9.out.below⟩
    case stop =>
      rintro D cd ys V hD hys ⟨rfl, y, rfl, hX⟩ hd
      have g9 := chgX.turns (C := B) (by have := HWZ.out; have := HS0.out; omega) (by have := HS0.out; omega) _ _ (some D) hX (grownBy_putObj' _ D (.deferred none)) (fun r e => by cases e; exact ⟨by have := HS0.out; omega, .inr ⟨_, hd, rfl⟩⟩)
      have HG9 := Kp.mk g9
      have HD2 := Kp.mk hd
      have hfst : ∃ t, ixL (openB s) l = y :: t := by
        obtain ⟨t, ht⟩ := hys
        exact ⟨t, ht.symm⟩
      obtain ⟨t, ht⟩ := hfst
      obtain ⟨h1, h2⟩ := ixL_first ht
      have HF := Kp.mk (And.intro h1 h2)
      clear hX hd g9 ht h1 h2
      gi_wp2
      refine ⟨by simp, .inl ⟨_, _, rfl, run_takeDeferred HD2.out, ?_⟩⟩
      obtain ⟨r, m, hdd, hc⟩ := HG9.out
      obtain ⟨-, ⟨e1, e2⟩, -, -⟩ := cg_cells hdd
      rcases hc with ⟨hk, rfl, rfl⟩ | ⟨hk, rfl, -, G, hrow⟩
      · obtain ⟨q1, q2⟩ := chg_no (ch := ch) HE0.out HF.out.1 HF.out.2 hk
        rw [q1, q2]
        exact ⟨.tuple #[.slice none 0 0, .int .i64 9], by simp [results, Try.results73, go_sem, e1, e2], _, rfl, ⟨none, 0, rfl, Nat.le_refl _, fun i x hx => by simp at hx⟩, hdd.below⟩
      · obtain ⟨q1, q2⟩ := chg_yes (ch := ch) HE0.out HF.out.1 HF.out.2 hk
        rw [q1, q2]
        exact ⟨.tuple #[r, .int .i64 0], by simp [results, Try.results73, go_sem, e1, e2], _, rfl, hrow.ls, hdd.below⟩
end Go.Proofs.Ytaofjomocefdkaa.Ln
