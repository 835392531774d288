/-
  WALKS (layer 9, loan): where a piece is on a day.
-/
import Derived.Test.YtaofjomocefdkaaLnNamed
namespace Go.Proofs.Ytaofjomocefdkaa.Ln
open Go Go.RowKit Go.Sort
attribute [local go_sem] Oper.semAt_some

def whE (l : List Loan) (s : ByteArray) (d : Int) : Int := chkE (validL l) (nameB s) (allIn 0 100000 [d])
/-- The borrower of a loan of the piece that is out, or nothing. -/
def WhIs (l : List Loan) (s : ByteArray) (d : Int) (r : ByteArray) : Prop := (∃ x ∈ l, eqS x.p s = true ∧ outB x d = true ∧ r = x.t) ∨ ((∀ x ∈ l, eqS x.p s = true → outB x d = false) ∧ r = ⟨#[]⟩)
def WhPost (l : List Loan) (s : ByteArray) (d : Int) (w : World) (e : Ending) (w' : World) : Prop := ∃ r, e = .returned (.tuple #[.string r, .int .i64 0]) ∧ WhIs l s d r ∧ Below w.heap.size w w'
theorem wh_start {w W1 : World} {Z : Nat} {d : Int} {t t2 t3 : TypeId} (hZ : w.heap.size = Z) (h : ((w.alloc (.cells #[.int .i64 d] t)).alloc (.cells #[.string ⟨#[]⟩] t2)).alloc (.cells #[.int .i64 0] t3) = W1) :
    W1.heap.size = Z + 3 ∧ Hd w [(Z, 0, .int .i64 d), (Z + 1, 0, .string ⟨#[]⟩), (Z + 2, 0, .int .i64 0)] W1 := by
  subst h
  subst hZ
  refine ⟨by simp, by repeat (first | exact Below.refl _ _ | refine Below.alloc ?_ (by simp <;> omega) _ | refine bDrewN ?_ _ | refine Below.drew ?_), fun p hp => ?_⟩
  simp only [List.mem_cons, List.not_mem_nil, or_false] at hp
  rcases hp with rfl | rfl | rfl <;> exact ⟨by go_simp, by go_simp⟩
theorem hd_cells3 {w W : World} {a b c : Nat} {u v x : Value} (h : Hd w [(a, 0, u), (b, 0, v), (c, 0, x)] W) : W.cell? ⟨a, 0, none⟩ = some u ∧ W.cell? ⟨b, 0, none⟩ = some v ∧ W.cell? ⟨c, 0, none⟩ = some x ∧ W.frozen? ⟨b, 0, none⟩ = false ∧ W.frozen? ⟨c, 0, none⟩ = false :=
  ⟨(h.cells (a, 0, u) (by simp)).1, (h.cells (b, 0, v) (by simp)).1, (h.cells (c, 0, x) (by simp)).1, (h.cells (b, 0, v) (by simp)).2, (h.cells (c, 0, x) (by simp)).2⟩
theorem wpIn_region_noPanic {F : Fence} {n : Nat} {P : Program} {id : Nat} {ops : Array Oper} {b : Bool} {Q : Exit → Act → World → Prop} {a : Act} {w : World} (h : (Code.region id ops b).wpIn F n P (NoPanic Q) a w) : (Code.region id ops b).wpIn F n P Q a w :=
  Code.wpIn_mono NoPanic.imp h
def NoneOut (pre : List (Nat × Loan)) (d : Int) : Prop := ∀ y ∈ pre, outB y.2 d = false
theorem wt_start {w8 W0 : World} {B : Nat} {g : Option Addr} {n c f : Nat} {s : ByteArray} (hB : w8.heap.size = B)
    (h : ((w8.alloc (.cells #[.slice g n c] 22)).alloc (.cells #[.func (.func f) #[] #[]] 71)).alloc (.cells #[.string s] 9) = W0) :
    Below w8.heap.size w8 W0 ∧ W0.heap.size = B + 3 ∧ W0.cell? ⟨B, 0, none⟩ = some (.slice g n c) ∧ W0.cell? ⟨B + 1, 0, none⟩ = some (.func (.func f) #[] #[]) ∧ W0.cell? ⟨B + 2, 0, none⟩ = some (.string s) := by
  subst h
  subst hB
  exact ⟨by repeat (first | exact Below.refl _ _ | refine Below.alloc ?_ (by simp <;> omega) _ | refine bDrewN ?_ _ | refine Below.drew ?_), by simp, by go_simp, by go_simp, by go_simp⟩
theorem wh_store {w V : World} {Z : Nat} {d : Int} {a b : ByteArray} {m m' : Int} (h : Hd w [(Z, 0, .int .i64 d), (Z + 1, 0, .string a), (Z + 2, 0, .int .i64 m)] V) (hZ : w.heap.size ≤ Z) :
    Hd w [(Z, 0, .int .i64 d), (Z + 1, 0, .string b), (Z + 2, 0, .int .i64 m')] ((V.setCell ⟨Z + 1, 0, none⟩ (.string b)).setCell ⟨Z + 1 + 1, 0, none⟩ (.int .i64 m')) := by
  obtain ⟨c0, c1, c2, f1, f2⟩ := hd_cells3 h
  obtain ⟨-, f0⟩ := h.cells (Z, 0, .int .i64 d) (by simp)
  simp only at f0
  refine ⟨(h.below.setCell (by simp only; omega) _).setCell (by simp only; omega) _, fun p hp => ?_⟩
  simp only [List.mem_cons, List.not_mem_nil, or_false] at hp
  rcases hp with rfl | rfl | rfl <;> exact ⟨by simp [go_sem, c0, c1, c2], by simp [go_sem, f0, f1, f2]⟩
theorem ixL_mem {q : Loan → Bool} {l : List Loan} {y : Nat × Loan} (h : y ∈ ixL q l) : y.2 ∈ l ∧ q y.2 = true := by
  have : y.2 ∈ (ixL q l).map Prod.snd := List.mem_map.2 ⟨y, h, rfl⟩
  rw [ixL_snd] at this
  exact List.mem_filter.1 this
theorem ixL_all {q : Loan → Bool} {l : List Loan} {p : Loan → Prop} (h : ∀ y ∈ ixL q l, p y.2) : ∀ x ∈ l, q x = true → p x := by
  intro x hx hq
  have : x ∈ (ixL q l).map Prod.snd := by rw [ixL_snd]; exact List.mem_filter.2 ⟨hx, hq⟩
  obtain ⟨y, hy, rfl⟩ := List.mem_map.1 this
  exact h y hy
set_option maxRecDepth 100000 in
set_option maxHeartbeats 4000000 in
theorem Where_ok (v : Value) (l : List Loan) (s : ByteArray) (d : Int) (w : World) (hv : LS w v l) (hs : s.size ≤ maxLen) (hE0 : whE l s d = 0) :
    Calls Try.prog 23 #[v, .string s, .int .i64 d] w (WhPost l s d w) := by
  obtain ⟨hva, hnm, hal⟩ := chkE_zero hE0
  have hlen := validL_len hva
  obtain ⟨Z, hZ⟩ : ∃ Z, w.heap.size = Z := ⟨_, rfl⟩
  have HN : Kp (∀ W, Below w.heap.size w W → Calls Try.prog 19 #[.string s] W fun e w' => e = .returned (.bool true) ∧ Below w.heap.size w w' ∧ Below W.heap.size W w') := ⟨fun W hW => (Name_any s W hs).mono fun e w' ⟨h1, h2⟩ => ⟨by rw [h1, hnm], hW.trans (h2.mono hW.size), h2⟩⟩
  have HA : Kp (∀ W u, RI W u [d] → Calls Try.prog 53 #[u] W fun e w' => e = .returned (.bool true) ∧ W = w') := ⟨fun W u hu => hal ▸ areDays_any u _ W hu (by simp)⟩
  have HC : Kp (∀ W, Below w.heap.size w W → Calls Try.prog 61 #[v, .bool true, .bool true] W fun e w' => e = .returned (.int .i64 0) ∧ Below w.heap.size w w' ∧ Below W.heap.size W w') := ⟨fun W hW => (checked_any v l true true W (hv.below hW) (by omega)).mono fun e w' ⟨h1, h2⟩ => ⟨by rw [h1, hva]; rfl, hW.trans (h2.mono hW.size), h2⟩⟩
  have HLV := Kp.mk hv
  obtain ⟨g, c, rfl⟩ := hv.shape
  have HBK : Kp (∀ k o, 0 < l.length → g = some ⟨k, o, none⟩ → k < w.heap.size) := ⟨fun k o h0 hg => hv.blk h0 hg⟩
  obtain ⟨N, hN⟩ : ∃ N, l.length = N := ⟨_, rfl⟩
  have HN2 := Kp.mk hN
  have HLN : Kp (N ≤ 200) := ⟨hN ▸ hlen⟩
  have HZ := Kp.mk hZ
  rw [hN] at HC ⊢
  clear hv hs hE0 hva hnm hlen hN hal
  refine (callsIn_wide (n := 7)).1 ?_
  refine callsIn_of_wp_marks Try.func23 rfl trivial ?_ rfl
  simp only [Try.ntmps23, List.size_toArray, List.length_cons, List.length_nil, Nat.reduceAdd, Nat.reduceSub, Array.replicate_succ, Array.replicate_zero, List.push_toArray, List.append_toArray, List.nil_append, List.cons_append]
  gi_wp2
  obtain ⟨W1, hW1⟩ : ∃ W1, ((w.alloc (.cells #[.int .i64 d] 3)).alloc (.cells #[.string ⟨#[]⟩] 9)).alloc (.cells #[.int .i64 0] 28) = W1 := ⟨_, rfl⟩
  rw [hW1]
  obtain ⟨z1, hd1⟩ := wh_start hZ hW1
  have HD1 := Kp.mk hd1
  have hbw1 := hd1.below
  obtain ⟨c0, -, -, -, -⟩ := hd_cells3 hd1
  have hZ1 : Z < W1.heap.size := World.block_lt_of_cell? _ _ c0
  have HN1 : Kp (∀ W, Below W1.heap.size W1 W → Calls Try.prog 19 #[.string s] W fun e w' => e = .returned (.bool true) ∧ Below W1.heap.size W1 w' ∧ Below W.heap.size W w') := ⟨fun W hW => (HN.out W (hbw1.trans (hW.mono hbw1.size))).mono fun e w' ⟨h1, _, h2⟩ => ⟨h1, hW.trans (h2.mono hW.size), h2⟩⟩
  have HC1 : Kp (∀ W, Below W1.heap.size W1 W → Calls Try.prog 61 #[.slice g N c, .bool true, .bool true] W fun e w' => e = .returned (.int .i64 0) ∧ Below W1.heap.size W1 w' ∧ Below W.heap.size W w') := ⟨fun W hW => (HC.out W (hbw1.trans (hW.mono hbw1.size))).mono fun e w' ⟨h1, _, h2⟩ => ⟨h1, hW.trans (h2.mono hW.size), h2⟩⟩
  clear hW1 hd1 z1 hbw1 HN HC
  try simp only [hZ]
  clear hZ
  refine wpIn_region_noPanic ?_
  gi_region_with (first
        | (refine ⟨trivial, (callsIn_wide.2 (HN1.out _ (by (repeat (with_reducible first | exact Below.refl _ _ | assumption | refine Below.drew ?_ | refine bDrewN ?_ _ | refine bAl ?_))))).mono ?_⟩; rintro en w6 ⟨rfl, hb6, hb7⟩; have f0 : w6.cell? ⟨Z, 0, none⟩ = some (.int .i64 d) := (hb7.cell (p := ⟨Z, 0, none⟩) (by (try simp); omega)).trans (by go_simp))
        | (refine ⟨trivial, (callsIn_wide.2 (HA.out _ _ (by (repeat (first | exact ri_new1 _ _ _ | (with_reducible refine RI.below ?_ hb7) | (with_reducible refine RI.drew ?_) | exact ri_of1 (by go_simp)))))).mono ?_⟩; rintro en w7 ⟨rfl, rfl⟩)
        | (refine ⟨trivial, (callsIn_wide.2 (HC1.out _ (by (repeat (with_reducible first | exact Below.refl _ _ | assumption | refine Below.drew ?_ | refine bDrewN ?_ _ | refine bAl ?_))))).mono ?_⟩; rintro en w8 ⟨rfl, hb8, hb9⟩))
  all_goals
    refine NoPanic.normal ?_
    have HD8 := Kp.mk (HD1.out.on hb8)
    have HW8 : Kp (Z + 2 < w8.heap.size) := ⟨HD8.out.lt (p := (Z + 2, 0, .int .i64 0)) (by simp)⟩
    have HWZ : Kp (w.heap.size = Z) := HZ
    clear hb8 hb9
    first
      | (obtain ⟨B15, hB15⟩ : ∃ B, w6.heap.size = B := ⟨_, rfl⟩
         simp only [hB15]
         clear hB15 f0 hb6 hb7)
      | (clear f0 hb6 hb7
         obtain ⟨B15, hB15⟩ : ∃ B, W1.heap.size = B := ⟨_, rfl⟩
         simp only [hB15]
         clear hB15)
    clear hZ1 c0
    gi_wp2_with fail
    refine ⟨trivial, (callsIn_wide.2 (thoseS_any _ _ _ _ _ _)).mono ?_⟩
    rintro en W0 ⟨rfl, hW0⟩
    obtain ⟨B, hB⟩ : ∃ B, w8.heap.size = B := ⟨_, rfl⟩
    obtain ⟨hb0, z0, q2, q3, q4⟩ := wt_start hB hW0
    have HS0 : Kp (W0.heap.size = B + 3 ∧ Z + 2 < B) := ⟨z0, hB ▸ HW8.out⟩
    have HDW := Kp.mk (HD8.out.on hb0)
    have HL0 : Kp (LS W0 (.slice g l.length c) l) := ⟨HLV.out.below HDW.out.below⟩
    have HQ4 := Kp.mk (And.intro q2 (And.intro q3 q4))
    clear hW0 hb0 z0 q2 q3 q4
    gi_wp2
    try simp only [World.size_alloc, hB]
    clear hB
    have hnn := HN2.out
    subst hnn
    have HTU : Kp (∀ ps : List (Nat × Nat × Value), (∀ p ∈ ps, p.1 < B) → Turns 0 B (Hd w ps)) := ⟨fun ps hp => Hd.turns (by have := HWZ.out; have := HS0.out; omega) fun p h => .inl (hp p h)⟩
    have HPL : Kp (∀ t : ByteArray, ∀ p ∈ ([(Z, 0, .int .i64 d), (Z + 1, 0, .string t), (Z + 2, 0, .int .i64 0)] : List (Nat × Nat × Value)), p.1 < B) := ⟨fun t p hp => by
      have := HS0.out
      simp only [List.mem_cons, List.not_mem_nil, or_false] at hp
      rcases hp with rfl | rfl | rfl <;> simp only <;> omega⟩
    have HSK : Kp (∀ k, SK g (B + 1) (B + 2) l.length k → k < B + 3 ∧ (k < Z ∨ B ≤ k)) := ⟨fun k hk => by
      have := HWZ.out
      have := HS0.out
      rcases hk with rfl | rfl | ⟨h0, o, hg⟩
      · omega
      · omega
      · have := HBK.out k o h0 hg
        omega⟩
    refine wpIn_yieldsS (k := 0) (enc := encI) (xs := ixL (fun x => eqS x.p s) l) rfl (by omega) (gf := 95) (lb := #[.pointer (some ⟨B, 0, none⟩), .pointer (some ⟨B + 1, 0, none⟩), .pointer (some ⟨B + 2, 0, none⟩)]) rfl trivial (enters_of Try.func95 (by kernel_rfl) rfl) (fun _ => rfl)
      (thoseS_yields 6 (by omega) B (B + 1) (B + 2) c 63 g (fun x => eqS x.p s) l s W0 (by have := HLN.out; omega) (enters_of Try.func63 (by kernel_rfl) rfl) ⟨fun W x _ => isOf_any x s W⟩ HQ4.out.1 HQ4.out.2.1 HQ4.out.2.2 HL0.out) Keep.trans (fun V o o' _ _ _ => Keep.putObj (by omega) (fun hk => by have := HS0.out; have := HSK.out _ hk; omega))
      (fun pre V => Hd w [(Z, 0, .int .i64 d), (Z + 1, 0, .string ⟨#[]⟩), (Z + 2, 0, .int .i64 0)] V ∧ Kp (NoneOut pre d))
      (fun cd ys V => cd = .ret ∧ ∃ pre x, ys = pre ++ [x] ∧ Kp (outB x.2 d = true) ∧ Hd w [(Z, 0, .int .i64 d), (Z + 1, 0, .string x.2.t), (Z + 2, 0, .int .i64 0)] V)
      (fun p => Turns.abides (C := B) (fun X Y row h gr hr => ⟨HTU.out _ (HPL.out _) X Y row h.1 gr hr, h.2⟩) (by have := HS0.out; omega))
      (fun cd ys => Turns.abides (C := B) (fun X Y row h gr hr => by
        obtain ⟨h0, pre, x, h1, h2, h3⟩ := h
        exact ⟨h0, pre, x, h1, h2, HTU.out _ (HPL.out _) X Y row h3 gr hr⟩) (by have := HS0.out; omega))
      ⟨HDW.out, ⟨fun y hy => by cases hy⟩⟩
      (fun pre x a' V => (Hd w [(Z, 0, .int .i64 d), (Z + 1, 0, .string ⟨#[]⟩), (Z + 2, 0, .int .i64 0)] V ∧ Kp (NoneOut pre d)) ∧ ∃ G, B + 5 ≤ G ∧ LAt V G 0 x.2 ∧ a' = { tmps := #[.slice g l.length c, .string s, .int .i64 d, undef, undef, .pointer (some ⟨Z, 0, none⟩), .pointer (some ⟨Z + 1, 0, none⟩), .pointer (some ⟨Z + 1 + 1, 0, none⟩), .int .i64 0, undef, .pointer (some ⟨G, 0, none⟩), .slice g l.length c, .string s, .bool true, .int .i64 d, .slice (some ⟨B15, 0, none⟩) 1 1, .bool true, .int .i64 0, .int .i64 0, .bool false, undef, .slice g l.length c, .string s, .func (.func 95) #[] #[.pointer (some ⟨B, 0, none⟩), .pointer (some ⟨B + 1, 0, none⟩), .pointer (some ⟨B + 2, 0, none⟩)], .int .i64 x.1, .agg #[.string x.2.p, .string x.2.t, .int .i64 x.2.out, .int .i64 x.2.due, .int .i64 x.2.back], undef, undef, undef, undef, undef], defers := [] })
      ?ax ?assign ?body ?done ?stop
    case ax =>
      rintro pre x a' X V row ⟨hi, G, hG, hx, ha⟩ g' hr
      exact ⟨⟨Turns.abides (C := B) (HTU.out _ (HPL.out _)) (by have := HS0.out; omega) X V row hi.1 g' hr, hi.2⟩, G, hG, lat_abide hx g' hr (by have := HS0.out; omega), ha⟩
    case assign =>
      rintro l2 pre ⟨xi, xp, xt, xo, xd, xb⟩ V ⟨hi, hpp⟩ _ hsz
      have HI := Kp.mk hi
      clear hi
      have ez : ((#[24, 25] : Array Tmp).zip (encI (xi, ⟨xp, xt, xo, xd, xb⟩))).foldl (fun tmps (q : Tmp × Value) => tmps.setIfInBounds q.1 q.2) #[.slice g l.length c, .string s, .int .i64 d, undef, undef, .pointer (some ⟨Z, 0, none⟩), .pointer (some ⟨Z + 1, 0, none⟩), .pointer (some ⟨Z + 1 + 1, 0, none⟩), .int .i64 0, undef, undef, .slice g l.length c, .string s, .bool true, .int .i64 d, .slice (some ⟨B15, 0, none⟩) 1 1, .bool true, .int .i64 0, .int .i64 0, .bool false, undef, .slice g l.length c, .string s, .func (.func 95) #[] #[.pointer (some ⟨B, 0, none⟩), .pointer (some ⟨B + 1, 0, none⟩), .pointer (some ⟨B + 2, 0, none⟩)], undef, undef, undef, undef, undef, undef, undef] = #[.slice g l.length c, .string s, .int .i64 d, undef, undef, .pointer (some ⟨Z, 0, none⟩), .pointer (some ⟨Z + 1, 0, none⟩), .pointer (some ⟨Z + 1 + 1, 0, none⟩), .int .i64 0, undef, undef, .slice g l.length c, .string s, .bool true, .int .i64 d, .slice (some ⟨B15, 0, none⟩) 1 1, .bool true, .int .i64 0, .int .i64 0, .bool false, undef, .slice g l.length c, .string s, .func (.func 95) #[] #[.pointer (some ⟨B, 0, none⟩), .pointer (some ⟨B + 1, 0, none⟩), .pointer (some ⟨B + 2, 0, none⟩)], .int .i64 xi, .agg #[.string xp, .string xt, .int .i64 xo, .int .i64 xd, .int .i64 xb], undef, undef, undef, undef, undef] := by simp [encI]
      rw [ez]
      clear ez
      gi_wp2
      have hzv : B + 5 ≤ V.heap.size := by have := HS0.out; omega
      have hbb : Below V.heap.size V (V.alloc (.cells #[.string xp, .string xt, .int .i64 xo, .int .i64 xd, .int .i64 xb] 62)) := (Below.refl _ _).alloc (Nat.le_refl _) _
      refine ⟨alloc_keeps _ _ _, Keep.below hbb (fun j hj => by have := HS0.out; have := HSK.out _ hj; omega), HI.out.on hbb, ?_⟩
      have hla : LAt (V.alloc (.cells #[.string xp, .string xt, .int .i64 xo, .int .i64 xd, .int .i64 xb] 62)) V.heap.size 0 ⟨xp, xt, xo, xd, xb⟩ := ⟨by go_simp, by go_simp, by go_simp, by go_simp, by go_simp⟩
      first
        | exact ⟨V.heap.size, hzv, hla, rfl⟩
        | exact ⟨hzv, hla, rfl⟩
        | exact ⟨hzv, hla⟩
    case body =>
      rintro l2 pre x a' V ⟨⟨hi, hpp⟩, G, hG, hgr, rfl⟩ hpre hsz
      have HI := Kp.mk hi
      have HGL : Kp (G < V.heap.size) := ⟨hgr.lt⟩
      have HQX : Kp (∀ W, Calls Try.prog 64 #[.agg #[.string x.2.p, .string x.2.t, .int .i64 x.2.out, .int .i64 x.2.due, .int .i64 x.2.back], .int .i64 d] W fun e w' => e = .returned (.bool (outB x.2 d)) ∧ Below W.heap.size W w') := ⟨fun W => isOut_any x.2 d W⟩
      have HSZ : Kp (W0.heap.size = B + 3 ∧ W0.heap.size + 2 ≤ V.heap.size ∧ Z + 2 < B) := ⟨HS0.out.1, by omega, HS0.out.2⟩
      obtain ⟨R, hR⟩ : ∃ R, outB x.2 d = R := ⟨_, rfl⟩
      have HRR := Kp.mk hR
      rw [hR] at HQX
      have HLX := Kp.mk hgr
      obtain ⟨xi, xp, xt, xo, xd, xb⟩ := x
      obtain ⟨c0, c1, c2, z1, z2⟩ := hd_cells3 hi
      obtain ⟨d0, d1, d2, d3, d4⟩ := hgr
      simp only [Nat.zero_add] at d0 d1 d2 d3 d4 HQX
      clear hi hR hpre hsz
      gi_wp2_with fail
      refine ⟨trivial, (CallsIn.inRound _ (callsIn_wide.2 (HQX.out _))).mono ?_⟩
      rintro en w9 ⟨rfl, hb9⟩
      have HB9 := Kp.mk hb9
      have HD9 := Kp.mk (HI.out.on hb9)
      obtain ⟨e0, e1, e2, y1, y2⟩ := hd_cells3 HD9.out
      obtain ⟨p0, p1, p2, p3, p4⟩ := HLX.out.on hb9
      simp only [Nat.zero_add] at p0 p1 p2 p3 p4
      clear hb9 c0 c1 c2 z1 z2 d0 d1 d2 d3 d4
      cases R with
      | true =>
        gi_wp2
        have hk1 := KeepsFrom.of_grownBy (B := W0.heap.size) (grown_below HB9.out none) (fun j e => by cases e)
        have hk2 := KeepsFrom.of_grownBy (B := W0.heap.size) (setCell_grown w9 (Z + 1) 0 (.string xt)) (fun j e => by cases e; have := HSZ.out; omega)
        have hk3 := KeepsFrom.of_grownBy (B := W0.heap.size) (setCell_grown (w9.setCell ⟨Z + 1, 0, none⟩ (.string xt)) (Z + 1 + 1) 0 (.int .i64 0)) (fun j e => by cases e; have := HSZ.out; omega)
        exact ⟨(hk1.trans hk2).trans hk3, rfl, pre, (xi, ⟨xp, xt, xo, xd, xb⟩), rfl, HRR, wh_store HD9.out (by have := HWZ.out; omega)⟩
      | false =>
        have hp2 : Kp (NoneOut (pre ++ [(xi, (⟨xp, xt, xo, xd, xb⟩ : Loan))]) d) := ⟨fun y hy => by
          rcases List.mem_append.1 hy with h1 | h1
          · exact hpp.out y h1
          · rw [List.mem_singleton.1 h1]; exact HRR.out⟩
        gi_wp2
        exact ⟨KeepsFrom.of_grownBy (grown_below HB9.out none) (fun j e => by cases e), Keep.below HB9.out (fun j hj => by have := HSK.out _ hj; have := HSZ.out; omega), HD9.out, hp2⟩
    case done =>
      rintro D V hD ⟨hi, hpp⟩ hd
      have hs1 := wh_store (b := ⟨#[]⟩) (m' := 0) hi (by have := HWZ.out; omega)
      have hd2 : ((V.setCell ⟨Z + 1, 0, none⟩ (.string ⟨#[]⟩)).setCell ⟨Z + 1 + 1, 0, none⟩ (.int .i64 0)).heap[D]? = some (.deferred (some [])) :=
        (Below.heap_setCell _ _ _ _ (by have := HS0.out; simp; omega)).trans ((Below.heap_setCell _ _ _ _ (by have := HS0.out; simp; omega)).trans hd)
      have g9 := HTU.out _ (HPL.out _) _ _ (some D) hs1 (grownBy_putObj' _ D (.deferred none)) (fun r e => by cases e; exact ⟨by have := HS0.out; omega, .inr ⟨_, hd2, rfl⟩⟩)
      have HG9 := Kp.mk g9
      have HD2 := Kp.mk hd2
      have HIS : Kp (WhIs l s d ⟨#[]⟩) := ⟨.inr ⟨ixL_all (p := fun x => outB x d = false) hpp.out, rfl⟩⟩
      obtain ⟨c0, c1, c2, z1, z2⟩ := hd_cells3 hi
      clear hi hs1 hd hd2 g9
      gi_wp2
      refine ⟨by simp, .inl ⟨_, _, rfl, run_takeDeferred HD2.out, ?_⟩⟩
      obtain ⟨-, e1, e2, -, -⟩ := hd_cells3 HG9.out
      exact ⟨.tuple #[.string ⟨#[]⟩, .int .i64 0], by simp [results, Try.results23, go_sem, e1, e2], _, rfl, HIS.out, HG9.out.below⟩
    case stop =>
      rintro D cd ys V hD hys ⟨rfl, pre, x, rfl, hx, hi⟩ hd
      have g9 := HTU.out _ (HPL.out _) _ _ (some D) hi (grownBy_putObj' _ D (.deferred none)) (fun r e => by cases e; exact ⟨by have := HS0.out; omega, .inr ⟨_, hd, rfl⟩⟩)
      have HG9 := Kp.mk g9
      have HD2 := Kp.mk hd
      have hxm := ixL_mem (hys.subset (show x ∈ pre ++ [x] by simp))
      have HIS : Kp (WhIs l s d x.2.t) := ⟨.inl ⟨x.2, hxm.1, hxm.2, hx.out, rfl⟩⟩
      clear hi hd g9 hxm
      gi_wp2
      refine ⟨by simp, .inl ⟨_, _, rfl, run_takeDeferred HD2.out, ?_⟩⟩
      obtain ⟨-, e1, e2, -, -⟩ := hd_cells3 HG9.out
      exact ⟨.tuple #[.string x.2.t, .int .i64 0], by simp [results, Try.results23, go_sem, e1, e2], _, rfl, HIS.out, HG9.out.below⟩
end Go.Proofs.Ytaofjomocefdkaa.Ln
