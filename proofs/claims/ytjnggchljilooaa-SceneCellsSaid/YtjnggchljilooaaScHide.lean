/-
  WALKS (layer 7, scene): the first cell that hides a point.
-/
import Derived.Test.YtjnggchljilooaaScLanes
import Derived.Test.YtjnggchljilooaaScQuiet
import Derived.Test.YtjnggchljilooaaScHideP
import Derived.WalkMore
namespace Go.Proofs.Ytjnggchljilooaa.Sc
open Go Go.RowKit Go.Sort
attribute [local go_sem] Oper.semAt_some

/-- What the walk keeps: the sight, the point's height, the answer so far. -/
def HC (Z : Nat) (wd dp : Int) (v : Value) (e : Ey) (h c r : Int) (b : Bool) : List (Nat × Nat × Value) := [(Z, 0, .int .i64 wd), (Z, 1, .int .i64 dp), (Z, 2, v), (Z, 3, .int .i64 e.x), (Z, 4, .int .i64 e.b), (Z, 5, .int .i64 e.h), (Z + 1, 0, .int .i64 h), (Z + 2, 0, .int .i64 c), (Z + 3, 0, .int .i64 r), (Z + 4, 0, .bool b)]
theorem HC.lt {Z : Nat} {wd dp : Int} {v : Value} {e : Ey} {h c r : Int} {b : Bool} : ∀ p ∈ HC Z wd dp v e h c r b, p.1 < Z + 5 := by
  intro p hp
  simp only [HC, List.mem_cons, List.not_mem_nil, or_false] at hp
  rcases hp with rfl | rfl | rfl | rfl | rfl | rfl | rfl | rfl | rfl | rfl <;> simp
/-- A crossing, laid. -/
structure CR (W : World) (G : Nat) (f l g a : Int) : Prop where
  c0 : W.cell? ⟨G, 0, none⟩ = some (.int .i64 f)
  c1 : W.cell? ⟨G, 1, none⟩ = some (.int .i64 l)
  c2 : W.cell? ⟨G, 2, none⟩ = some (.int .i64 g)
  c3 : W.cell? ⟨G, 3, none⟩ = some (.int .i64 a)
theorem CR.same {W V : World} {G : Nat} {f l g a : Int} (h : CR W G f l g a) (hb : V.heap[G]? = W.heap[G]?) : CR V G f l g a :=
  ⟨(World.cell?_of_block (a := ⟨G, _, none⟩) hb).trans h.c0, (World.cell?_of_block (a := ⟨G, _, none⟩) hb).trans h.c1, (World.cell?_of_block (a := ⟨G, _, none⟩) hb).trans h.c2, (World.cell?_of_block (a := ⟨G, _, none⟩) hb).trans h.c3⟩
theorem CR.lt {W : World} {G : Nat} {f l g a : Int} (h : CR W G f l g a) : G < W.heap.size := World.block_lt_of_cell? _ _ h.c0
theorem CR.on {W V : World} {G : Nat} {f l g a : Int} (h : CR W G f l g a) (hb : Below W.heap.size W V) : CR V G f l g a := h.same (hb.block _ h.lt)
theorem CR.abide {X Y : World} {U B k : Nat} {f l g a : Int} {row : Option Nat} (h : CR X U f l g a) (gr : X.grownBy Y row) (hr : ∀ r, row = some r → B ≤ r ∧ ((B + 2 ≤ r ∧ r < B + 2 + k) ∨ ∃ o : Obj, X.heap[r]? = some o ∧ o.isCells = false)) (hU : B + 2 + k ≤ U) : CR Y U f l g a := by
  refine h.same (gr.block U (World.block_lt_of_cell? _ _ h.c0) (fun e => ?_))
  obtain ⟨h1, h2 | ⟨p, hp, hc⟩⟩ := hr U e.symm
  · omega
  · rw [cells_of h.c0 p hp] at hc; cases hc
theorem hide_start {w W0 : World} {wd dp : Int} {v : Value} {e : Ey} {h x y : Int} {t1 t2 t3 t4 t5 t6 t7 t8 : TypeId}
    (h0 : ((((((((w.alloc (.cells #[.int .i64 wd, .int .i64 dp, v, .int .i64 e.x, .int .i64 e.b, .int .i64 e.h] t1)).alloc (.cells #[.int .i64 h] t2)).alloc (.cells #[.int .i64 0] t3)).alloc (.cells #[.int .i64 0] t4)).alloc (.cells #[.bool false] t5)).alloc (.cells #[.int .i64 wd, .int .i64 dp, v, .int .i64 e.x, .int .i64 e.b, .int .i64 e.h] t6)).alloc (.cells #[.int .i64 x] t7)).alloc (.cells #[.int .i64 y] t8)) = W0) :
    W0.heap.size = w.heap.size + 8 ∧ Hd w (HC w.heap.size wd dp v e h 0 0 false) W0 ∧ SG W0 (w.heap.size + 5) wd dp v e ∧ W0.cell? ⟨w.heap.size + 6, 0, none⟩ = some (.int .i64 x) ∧ W0.cell? ⟨w.heap.size + 7, 0, none⟩ = some (.int .i64 y) := by
  subst h0
  refine ⟨by simp, ⟨by repeat (first | exact Below.refl _ _ | refine Below.alloc ?_ (by simp <;> omega) _ | refine bDrewN ?_ _ | refine Below.drew ?_), fun p hp => ?_⟩, ⟨by go_simp, by go_simp, by go_simp, by go_simp, by go_simp, by go_simp⟩, by go_simp, by go_simp⟩
  simp only [HC, List.mem_cons, List.not_mem_nil, or_false] at hp
  rcases hp with rfl | rfl | rfl | rfl | rfl | rfl | rfl | rfl | rfl | rfl <;> exact ⟨by go_simp, by go_simp⟩
theorem HC.put {w W : World} {Z : Nat} {wd dp : Int} {v : Value} {e : Ey} {h c r c0 r0 : Int} {b0 b : Bool} (hZ : w.heap.size = Z) (k : Hd w (HC Z wd dp v e h c0 r0 b0) W) : Hd w (HC Z wd dp v e h c r b) (((W.setCell ⟨Z + 2, 0, none⟩ (.int .i64 c)).setCell ⟨Z + 3, 0, none⟩ (.int .i64 r)).setCell ⟨Z + 4, 0, none⟩ (.bool b)) := by
  refine ⟨((k.below.setCell (by simp only; omega) _).setCell (by simp only; omega) _).setCell (by simp only; omega) _, fun p hp => ?_⟩
  have H := k.cells
  simp only [HC, List.mem_cons, List.not_mem_nil, or_false, forall_eq_or_imp, forall_eq] at H hp
  obtain ⟨⟨h0, z0⟩, ⟨h1, z1⟩, ⟨h2, z2⟩, ⟨h3, z3⟩, ⟨h4, z4⟩, ⟨h5, z5⟩, ⟨h6, z6⟩, ⟨h7, z7⟩, ⟨h8, z8⟩, h9, z9⟩ := H
  rcases hp with rfl | rfl | rfl | rfl | rfl | rfl | rfl | rfl | rfl | rfl <;> exact ⟨by simp [go_sem, *], by simp [go_sem, *]⟩
theorem range_pre {pre : List Nat} {k y : Nat} (h : pre ++ [k] <+: List.range y) : k < y ∧ ∀ j : Nat, j < k → j ∈ pre := by
  have e := List.prefix_iff_eq_take.1 h
  rw [List.take_range, List.length_append, List.length_singleton] at e
  have hl := congrArg List.length e
  rw [List.length_append, List.length_singleton, List.length_range] at hl
  have hm : min (pre.length + 1) y = pre.length + 1 := hl.symm
  rw [hm, List.range_succ] at e
  obtain ⟨e1, e2⟩ := List.append_inj' e (by simp)
  have hk : k = pre.length := by simpa using e2
  subst hk
  refine ⟨by omega, fun j hj => ?_⟩
  rw [e1]
  exact List.mem_range.2 hj
/-- The answer of the walk. -/
def hidV (o : Option (Int × Int)) : Value := match o with
  | some (c, r) => .tuple #[.int .i64 c, .int .i64 r, .bool true]
  | none => .tuple #[.int .i64 0, .int .i64 0, .bool false]
set_option maxRecDepth 100000 in
set_option maxHeartbeats 1500000 in
theorem hider_any (wd dp : Int) (v : Value) (L : List Int) (e : Ey) (x : Int) (y : Nat) (h : Int) (w : World) (hv : IS w v L) (hg : gdB wd dp L = true) (he : eyB wd e = true) (hx : 0 ≤ x ∧ x ≤ wd - 1) (hy : (y : Int) ≤ dp - 1) (hh : 0 ≤ h ∧ h ≤ 3000) :
    Calls Try.prog 67 #[.agg #[.int .i64 wd, .int .i64 dp, v, .int .i64 e.x, .int .i64 e.b, .int .i64 e.h], .int .i64 x, .int .i64 y, .int .i64 h] w fun en w' => en = .returned (hidV (hid wd L e x y h)) ∧ Below w.heap.size w w' := by
  obtain ⟨gw, gd, gl, ga⟩ := gdB_iff hg
  obtain ⟨e1, e2, e3⟩ := eyB_iff.1 he
  have HBD : Kp (∀ r : Nat, r ≤ y → Bd e x y r) := ⟨fun r hr => ⟨⟨e1.1, by omega⟩, e2, e3, ⟨hx.1, by omega⟩, by omega, by omega, by omega⟩⟩
  have HLT : Kp (∀ r : Nat, r ≤ y → lst e x y r ≤ wd - 1) := ⟨fun r hr => lst_lt (HBD.out r hr) e1.2 hx.2⟩
  have HLN : Kp ((L.length : Int) = wd * dp ∧ L.length ≤ 576) := ⟨gl, by
    have : wd * dp ≤ 24 * 24 := Int.mul_le_mul gw.2 gd.2 (by omega) (by omega)
    omega⟩
  have HGA := Kp.mk ga
  have HIX : Kp (∀ (c : Int) (r : Nat), 0 ≤ c → c ≤ wd - 1 → r < y → ∃ i : Nat, c + wd * r = (i : Int) ∧ i < L.length) := ⟨fun c r h0 h1 hr => by
    have a1 : 0 ≤ wd * (r : Int) := Int.mul_nonneg (by omega) (by omega)
    have a2 : wd * (r : Int) + wd ≤ wd * dp := by
      have : wd * ((r : Int) + 1) ≤ wd * dp := Int.mul_le_mul_of_nonneg_left (by omega) (by omega)
      rwa [Int.mul_add, Int.mul_one] at this
    exact ⟨(c + wd * r).toNat, by omega, by omega⟩⟩
  have HP : Kp ((1 ≤ wd ∧ wd ≤ 24) ∧ (1 ≤ dp ∧ dp ≤ 24) ∧ (0 ≤ e.h ∧ e.h ≤ 2000) ∧ (0 ≤ h ∧ h ≤ 3000) ∧ (1 ≤ e.b ∧ e.b ≤ 100) ∧ (y : Int) ≤ 23) := ⟨gw, gd, e3, hh, e2, by omega⟩
  have HV := Kp.mk hv
  clear gw gd gl ga e1 e2 e3 hg he hx hy hh
  obtain ⟨g, c, rfl⟩ := hv.shape
  obtain ⟨ZL, hZL⟩ : ∃ N, L.length = N := ⟨_, rfl⟩
  have HZL := Kp.mk hZL
  rw [hZL] at HV HLN
  rw [hZL]
  clear hv hZL
  obtain ⟨ex, eb, eh⟩ := e
  refine (callsIn_wide (n := 7)).1 ?_
  refine callsIn_of_wp_marks Try.func67 rfl trivial ?_ rfl
  simp only [Try.ntmps67, List.size_toArray, List.length_cons, List.length_nil, Nat.reduceAdd, Nat.reduceSub, Array.replicate_succ, Array.replicate_zero, List.push_toArray, List.append_toArray, List.nil_append, List.cons_append]
  gi_wp2_with fail
  refine wpIn_wide.2 ?_
  apply wp_scope_straight
  refine (wpIn_wide (n := 7)).1 ?_
  gi_wp2_with fail
  apply wpIn_label
  gi_wp2_with fail
  refine ⟨trivial, (callsIn_wide.2 (rows_any wd dp (.slice g ZL c) ⟨ex, eb, eh⟩ x y _)).mono ?_⟩
  rintro en W0 ⟨rfl, hW0⟩
  obtain ⟨z0, d0, s0, x0, y0⟩ := hide_start (e := ⟨ex, eb, eh⟩) (wd := wd) (dp := dp) (v := .slice g ZL c) (h := h) (x := x) (y := (y : Int)) hW0
  have HZ0 := Kp.mk z0
  have HD0 := Kp.mk d0
  have HS0 := Kp.mk s0
  have HX0 := Kp.mk x0
  have HY0 := Kp.mk y0
  clear z0 d0 s0 x0 y0 hW0
  obtain ⟨Z, hZ⟩ : ∃ Z, w.heap.size = Z := ⟨_, rfl⟩
  have HZ := Kp.mk hZ
  rw [hZ] at HZ0 HD0 HS0 HX0 HY0
  gi_wp2
  try simp only [hZ]
  simp only [Nat.add_assoc, Nat.reduceAdd]
  clear hZ
  refine wpIn_yieldsS (k := 0) (enc := encR ⟨ex, eb, eh⟩ x y) (xs := List.range y) rfl (by omega) (gf := 80) (lb := #[.pointer (some ⟨Z + 7, 0, none⟩), .pointer (some ⟨Z + 5, 0, none⟩), .pointer (some ⟨Z + 6, 0, none⟩)]) rfl trivial (enters_of Try.func80 (by kernel_rfl) rfl) (fun _ => rfl)
    (rows_yields 6 (by omega) (Z + 7) (Z + 5) (Z + 6) wd dp (.slice g ZL c) ⟨ex, eb, eh⟩ x y W0 (fun r hr => HBD.out r (by omega)) HY0.out HS0.out HX0.out) Keep.trans (fun V o o' _ _ _ => Keep.putObj (by omega) (by have := HZ0.out; rintro (e | e | e) <;> omega))
    (fun pre V => Hd w (HC Z wd dp (.slice g ZL c) ⟨ex, eb, eh⟩ h 0 0 false) V ∧ ∀ r : Nat, r ∈ pre → hidC wd L ⟨ex, eb, eh⟩ x y h r = none)
    (fun cd ys V => cd = .exit 0 ∧ ∃ c0 r, Hd w (HC Z wd dp (.slice g ZL c) ⟨ex, eb, eh⟩ h c0 r true) V ∧ hid wd L ⟨ex, eb, eh⟩ x y h = some (c0, r))
    (fun q => Turns.abides (C := Z + 5) (fun X Y row hX gr hr => ⟨Hd.turns (k := 0) (B := Z + 5) (by have := HZ.out; omega) (fun p hp => .inl (HC.lt p hp)) X Y row hX.1 gr hr, hX.2⟩) (by have := HZ0.out; omega)) (fun cd q => Turns.abides (C := Z + 5) (fun X Y row hX gr hr => by
      obtain ⟨h1, c, r, h2, h3⟩ := hX
      exact ⟨h1, c, r, Hd.turns (k := 0) (B := Z + 5) (by have := HZ.out; omega) (fun p hp => .inl (HC.lt p hp)) X Y row h2 gr hr, h3⟩) (by have := HZ0.out; omega))
    ⟨HD0.out, fun r hr => by cases hr⟩
    (fun pre k a' V => (Hd w (HC Z wd dp (.slice g ZL c) ⟨ex, eb, eh⟩ h 0 0 false) V ∧ ∀ r : Nat, r ∈ pre → hidC wd L ⟨ex, eb, eh⟩ x y h r = none) ∧ ∃ G, Z + 10 ≤ G ∧ CR V G (fst ⟨ex, eb, eh⟩ x y k) (lst ⟨ex, eb, eh⟩ x y k) (k + eb) (y + eb) ∧ a' = { tmps := #[.agg #[.int .i64 wd, .int .i64 dp, .slice g ZL c, .int .i64 ex, .int .i64 eb, .int .i64 eh], .int .i64 x, .int .i64 (y : Int), .int .i64 h, .pointer (some ⟨Z, 0, none⟩), undef, undef, .pointer (some ⟨Z + 1, 0, none⟩), .pointer (some ⟨Z + 2, 0, none⟩), .pointer (some ⟨Z + 3, 0, none⟩), .pointer (some ⟨Z + 4, 0, none⟩), .int .i64 (k : Int), .pointer (some ⟨G, 0, none⟩), undef, .agg #[.int .i64 wd, .int .i64 dp, .slice g ZL c, .int .i64 ex, .int .i64 eb, .int .i64 eh], .int .i64 x, .int .i64 (y : Int), .func (.func 80) #[] #[.pointer (some ⟨Z + 7, 0, none⟩), .pointer (some ⟨Z + 5, 0, none⟩), .pointer (some ⟨Z + 6, 0, none⟩)], .int .i64 (k : Int), .agg #[.int .i64 (fst ⟨ex, eb, eh⟩ x y k), .int .i64 (lst ⟨ex, eb, eh⟩ x y k), .int .i64 (k + eb), .int .i64 (y + eb)], undef, undef, undef, undef, undef, undef, undef, undef, undef, undef, undef, undef, undef, undef, undef, undef, undef, undef, undef, undef, undef, undef, undef, undef, undef, undef, undef, undef, undef], defers := [] })
    ?ax ?assign ?body ?done ?stop
  case ax =>
    rintro pre k a' X V row ⟨⟨hi, hn⟩, G, hG, hx, ha⟩ gr hr
    exact ⟨⟨Turns.abides (C := Z + 5) (Hd.turns (k := 0) (B := Z + 5) (by have := HZ.out; omega) (fun p hp => .inl (HC.lt p hp))) (by have := HZ0.out; omega) X V row hi gr hr, hn⟩, G, hG, hx.abide gr hr (by have := HZ0.out; omega), ha⟩
  case assign =>
    rintro l2 pre k V ⟨hi, hn⟩ _ hsz
    have HI := Kp.mk hi
    have HN := Kp.mk hn
    obtain ⟨F, hF⟩ : ∃ F, fst ⟨ex, eb, eh⟩ x y k = F := ⟨_, rfl⟩
    obtain ⟨T, hT⟩ : ∃ F, lst ⟨ex, eb, eh⟩ x y k = F := ⟨_, rfl⟩
    clear hi hn
    have ez : ((#[18, 19] : Array Tmp).zip (encR ⟨ex, eb, eh⟩ x y k)).foldl (fun tmps (q : Tmp × Value) => tmps.setIfInBounds q.1 q.2) #[.agg #[.int .i64 wd, .int .i64 dp, .slice g ZL c, .int .i64 ex, .int .i64 eb, .int .i64 eh], .int .i64 x, .int .i64 (y : Int), .int .i64 h, .pointer (some ⟨Z, 0, none⟩), undef, undef, .pointer (some ⟨Z + 1, 0, none⟩), .pointer (some ⟨Z + 2, 0, none⟩), .pointer (some ⟨Z + 3, 0, none⟩), .pointer (some ⟨Z + 4, 0, none⟩), undef, undef, undef, .agg #[.int .i64 wd, .int .i64 dp, .slice g ZL c, .int .i64 ex, .int .i64 eb, .int .i64 eh], .int .i64 x, .int .i64 (y : Int), .func (.func 80) #[] #[.pointer (some ⟨Z + 7, 0, none⟩), .pointer (some ⟨Z + 5, 0, none⟩), .pointer (some ⟨Z + 6, 0, none⟩)], undef, undef, undef, undef, undef, undef, undef, undef, undef, undef, undef, undef, undef, undef, undef, undef, undef, undef, undef, undef, undef, undef, undef, undef, undef, undef, undef, undef, undef, undef, undef] = #[.agg #[.int .i64 wd, .int .i64 dp, .slice g ZL c, .int .i64 ex, .int .i64 eb, .int .i64 eh], .int .i64 x, .int .i64 (y : Int), .int .i64 h, .pointer (some ⟨Z, 0, none⟩), undef, undef, .pointer (some ⟨Z + 1, 0, none⟩), .pointer (some ⟨Z + 2, 0, none⟩), .pointer (some ⟨Z + 3, 0, none⟩), .pointer (some ⟨Z + 4, 0, none⟩), undef, undef, undef, .agg #[.int .i64 wd, .int .i64 dp, .slice g ZL c, .int .i64 ex, .int .i64 eb, .int .i64 eh], .int .i64 x, .int .i64 (y : Int), .func (.func 80) #[] #[.pointer (some ⟨Z + 7, 0, none⟩), .pointer (some ⟨Z + 5, 0, none⟩), .pointer (some ⟨Z + 6, 0, none⟩)], .int .i64 (k : Int), .agg #[.int .i64 F, .int .i64 T, .int .i64 (k + eb), .int .i64 (y + eb)], undef, undef, undef, undef, undef, undef, undef, undef, undef, undef, undef, undef, undef, undef, undef, undef, undef, undef, undef, undef, undef, undef, undef, undef, undef, undef, undef, undef, undef] := by simp [encR, hF, hT]
    rw [ez, hF, hT]
    clear ez hF hT
    gi_wp2
    have hzv : Z + 10 ≤ V.heap.size := by have := HZ0.out; omega
    have hbb : Below V.heap.size V (V.alloc (.cells #[.int .i64 F, .int .i64 T, .int .i64 (k + eb), .int .i64 (y + eb)] 83)) := (Below.refl _ _).alloc (Nat.le_refl _) _
    exact ⟨alloc_keeps _ _ _, Keep.below hbb (fun j hj => by have := HZ0.out; rcases hj with rfl | rfl | rfl <;> omega), ⟨HI.out.on hbb, HN.out⟩, V.heap.size, hzv, ⟨by go_simp, by go_simp, by go_simp, by go_simp⟩, rfl⟩
  case body =>
    rintro l2 pre k a' V ⟨⟨hi, hn⟩, G, hG, hcr, rfl⟩ hpre hsz
    obtain ⟨hky, hjp⟩ := range_pre hpre
    have hcb := cross_bd (HBD.out k (by omega))
    have hlt := HLT.out k (by omega)
    have HNO : Kp (∀ j : Nat, j < k → hidC wd L ⟨ex, eb, eh⟩ x y h j = none) := ⟨fun j hj => hn j (hjp j hj)⟩
    have HIXk : Kp (∀ c : Int, 0 ≤ c → c ≤ wd - 1 → ∃ i : Nat, c + wd * (k : Int) = (i : Int) ∧ i < L.length) := ⟨fun c h0 h1 => HIX.out c k h0 h1 hky⟩
    have HCL : Kp (∀ i : Nat, i < (lst ⟨ex, eb, eh⟩ x y k - fst ⟨ex, eb, eh⟩ x y k + 1).toNat → (colL ⟨ex, eb, eh⟩ x y k)[i]? = some (fst ⟨ex, eb, eh⟩ x y k + (i : Int))) := ⟨fun i hi => colL_at hi⟩
    have HCN := Kp.mk (colL_len ⟨ex, eb, eh⟩ x y k)
    have HHC : Kp (hidC wd L ⟨ex, eb, eh⟩ x y h k = (colL ⟨ex, eb, eh⟩ x y k).find? fun c => undB ⟨ex, eb, eh⟩ y h (gAt wd L c k) k) := ⟨rfl⟩
    have HUN : Kp (∀ g : Int, undB ⟨ex, eb, eh⟩ y h g k = decide ((h - eh) * (k + eb) < (g - eh) * (y + eb))) := ⟨fun _ => rfl⟩
    obtain ⟨cl, hcl⟩ : ∃ l, colL ⟨ex, eb, eh⟩ x y k = l := ⟨_, rfl⟩
    obtain ⟨p, hp⟩ : ∃ p : Int → Bool, (fun c => undB ⟨ex, eb, eh⟩ y h (gAt wd L c k) k) = p := ⟨_, rfl⟩
    have HPE : Kp (∀ c, p c = undB ⟨ex, eb, eh⟩ y h (gAt wd L c k) k) := ⟨fun c => by rw [← hp]⟩
    obtain ⟨F, hF⟩ : ∃ F, fst ⟨ex, eb, eh⟩ x y k = F := ⟨_, rfl⟩
    obtain ⟨T, hT⟩ : ∃ F, lst ⟨ex, eb, eh⟩ x y k = F := ⟨_, rfl⟩
    rw [hcl, hp] at HHC
    rw [hcl] at HCL HCN
    rw [hF, hT] at hcb hcr HCL HCN
    rw [hT] at hlt
    have HFT : Kp ((0 ≤ F ∧ F ≤ T ∧ T ≤ 23) ∧ T ≤ wd - 1 ∧ k ≤ 23) := ⟨hcb, hlt, by have := HP.out; omega⟩
    have HI := Kp.mk hi
    have HN := Kp.mk hn
    have HCR := Kp.mk hcr
    have HKY := Kp.mk hky
    have HSZ : Kp (W0.heap.size + 2 ≤ V.heap.size ∧ Z + 10 ≤ G) := ⟨by omega, hG⟩
    obtain ⟨c0, c1, c2, c3⟩ := hcr
    rw [hF, hT]
    clear hi hn hpre hcb hlt hjp hky hG hcl hp hF hT
    gi_wp2
    gi_loopw [13] (fun a wr => ∃ i : Nat, (i : Int) ≤ T - F + 1 ∧ a = .int .i64 (F + i) ∧ Kp (Hd w (HC Z wd dp (.slice g ZL c) ⟨ex, eb, eh⟩ h 0 0 false) wr) ∧ Kp (CR wr G F T (k + eb) (y + eb)) ∧ Kp (KeepsFrom W0.heap.size V wr ∧ Keep (SK (Z + 7) (Z + 5) (Z + 6)) 0 (W0.heap.size + 2) V wr ∧ V.heap.size ≤ wr.heap.size) ∧ Kp ((cl.take i).find? p = none)) (fun a _ => (T + 1 - intOf a).toNat)
    case atStart => exact ⟨0, by have := HFT.out; omega, by simp, HI, HCR, ⟨KeepsFrom.refl _ _, Keep.refl _ _ _ _, Nat.le_refl _⟩, ⟨by simp⟩⟩
    case round =>
      obtain ⟨i, hi, rfl, HI, HCR, HKV, HNF⟩ := hrel
      obtain ⟨c0, c1, c2, c3⟩ := HCR.out
      by_cases hlt : F + (i : Int) ≤ T
      · obtain ⟨j, hj, hjl⟩ := HIXk.out (F + i) (by have := HFT.out; omega) (by have := HFT.out; omega)
        obtain ⟨gv, hgv⟩ : ∃ x, L[j]? = some x := ⟨_, List.getElem?_eq_getElem hjl⟩
        have hgb := allIn_at HGA.out hgv
        obtain ⟨g', c', e', -, hic⟩ := HV.out.below HI.out.below
        obtain ⟨b, o, hg, hcell⟩ := hic j gv hgv
        simp only [Value.slice.injEq] at e'
        obtain ⟨rfl, -, -⟩ := e'
        subst hg
        have HC10 := HI.out.cells
        simp only [HC, List.mem_cons, List.not_mem_nil, or_false, forall_eq_or_imp, forall_eq] at HC10
        obtain ⟨⟨s0, -⟩, ⟨s1, -⟩, ⟨s2, -⟩, ⟨s3, -⟩, ⟨s4, -⟩, ⟨s5, -⟩, ⟨s6, -⟩, ⟨s7, q7⟩, ⟨s8, q8⟩, s9, q9⟩ := HC10
        have o1 : F + (i : Int) ≤ T := hlt
        have o2 : (j : Int) < (ZL : Int) := by have := HZL.out; omega
        have o3 : i ≤ 30 := by have := HFT.out; omega
        have e1 : IntKind.i64.wrap (F + (i : Int) + 1) = F + (i : Int) + 1 := IntWalk.i64_in _ (by have := HFT.out; omega)
        have HCA : Kp (∀ d os, Calls Try.prog 48 #[.agg #[.int .i64 wd, .int .i64 dp, .slice (some ⟨b, o, none⟩) ZL c], .int .i64 (F + i), .int .i64 k] (grow (redrawn wr d) os) fun e w' => e = .returned (.int .i64 (j : Int)) ∧ Below (grow (redrawn wr d) os).heap.size (grow (redrawn wr d) os) w') := ⟨fun d os => by
          rw [← hj]
          have h1 := HP.out
          have h2 := HFT.out
          exact cellAt_any wd dp _ (F + i) k _ (by omega) (by omega) (by omega) (by omega) (by omega) (by omega)⟩
        have hga : gAt wd L (F + i) k = gv := by
          unfold gAt
          rw [hj, Int.toNat_natCast, List.getD_eq_getElem?_getD, hgv]
          rfl
        have HPC : Kp (p (F + i) = undB ⟨ex, eb, eh⟩ y h gv k) := ⟨by rw [HPE.out, hga]⟩
        obtain ⟨R, hR⟩ : ∃ R, undB ⟨ex, eb, eh⟩ y h gv k = R := ⟨_, rfl⟩
        have HUK : Kp (∀ d os, Calls Try.prog 79 #[.agg #[.int .i64 F, .int .i64 T, .int .i64 (k + eb), .int .i64 (y + eb)], .int .i64 gv, .int .i64 eh, .int .i64 h] (grow (redrawn wr d) os) fun e w' => e = .returned (.bool R) ∧ Below (grow (redrawn wr d) os).heap.size (grow (redrawn wr d) os) w') := ⟨fun d os => by
          rw [← hR, HUN.out]
          have h1 := HP.out
          have h2 := HFT.out
          exact isUnder_any F T (k + eb) (y + eb) gv eh h _ ⟨by omega, by omega, by omega, by omega⟩⟩
        rw [hR] at HPC
        have HST := Kp.mk (find_step (p := p) (HCL.out i (by omega)) HNF.out)
        rw [HPC.out] at HST
        have rg_c0 := fun d os => cell_regrown c0 d os
        have rg_c1 := fun d os => cell_regrown c1 d os
        have rg_c2 := fun d os => cell_regrown c2 d os
        have rg_c3 := fun d os => cell_regrown c3 d os
        have rg_s0 := fun d os => cell_regrown s0 d os
        have rg_s1 := fun d os => cell_regrown s1 d os
        have rg_s2 := fun d os => cell_regrown s2 d os
        have rg_s3 := fun d os => cell_regrown s3 d os
        have rg_s4 := fun d os => cell_regrown s4 d os
        have rg_s5 := fun d os => cell_regrown s5 d os
        have rg_s6 := fun d os => cell_regrown s6 d os
        have rg_hcell := fun d os => cell_regrown hcell d os
        clear hi hj hjl hgv hgb hic hga hR HNF HPE HPC HUN
        gi_wp2
        refine regionIn_quiet_round (by kernel_rfl) (by kernel_rfl) (by kernel_rfl) ?_
        repeat (any_goals (first | go_big_quiet_step (first | (with_reducible exact Calls.regrown_of (HCA.out _ _)) | (with_reducible exact Calls.regrown_of (HUK.out _ _))) | quiet_step (first | (with_reducible exact Calls.regrown_of (HCA.out _ _)) | (with_reducible exact Calls.regrown_of (HUK.out _ _)))))
        refine wpQuiet_nil ?_
        intro _ hqw
        obtain ⟨⟨dq, osq⟩, hqv⟩ := hqw
        subst hqv
        obtain ⟨wq, hqwq⟩ : ∃ wq, grow (redrawn (wr) dq) osq = wq := ⟨_, rfl⟩
        have hbwq : Below (wr).heap.size (wr) wq := by rw [← hqwq]; exact below_regrown _ dq osq
        rw [hqwq]
        clear hqwq
        have HIQ := Kp.mk (HI.out.on hbwq)
        have HCRQ := Kp.mk (HCR.out.on hbwq)
        have HKQ : Kp (KeepsFrom W0.heap.size V wq ∧ Keep (SK (Z + 7) (Z + 5) (Z + 6)) 0 (W0.heap.size + 2) V wq ∧ V.heap.size ≤ wq.heap.size) := ⟨HKV.out.1.trans (KeepsFrom.of_grownBy (grown_below hbwq none) (fun j e => by cases e)), HKV.out.2.1.trans (Keep.below hbwq (fun j hj => by have := HSZ.out; have := HKV.out; have := HZ0.out; rcases hj with rfl | rfl | rfl <;> omega)), Nat.le_trans HKV.out.2.2 hbwq.size⟩
        have HC11 := HIQ.out.cells
        simp only [HC, List.mem_cons, List.not_mem_nil, or_false, forall_eq_or_imp, forall_eq] at HC11
        obtain ⟨-, -, -, -, -, -, -, ⟨t7, u7⟩, ⟨t8, u8⟩, t9, u9⟩ := HC11
        clear c0 c1 c2 c3 s0 s1 s2 s3 s4 s5 s6 s7 s8 s9 q7 q8 q9 hcell rg_c0 rg_c1 rg_c2 rg_c3 rg_s0 rg_s1 rg_s2 rg_s3 rg_s4 rg_s5 rg_s6 rg_hcell hbwq HCA HUK
        cases R with
        | true =>
          have HW3 : Kp (Hd w (HC Z wd dp (.slice (some ⟨b, o, none⟩) ZL c) ⟨ex, eb, eh⟩ h (F + i) k true) (((wq.setCell ⟨Z + 2, 0, none⟩ (.int .i64 (F + i))).setCell ⟨Z + 3, 0, none⟩ (.int .i64 k)).setCell ⟨Z + 4, 0, none⟩ (.bool true))) := ⟨HC.put HZ.out HIQ.out⟩
          have HKF : Kp (KeepsFrom W0.heap.size V (((wq.setCell ⟨Z + 2, 0, none⟩ (.int .i64 (F + i))).setCell ⟨Z + 3, 0, none⟩ (.int .i64 k)).setCell ⟨Z + 4, 0, none⟩ (.bool true))) := ⟨((HKQ.out.1.trans (KeepsFrom.of_grownBy (setCell_grown _ _ _ _) (fun j e => by cases e; have := HZ0.out; omega))).trans (KeepsFrom.of_grownBy (setCell_grown _ _ _ _) (fun j e => by cases e; have := HZ0.out; omega))).trans (KeepsFrom.of_grownBy (setCell_grown _ _ _ _) (fun j e => by cases e; have := HZ0.out; omega))⟩
          have HHID : Kp (hid wd L ⟨ex, eb, eh⟩ x y h = some (F + i, (k : Int))) := ⟨hid_some HKY.out HNO.out (by rw [HHC.out]; exact find_all (k := i + 1) (by rw [HST.out]; rfl))⟩
          clear HST
          gi_wp2
          exact ⟨HKF.out, rfl, _, _, HW3.out, HHID.out⟩
        | false =>
          have HN2 : Kp ((cl.take (i + 1)).find? p = none) := ⟨by rw [HST.out]; rfl⟩
          clear HST
          gi_wp2
          go_roundw
          case rel => exact ⟨i + 1, by omega, by rw [Int.natCast_add, Int.natCast_one, ← Int.add_assoc], HIQ, HCRQ, HKQ, HN2⟩
          case measure => simp [intOf]; omega
      · have hik : i = (T - F + 1).toNat := by omega
        have HNX : Kp (∀ r : Nat, r ∈ pre ++ [k] → hidC wd L ⟨ex, eb, eh⟩ x y h r = none) := ⟨fun r hr => by
          rcases List.mem_append.1 hr with hr | hr
          · exact HN.out r hr
          · rw [List.mem_singleton.1 hr, HHC.out]
            have := HNF.out
            rwa [List.take_of_length_le (by rw [HCN.out]; omega)] at this⟩
        have o1 : ¬ F + (i : Int) ≤ T := hlt
        clear hik hlt hi
        gi_wp2
        exact ⟨HKV.out.1, HKV.out.2.1, HI.out, HNX.out⟩
  case done =>
    rintro D V hD ⟨hi, hn⟩ hd
    have HHID : Kp (hid wd L ⟨ex, eb, eh⟩ x y h = none) := ⟨hid_none fun r hr => hn r (List.mem_range.2 hr)⟩
    clear hn
    have hgb := grownBy_putObj' V D (.deferred none)
    have HC11 := hi.cells
    simp only [HC, List.mem_cons, List.not_mem_nil, or_false, forall_eq_or_imp, forall_eq] at HC11
    obtain ⟨-, -, -, -, -, -, -, ⟨t7, u7⟩, ⟨t8, u8⟩, t9, u9⟩ := HC11
    have hi9 : Hd w (HC Z wd dp (.slice g ZL c) ⟨ex, eb, eh⟩ h 0 0 false) (((V.setCell ⟨Z + 2, 0, none⟩ (.int .i64 0)).setCell ⟨Z + 3, 0, none⟩ (.int .i64 0)).setCell ⟨Z + 4, 0, none⟩ (.bool false)).drew := (HC.put HZ.out hi).on (Below.drew (Below.refl _ _))
    have hd9 : (((V.setCell ⟨Z + 2, 0, none⟩ (.int .i64 0)).setCell ⟨Z + 3, 0, none⟩ (.int .i64 0)).setCell ⟨Z + 4, 0, none⟩ (.bool false)).drew.heap[D]? = some (.deferred (some [])) := by
      have hz := HZ0.out
      show (((V.setCell ⟨Z + 2, 0, none⟩ (.int .i64 0)).setCell ⟨Z + 3, 0, none⟩ (.int .i64 0)).setCell ⟨Z + 4, 0, none⟩ (.bool false)).heap[D]? = _
      rw [Below.heap_setCell _ _ _ _ (by simp only; omega), Below.heap_setCell _ _ _ _ (by simp only; omega), Below.heap_setCell _ _ _ _ (by simp only; omega)]
      exact hd
    have HI9 := Kp.mk hi9
    have HD9 := Kp.mk hd9
    clear hi hd hgb hi9 hd9
    gi_wp2
    gi_region
    all_goals
      gi_wp2
      simp only [Exit.noGoto_ret]
      obtain ⟨W9, hW9⟩ : ∃ W9, (((V.setCell ⟨Z + 2, 0, none⟩ (.int .i64 0)).setCell ⟨Z + 3, 0, none⟩ (.int .i64 0)).setCell ⟨Z + 4, 0, none⟩ (.bool false)).drew = W9 := ⟨_, rfl⟩
      rw [hW9] at HI9 HD9 ⊢
      clear hW9 t7 t8 t9 u7 u8 u9
      have hi2 := Hd.turns (k := 0) (B := Z + 5) (by have := HZ.out; omega) (fun p hp => .inl (HC.lt p hp)) _ _ (some D) HI9.out (grownBy_putObj' W9 D (.deferred none)) (fun r e => by cases e; exact ⟨by have := HZ0.out; omega, .inr ⟨_, HD9.out, rfl⟩⟩)
      have HC12 := hi2.cells
      simp only [HC, List.mem_cons, List.not_mem_nil, or_false, forall_eq_or_imp, forall_eq] at HC12
      obtain ⟨-, -, -, -, -, -, -, ⟨t7, -⟩, ⟨t8, -⟩, t9, -⟩ := HC12
      refine ⟨by simp, .inl ⟨_, _, rfl, run_takeDeferred HD9.out, ?_⟩⟩
      exact ⟨.tuple #[.int .i64 0, .int .i64 0, .bool false], by simp [results, Try.results67, go_sem, t7, t8, t9], by rw [HHID.out]; rfl, hi2.below⟩
  case stop =>
    rintro D cd ys V hD hys ⟨rfl, c0, r, hi, hh⟩ hd
    have HHID := Kp.mk hh
    clear hh
    have hgb := grownBy_putObj' V D (.deferred none)
    have HC11 := hi.cells
    simp only [HC, List.mem_cons, List.not_mem_nil, or_false, forall_eq_or_imp, forall_eq] at HC11
    obtain ⟨-, -, -, -, -, -, -, ⟨t7, u7⟩, ⟨t8, u8⟩, t9, u9⟩ := HC11
    have hi9 : Hd w (HC Z wd dp (.slice g ZL c) ⟨ex, eb, eh⟩ h c0 r true) (((V.setCell ⟨Z + 2, 0, none⟩ (.int .i64 c0)).setCell ⟨Z + 3, 0, none⟩ (.int .i64 r)).setCell ⟨Z + 4, 0, none⟩ (.bool true)).drew := (HC.put HZ.out hi).on (Below.drew (Below.refl _ _))
    have hd9 : (((V.setCell ⟨Z + 2, 0, none⟩ (.int .i64 c0)).setCell ⟨Z + 3, 0, none⟩ (.int .i64 r)).setCell ⟨Z + 4, 0, none⟩ (.bool true)).drew.heap[D]? = some (.deferred (some [])) := by
      have hz := HZ0.out
      show (((V.setCell ⟨Z + 2, 0, none⟩ (.int .i64 c0)).setCell ⟨Z + 3, 0, none⟩ (.int .i64 r)).setCell ⟨Z + 4, 0, none⟩ (.bool true)).heap[D]? = _
      rw [Below.heap_setCell _ _ _ _ (by simp only; omega), Below.heap_setCell _ _ _ _ (by simp only; omega), Below.heap_setCell _ _ _ _ (by simp only; omega)]
      exact hd
    have HI9 := Kp.mk hi9
    have HD9 := Kp.mk hd9
    clear hi hd hgb hi9 hd9
    gi_wp2
    gi_region
    all_goals
      gi_wp2
      simp only [Exit.noGoto_ret]
      obtain ⟨W9, hW9⟩ : ∃ W9, (((V.setCell ⟨Z + 2, 0, none⟩ (.int .i64 c0)).setCell ⟨Z + 3, 0, none⟩ (.int .i64 r)).setCell ⟨Z + 4, 0, none⟩ (.bool true)).drew = W9 := ⟨_, rfl⟩
      rw [hW9] at HI9 HD9 ⊢
      clear hW9 t7 t8 t9 u7 u8 u9
      have hi2 := Hd.turns (k := 0) (B := Z + 5) (by have := HZ.out; omega) (fun p hp => .inl (HC.lt p hp)) _ _ (some D) HI9.out (grownBy_putObj' W9 D (.deferred none)) (fun r e => by cases e; exact ⟨by have := HZ0.out; omega, .inr ⟨_, HD9.out, rfl⟩⟩)
      have HC12 := hi2.cells
      simp only [HC, List.mem_cons, List.not_mem_nil, or_false, forall_eq_or_imp, forall_eq] at HC12
      obtain ⟨-, -, -, -, -, -, -, ⟨t7, -⟩, ⟨t8, -⟩, t9, -⟩ := HC12
      refine ⟨by simp, .inl ⟨_, _, rfl, run_takeDeferred HD9.out, ?_⟩⟩
      exact ⟨.tuple #[.int .i64 c0, .int .i64 r, .bool true], by simp [results, Try.results67, go_sem, t7, t8, t9], by rw [HHID.out]; rfl, hi2.below⟩
end Go.Proofs.Ytjnggchljilooaa.Sc
