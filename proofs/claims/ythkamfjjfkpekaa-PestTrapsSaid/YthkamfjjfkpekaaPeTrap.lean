/-
  WALKS (layer 8, pest): rows of traps; areTraps and fits of the program.
-/
import Derived.Test.YthkamfjjfkpekaaPeOn
import Derived.Test.YthkamfjjfkpekaaPeDayA
namespace Go.Proofs.Ythkamfjjfkpekaa.Pe
open Go Go.RowKit Go.Proofs Go.Sort

/-- A trap. -/
structure Tp where
  room : Int
  day : Int
  found : Bool
deriving Inhabited
/-- A slice reads as traps. -/
def TS (w : World) (v : Value) (ts : List Tp) : Prop :=
  ∃ g cap, v = .slice g ts.length cap ∧ ∀ i d, ts[i]? = some d → ∃ b o, g = some ⟨b, o, none⟩ ∧ w.cell? ⟨b, o + i * 3, none⟩ = some (.int .i64 d.room) ∧ w.cell? ⟨b, o + i * 3 + 1, none⟩ = some (.int .i64 d.day) ∧ w.cell? ⟨b, o + i * 3 + 2, none⟩ = some (.bool d.found)
theorem TS.below {w w' : World} {v : Value} {ts : List Tp} (h : TS w v ts) (hb : Below w.heap.size w w') : TS w' v ts := by
  obtain ⟨g, cap, hv, hc⟩ := h
  refine ⟨g, cap, hv, fun i d hd => ?_⟩
  obtain ⟨b, o, hg, h1, h2, h3⟩ := hc i d hd
  have hbl : b < w.heap.size := World.block_lt_of_cell? w _ h1
  exact ⟨b, o, hg, (hb.cell (p := ⟨b, o + i * 3, none⟩) hbl).trans h1, (hb.cell (p := ⟨b, o + i * 3 + 1, none⟩) hbl).trans h2, (hb.cell (p := ⟨b, o + i * 3 + 2, none⟩) hbl).trans h3⟩
theorem TS.shape {w : World} {v : Value} {ts : List Tp} (h : TS w v ts) : ∃ g c, v = .slice g ts.length c := by
  obtain ⟨g, c, e, -⟩ := h; exact ⟨g, c, e⟩
def encT (d : Tp) : List Value := [.int .i64 d.room, .int .i64 d.day, .bool d.found]
theorem anyT_nil (g : Option Addr) (c : Nat) (F : Value) (w : World) : Calls Try.prog 100 #[.slice g 0 c, F] w fun e w' => e = .returned (.bool false) ∧ Below w.heap.size w w' := by
  have HI : Kp (∀ W, Calls Try.prog 111 #[.slice g 0 c, F] W fun e w' => e = .returned (.int .i64 (-1)) ∧ Below W.heap.size W w') := ⟨fun W => by
    go_enter Try.func111, Try.ntmps111
    go_wp2
    refine wp_loop_rounds 2 ?_
    rw [rounds_succ]
    go_wp2
    go_ret
    exact ⟨rfl, Below.refl _ _⟩⟩
  go_enter Try.func100, Try.ntmps100
  go_wp2_with fail
  refine (HI.out _).mono ?_
  rintro en w1 ⟨rfl, hb⟩
  go_wp2
  go_ret
  exact ⟨rfl, hb⟩
theorem anyT_any (v : Value) (ds : List Tp) (p : Tp → Bool) (f : FuncId) (lb : Array Value) (w : World) (eg : ∀ args w, (callFunc f args).run Try.prog w = .ok (.enter f args) w) (hv : TS w v ds) (hl : ds.length ≤ 9223372036854775807)
    (hp : ∀ (W : World) (d : Tp), Below w.heap.size w W → Calls Try.prog f (#[.agg #[.int .i64 d.room, .int .i64 d.day, .bool d.found]] ++ lb) W fun e w' => e = .returned (.bool (p d)) ∧ Below w.heap.size w w') :
    Calls Try.prog 100 #[v, .func (.func f) #[] lb] w fun e w' => e = .returned (.bool (ds.any p)) ∧ Below w.heap.size w w' := by
  obtain ⟨g, c, rfl, hc⟩ := hv
  cases ds with
  | nil => exact anyT_nil g c _ w
  | cons d0 ds =>
    obtain ⟨b, o, rfl, h1, -, -⟩ := hc 0 d0 rfl
    have h := AnyQ.slices_ContainsFunc Try.contT 3 Try.isAgg53 Try.sizeOf53 encT (fun _ => rfl) p f lb eg b o (d0 :: ds).length c (d0 :: ds) w (fun W x hW => hp W x hW) (Nat.le_refl _) hl (World.block_lt_of_cell? w _ h1) (fun j hj i u hu => by
      have hx : (d0 :: ds)[j]? = some (d0 :: ds)[j]! := by rw [List.getElem?_eq_getElem hj, List.getElem!_eq_getElem?_getD, List.getElem?_eq_getElem hj]; rfl
      obtain ⟨y, hy⟩ : ∃ y, (d0 :: ds)[j]! = y := ⟨_, rfl⟩
      rw [hy] at hx hu
      obtain ⟨b2, o2, hg, k1, k2, k3⟩ := hc j _ hx
      simp only [Option.some.injEq, Addr.mk.injEq, and_true] at hg
      obtain ⟨rfl, rfl⟩ := hg
      unfold encT at hu
      match i, hu with
      | 0, hu => simp at hu; subst hu; exact k1
      | 1, hu => simp at hu; subst hu; exact k2
      | 2, hu => simp at hu; subst hu; exact k3
      | i + 3, hu => simp at hu)
    rw [List.take_of_length_le (Nat.le_refl _)] at h
    exact h
theorem sub_list {P : Tp → Prop} : ∀ ts : List Tp, (∀ t ∈ ts, P t) → ∃ zs : List {t // P t}, zs.map Subtype.val = ts
  | [], _ => ⟨[], rfl⟩
  | t :: ts, h => by
    obtain ⟨zs, hz⟩ := sub_list ts (fun t ht => h t (List.mem_cons_of_mem _ ht))
    exact ⟨⟨t, h t (List.mem_cons_self ..)⟩ :: zs, by rw [List.map_cons, hz]⟩
theorem anyT_ok (v : Value) (ds : List Tp) (p : Tp → Bool) (f : FuncId) (lb : Array Value) (w : World) (eg : ∀ args w, (callFunc f args).run Try.prog w = .ok (.enter f args) w) (hv : TS w v ds) (hl : ds.length ≤ 9223372036854775807) (P : Tp → Prop) (hP : ∀ t ∈ ds, P t)
    (hp : ∀ (W : World) (d : Tp), Below w.heap.size w W → P d → Calls Try.prog f (#[.agg #[.int .i64 d.room, .int .i64 d.day, .bool d.found]] ++ lb) W fun e w' => e = .returned (.bool (p d)) ∧ Below w.heap.size w w') :
    Calls Try.prog 100 #[v, .func (.func f) #[] lb] w fun e w' => e = .returned (.bool (ds.any p)) ∧ Below w.heap.size w w' := by
  obtain ⟨zs, rfl⟩ := sub_list ds hP
  obtain ⟨g, c, rfl, hc⟩ := hv
  rw [List.length_map] at hl ⊢
  cases zs with
  | nil => exact anyT_nil g c _ w
  | cons d0 zs =>
    haveI : Inhabited {t // P t} := ⟨d0⟩
    obtain ⟨b, o, rfl, h1, -, -⟩ := hc 0 d0.1 rfl
    have h := AnyQ.slices_ContainsFunc Try.contT 3 Try.isAgg53 Try.sizeOf53 (fun z : {t // P t} => encT z.1) (fun _ => rfl) (fun z => p z.1) f lb eg b o (d0 :: zs).length c (d0 :: zs) w (fun W x hW => hp W x.1 hW x.2) (Nat.le_refl _) hl (World.block_lt_of_cell? w _ h1) (fun j hj i u hu => by
      have hx : ((d0 :: zs).map Subtype.val)[j]? = some ((d0 :: zs)[j]!).1 := by rw [List.getElem?_map, List.getElem?_eq_getElem hj, List.getElem!_eq_getElem?_getD, List.getElem?_eq_getElem hj]; rfl
      obtain ⟨y, hy⟩ : ∃ y, (d0 :: zs)[j]! = y := ⟨_, rfl⟩
      rw [hy] at hx hu
      obtain ⟨b2, o2, hg, k1, k2, k3⟩ := hc j _ hx
      simp only [Option.some.injEq, Addr.mk.injEq, and_true] at hg
      obtain ⟨rfl, rfl⟩ := hg
      unfold encT at hu
      match i, hu with
      | 0, hu => simp at hu; subst hu; exact k1
      | 1, hu => simp at hu; subst hu; exact k2
      | 2, hu => simp at hu; subst hu; exact k3
      | i + 3, hu => simp at hu)
    rw [List.take_of_length_le (Nat.le_refl _)] at h
    rw [List.any_map]
    exact h
/-- Whether a trap is in a room and on a day. -/
def okT (R : Int) (t : Tp) : Bool := roomB R t.room && inB 0 100 t.day
set_option maxRecDepth 100000 in
theorem are1_any (B : Nat) (R x y : Int) (g : Option Addr) (M c : Nat) (t : Tp) (w : World) (h0 : w.cell? ⟨B, 0, none⟩ = some (.int .i64 R)) (h1 : w.cell? ⟨B, 1, none⟩ = some (.slice g M c)) (h2 : w.cell? ⟨B, 2, none⟩ = some (.int .i64 x)) (h3 : w.cell? ⟨B, 3, none⟩ = some (.int .i64 y)) :
    Calls Try.prog 101 #[.agg #[.int .i64 t.room, .int .i64 t.day, .bool t.found], .pointer (some ⟨B, 0, none⟩)] w fun e w' => e = .returned (.bool (!okT R t)) ∧ Below w.heap.size w w' := by
  obtain ⟨r, d, f⟩ := t
  have hB := World.block_lt_of_cell? _ _ h0
  have HR : Kp (∀ W, Calls Try.prog 59 #[.agg #[.int .i64 R, .slice g M c, .int .i64 x, .int .i64 y], .int .i64 r] W fun e w' => e = .returned (.bool (roomB R r)) ∧ Below W.heap.size W w') := ⟨fun W => isRoom_all R x y r g M c W⟩
  have HC : Kp (∀ W u, IS W u [d] → Calls Try.prog 51 #[.int .i64 0, .int .i64 100, u] W fun e w' => e = .returned (.bool (inB 0 100 d)) ∧ W = w') := ⟨fun W u hu => by
    have := within_any 0 100 u _ W hu (by simp)
    rwa [allIn_one] at this⟩
  unfold okT
  simp only
  obtain ⟨P, hP⟩ : ∃ P, roomB R r = P := ⟨_, rfl⟩
  obtain ⟨Q, hQ⟩ : ∃ Q, inB 0 100 d = Q := ⟨_, rfl⟩
  rw [hP] at HR ⊢
  rw [hQ] at HC ⊢
  clear hP hQ
  go_enter Try.func101, Try.ntmps101
  go_wp2_with fail
  refine (HR.out _).mono ?_
  rintro en w1 ⟨rfl, hb1⟩
  have c1 : w1.cell? ⟨w.heap.size, 1, none⟩ = some (.int .i64 d) := (hb1.cell (p := ⟨w.heap.size, 1, none⟩) (by simp)).trans (by go_simp)
  have HB1 : Kp (Below w.heap.size w w1) := ⟨Below.trans (by repeat (first | exact Below.refl _ _ | refine Below.alloc ?_ (by simp <;> omega) _ | refine bDrewN ?_ _ | refine Below.drew ?_)) (hb1.mono (by simp <;> omega))⟩
  clear hb1 h0 h1 h2 h3
  cases P with
  | false =>
    go_wp2
    go_ret
    exact ⟨rfl, HB1.out⟩
  | true =>
    go_wp2_with fail
    refine (HC.out _ _ (is_one (by go_simp))).mono ?_
    rintro en w2 ⟨rfl, rfl⟩
    have HB2 : Kp (Below w.heap.size w (w1.alloc (.cells #[.int .i64 d] 3))) := ⟨HB1.out.alloc HB1.out.size _⟩
    clear c1
    cases Q with
    | false =>
      go_wp2
      go_ret
      exact ⟨rfl, HB2.out⟩
    | true =>
      go_wp2
      go_ret
      exact ⟨rfl, HB2.out⟩
/-- Whether traps are in a house's rooms and days, and not too many. -/
def trapsB (R : Int) (ts : List Tp) : Bool := decide (ts.length ≤ 100) && ts.all (okT R)
theorem all_any_notT (p : Tp → Bool) (ds : List Tp) : ds.any (fun d => !p d) = !ds.all p := by
  induction ds with
  | nil => rfl
  | cons d ds ih => simp [List.any_cons, List.all_cons, ih]
set_option maxRecDepth 100000 in
theorem areTraps_any (R x y : Int) (g : Option Addr) (M c : Nat) (v : Value) (ts : List Tp) (w : World) (hv : TS w v ts) (hl : ts.length ≤ 9223372036854775807) :
    Calls Try.prog 82 #[.agg #[.int .i64 R, .slice g M c, .int .i64 x, .int .i64 y], v] w fun e w' => e = .returned (.bool (trapsB R ts)) ∧ Below w.heap.size w w' := by
  have HCF : Kp (∀ (W : World) (B : Nat), Below w.heap.size w W → W.cell? ⟨B, 0, none⟩ = some (.int .i64 R) → W.cell? ⟨B, 1, none⟩ = some (.slice g M c) → W.cell? ⟨B, 2, none⟩ = some (.int .i64 x) → W.cell? ⟨B, 3, none⟩ = some (.int .i64 y) → Calls Try.prog 100 #[v, .func (.func 101) #[] #[.pointer (some ⟨B, 0, none⟩)]] W fun e w' => e = .returned (.bool (!ts.all (okT R))) ∧ Below W.heap.size W w') := ⟨fun W B hW h0 h1 h2 h3 => by
    have := anyT_any v ts (fun d => !okT R d) 101 #[.pointer (some ⟨B, 0, none⟩)] W (enters_of Try.func101 (by kernel_rfl) rfl) (hv.below hW) hl (fun W2 d hW2 => (are1_any B R x y g M c d W2 ((hW2.cell (p := ⟨B, 0, none⟩) (World.block_lt_of_cell? _ _ h0)).trans h0) ((hW2.cell (p := ⟨B, 1, none⟩) (World.block_lt_of_cell? _ _ h1)).trans h1) ((hW2.cell (p := ⟨B, 2, none⟩) (World.block_lt_of_cell? _ _ h2)).trans h2) ((hW2.cell (p := ⟨B, 3, none⟩) (World.block_lt_of_cell? _ _ h3)).trans h3)).mono fun e w' ⟨he, hb⟩ => ⟨he, hW2.trans (hb.mono hW2.size)⟩)
    rw [all_any_notT] at this
    exact this⟩
  obtain ⟨gt, ct, rfl⟩ := hv.shape
  unfold trapsB
  obtain ⟨A, hA⟩ : ∃ A, ts.all (okT R) = A := ⟨_, rfl⟩
  obtain ⟨N, hN⟩ : ∃ N, ts.length = N := ⟨_, rfl⟩
  rw [hA, hN] at HCF
  rw [hA, hN]
  clear hv hl hA hN
  by_cases h : N ≤ 100
  · have o1 : (N : Int) ≤ 100 := by omega
    have HN : Kp ((decide (N ≤ 100) && A) = A) := ⟨by rw [decide_eq_true h, Bool.true_and]⟩
    rw [HN.out]
    clear h HN
    go_enter Try.func82, Try.ntmps82
    go_wp2_with fail
    refine (HCF.out _ _ (by repeat (first | exact Below.refl _ _ | refine Below.alloc ?_ (by simp <;> omega) _ | refine bDrewN ?_ _ | refine Below.drew ?_)) (by go_simp) (by go_simp) (by go_simp) (by go_simp)).mono ?_
    rintro en w1 ⟨rfl, hb1⟩
    have HB1 : Kp (Below w.heap.size w w1) := ⟨Below.trans (by repeat (first | exact Below.refl _ _ | refine Below.alloc ?_ (by simp <;> omega) _ | refine bDrewN ?_ _ | refine Below.drew ?_)) (hb1.mono (by simp <;> omega))⟩
    clear hb1
    cases A <;>
    · go_wp2
      go_ret
      exact ⟨rfl, HB1.out⟩
  · have o1 : ¬ (N : Int) ≤ 100 := by omega
    have HN : Kp ((decide (N ≤ 100) && A) = false) := ⟨by rw [decide_eq_false h]; rfl⟩
    rw [HN.out]
    clear h HN
    go_enter Try.func82, Try.ntmps82
    go_wp2
    go_ret
    exact ⟨rfl, by repeat (first | exact Below.refl _ _ | refine Below.alloc ?_ (by simp <;> omega) _ | refine bDrewN ?_ _ | refine Below.drew ?_)⟩
/-- Whether a trap found what it would find. -/
def fitT (ds : List Dr) (S : Nat) (t : Tp) : Bool := (spreadF ds S t.day.toNat).testBit t.room.toNat == t.found
/-- Whether traps found what they would find. -/
def fitsB (ds : List Dr) (S : Nat) (ts : List Tp) : Bool := ts.all (fitT ds S)
set_option maxRecDepth 100000 in
set_option maxHeartbeats 2000000 in
theorem fits1_st (B E : Nat) (g : Option Addr) (M c S T k : Nat) (d : Int) (f Q : Bool) (w : World) (h1 : w.cell? ⟨B, 1, none⟩ = some (.slice g M c)) (h2 : w.cell? ⟨E, 0, none⟩ = some (.int .i64 (S : Nat)))
    (HON : Kp (∀ W, Below w.heap.size w W → Calls Try.prog 52 #[.int .i64 d, .slice g M c, .int .i64 (S : Nat)] W fun e w' => e = .returned (.int .i64 (T : Nat)) ∧ Below W.heap.size W w'))
    (HHA : Kp (∀ W, Calls Try.prog 61 #[.int .i64 (T : Nat), .int .i64 (k : Nat)] W fun e w' => e = .returned (.bool Q) ∧ Below W.heap.size W w')) :
    Calls Try.prog 102 #[.agg #[.int .i64 (k : Nat), .int .i64 d, .bool f], .pointer (some ⟨B, 0, none⟩), .pointer (some ⟨E, 0, none⟩)] w fun e w' => e = .returned (.bool (Q != f)) ∧ Below w.heap.size w w' := by
  have l1 := World.block_lt_of_cell? _ _ h1
  have l2 := World.block_lt_of_cell? _ _ h2
  go_enter Try.func102, Try.ntmps102
  go_wp2_with fail
  obtain ⟨W1, hW1⟩ : ∃ W, w.alloc (.cells #[.int .i64 (k : Nat), .int .i64 d, .bool f] 53) = W := ⟨_, rfl⟩
  have hb1 : Below w.heap.size w W1 := by subst hW1; exact (Below.refl _ _).alloc (Nat.le_refl _) _
  have hc : W1.cell? ⟨w.heap.size, 0, none⟩ = some (.int .i64 (k : Nat)) ∧ W1.cell? ⟨w.heap.size, 1, none⟩ = some (.int .i64 d) ∧ W1.cell? ⟨w.heap.size, 2, none⟩ = some (.bool f) := by subst hW1; exact ⟨by go_simp, by go_simp, by go_simp⟩
  try rw [hW1]
  obtain ⟨Z, hZ⟩ : ∃ Z, w.heap.size = Z := ⟨_, rfl⟩
  rw [hZ] at hc
  have HB1 := Kp.mk hb1
  have HALL : Kp (∀ w', Below W1.heap.size W1 w' → w'.cell? ⟨Z, 0, none⟩ = some (.int .i64 (k : Nat)) ∧ w'.cell? ⟨Z, 1, none⟩ = some (.int .i64 d) ∧ w'.cell? ⟨Z, 2, none⟩ = some (.bool f) ∧ w'.cell? ⟨B, 1, none⟩ = some (.slice g M c) ∧ w'.cell? ⟨E, 0, none⟩ = some (.int .i64 (S : Nat))) := ⟨fun w' h => by
    have hh := hb1.trans (h.mono hb1.size)
    exact ⟨(h.cell (p := ⟨Z, 0, none⟩) (World.block_lt_of_cell? _ _ hc.1)).trans hc.1, (h.cell (p := ⟨Z, 1, none⟩) (World.block_lt_of_cell? _ _ hc.2.1)).trans hc.2.1, (h.cell (p := ⟨Z, 2, none⟩) (World.block_lt_of_cell? _ _ hc.2.2)).trans hc.2.2, (hh.cell (p := ⟨B, 1, none⟩) l1).trans h1, (hh.cell (p := ⟨E, 0, none⟩) l2).trans h2⟩⟩
  try simp only [hZ]
  clear hW1 hb1 hc hZ h1 h2 l1 l2
  obtain ⟨z0, z1, z2, b1, e0⟩ := HALL.out W1 (Below.refl _ _)
  go_wp2_with fail
  refine wp_region_noPanic ?_
  refine region_nm ?_
  intro ops Qp hops hQp
  have HQP : Kp (∀ c a d v w, Qp (.panic c) (Act.put a d v) w → Qp (.panic c) a w) := ⟨by subst hQp; intro c a d v w h; exact h⟩
  have HFIN : Kp (∀ (w' : World), Below W1.heap.size W1 w' → Qp .normal { tmps := #[.agg #[.int .i64 (k : Nat), .int .i64 d, .bool f], .pointer (some ⟨B, 0, none⟩), .pointer (some ⟨E, 0, none⟩), .pointer (some ⟨Z, 0, none⟩), .bool (!(Q == f)), .pointer (some ⟨Z, 1, none⟩), .int .i64 d, .pointer (some ⟨B, 1, none⟩), .slice g M c, .int .i64 (S : Nat), .int .i64 (T : Nat), .pointer (some ⟨Z, 0, none⟩), .int .i64 (k : Nat), .bool Q, .pointer (some ⟨Z, 2, none⟩), .bool f, .bool (!(Q == f))], defers := [] } w') := by
    refine ⟨?_⟩
    intro w' hw 
    have HBW := Kp.mk (HB1.out.trans (hw.mono HB1.out.size))
    have HWB := Kp.mk hw
    clear HQP hops hw
    subst hQp
    refine NoPanic.normal ?_
    go_wp2
    go_ret
    exact ⟨rfl, HBW.out⟩
  have S0_1_2_3_4_5_6_7_8_9_10 : Kp (∀ (w' : World), Below W1.heap.size W1 w' → wpAnyH Try.prog .any ops Qp (fun w' => Below W1.heap.size W1 w') 2 #[true, true, true, true, true, true, true, true, true, true, true, false, false] { tmps := #[.agg #[.int .i64 (k : Nat), .int .i64 d, .bool f], .pointer (some ⟨B, 0, none⟩), .pointer (some ⟨E, 0, none⟩), .pointer (some ⟨Z, 0, none⟩), .bool false, .pointer (some ⟨Z, 1, none⟩), .int .i64 d, .pointer (some ⟨B, 1, none⟩), .slice g M c, .int .i64 (S : Nat), .int .i64 (T : Nat), .pointer (some ⟨Z, 0, none⟩), .int .i64 (k : Nat), .bool Q, .pointer (some ⟨Z, 2, none⟩), .bool f, undef], defers := [] } w') := by
    refine ⟨?_⟩
    intro w' hw
    refine wpAnyH_take (i := 11) (oi := { dst := some 16, op := Go.Op.binOp Go.BinOp.neq 4 (Go.Operand.tmp 13) (Go.Operand.tmp 15) 4, type := 4, pos := "spread.go:88", after := #[{ on := 8, ground := Go.Ground.data }, { on := 10, ground := Go.Ground.data }], guard := none }) (v := .bool (!(Q == f))) (by rw [hops]; kernel_rfl) (by rw [hops]; kernel_rfl) (by rw [hops]; kernel_rfl) (by rw [hops]; kernel_rfl) (fun c a w h => HQP.out c a _ _ w h) (Or.inl ⟨by rw [hops]; kernel_rfl, by intro w _; go_simp⟩) hw ?_
    simp only [Act.put, List.setIfInBounds_toArray, List.set_cons_zero, List.set_cons_succ]
    refine wpAnyH_take (i := 12) (oi := { dst := some 4, op := Go.Op.assign (Go.Operand.tmp 16), type := 4, pos := "spread.go:88", after := #[{ on := 11, ground := Go.Ground.data }, { on := 8, ground := Go.Ground.chain }, { on := 0, ground := Go.Ground.phase }, { on := 1, ground := Go.Ground.phase }, { on := 2, ground := Go.Ground.phase }, { on := 3, ground := Go.Ground.phase }, { on := 4, ground := Go.Ground.phase }, { on := 5, ground := Go.Ground.phase }, { on := 6, ground := Go.Ground.phase }, { on := 7, ground := Go.Ground.phase }, { on := 8, ground := Go.Ground.phase }, { on := 9, ground := Go.Ground.phase }, { on := 10, ground := Go.Ground.phase }, { on := 11, ground := Go.Ground.phase }], guard := none }) (v := .bool (!(Q == f))) (by rw [hops]; kernel_rfl) (by rw [hops]; kernel_rfl) (by rw [hops]; kernel_rfl) (by rw [hops]; kernel_rfl) (fun c a w h => HQP.out c a _ _ w h) (Or.inl ⟨by rw [hops]; kernel_rfl, by intro w _; go_simp⟩) hw ?_
    simp only [Act.put, List.setIfInBounds_toArray, List.set_cons_zero, List.set_cons_succ]
    refine wpAnyH_done (by rw [hops]; kernel_rfl) ?_ _
    exact HFIN.out w' hw 
  have S0_1_2_3_4_5_6_7_9_10 : Kp (∀ (w' : World), Below W1.heap.size W1 w' → wpAnyH Try.prog .any ops Qp (fun w' => Below W1.heap.size W1 w') 3 #[true, true, true, true, true, true, true, true, false, true, true, false, false] { tmps := #[.agg #[.int .i64 (k : Nat), .int .i64 d, .bool f], .pointer (some ⟨B, 0, none⟩), .pointer (some ⟨E, 0, none⟩), .pointer (some ⟨Z, 0, none⟩), .bool false, .pointer (some ⟨Z, 1, none⟩), .int .i64 d, .pointer (some ⟨B, 1, none⟩), .slice g M c, .int .i64 (S : Nat), .int .i64 (T : Nat), .pointer (some ⟨Z, 0, none⟩), .int .i64 (k : Nat), undef, .pointer (some ⟨Z, 2, none⟩), .bool f, undef], defers := [] } w') := by
    refine ⟨?_⟩
    intro w' hw
    refine wpAnyH_ready (rs := [8]) (by rw [hops]; kernel_rfl) (by simp) ?_
    refine AllReadyH.cons (o := { dst := some 13, op := Go.Op.call { callee := Go.Callee.value (Go.Operand.func 61), args := #[Go.Operand.tmp 10, Go.Operand.tmp 12], argTypes := #[3, 3] }, type := 4, pos := "spread.go:88", after := #[{ on := 5, ground := Go.Ground.data }, { on := 7, ground := Go.Ground.data }, { on := 5, ground := Go.Ground.chain }], guard := none }) (by rw [hops]; kernel_rfl) (fun K hK => ?_) ?_
    · rw [if_pos (by rw [hops]; kernel_rfl)]
      go_simp
      refine (HHA.out _).mono ?_
      rintro en w5 ⟨rfl, hb5⟩
      exact hK.out _ _ (hw.trans (hb5.mono hw.size)) (fun hwn => S0_1_2_3_4_5_6_7_8_9_10.out w5 hwn )
    exact AllReadyH.nil
  have S : Kp (∀ (w' : World), Below W1.heap.size W1 w' → wpAnyH Try.prog .any ops Qp (fun w' => Below W1.heap.size W1 w') 13 #[false, false, false, false, false, false, false, false, false, false, false, false, false] { tmps := #[.agg #[.int .i64 (k : Nat), .int .i64 d, .bool f], .pointer (some ⟨B, 0, none⟩), .pointer (some ⟨E, 0, none⟩), .pointer (some ⟨Z, 0, none⟩), .bool false, undef, undef, undef, undef, undef, undef, undef, undef, undef, undef, undef, undef], defers := [] } w') := by
    refine ⟨?_⟩
    intro w' hw
    refine wpAnyH_take (i := 0) (oi := { dst := some 5, op := Go.Op.fieldAddr 53 (Go.Operand.tmp 3) 1, type := 0, pos := "spread.go:88", after := #[], guard := none }) (v := .pointer (some ⟨Z, 1, none⟩)) (by rw [hops]; kernel_rfl) (by rw [hops]; kernel_rfl) (by rw [hops]; kernel_rfl) (by rw [hops]; kernel_rfl) (fun c a w h => HQP.out c a _ _ w h) (Or.inl ⟨by rw [hops]; kernel_rfl, by intro w _; go_simp⟩) hw ?_
    simp only [Act.put, List.setIfInBounds_toArray, List.set_cons_zero, List.set_cons_succ]
    refine wpAnyH_take (i := 1) (oi := { dst := some 6, op := Go.Op.load 3 (Go.Operand.tmp 5), type := 3, pos := "spread.go:88", after := #[{ on := 0, ground := Go.Ground.data }], guard := none }) (v := .int .i64 d) (by rw [hops]; kernel_rfl) (by rw [hops]; kernel_rfl) (by rw [hops]; kernel_rfl) (by rw [hops]; kernel_rfl) (fun c a w h => HQP.out c a _ _ w h) (Or.inl ⟨by rw [hops]; kernel_rfl, by intro w hwS; obtain ⟨z0, z1, z2, b1, e0⟩ := HALL.out w hwS; go_simp⟩) hw ?_
    simp only [Act.put, List.setIfInBounds_toArray, List.set_cons_zero, List.set_cons_succ]
    refine wpAnyH_take (i := 2) (oi := { dst := some 7, op := Go.Op.fieldAddr 24 (Go.Operand.tmp 1) 1, type := 0, pos := "spread.go:88", after := #[], guard := none }) (v := .pointer (some ⟨B, 1, none⟩)) (by rw [hops]; kernel_rfl) (by rw [hops]; kernel_rfl) (by rw [hops]; kernel_rfl) (by rw [hops]; kernel_rfl) (fun c a w h => HQP.out c a _ _ w h) (Or.inl ⟨by rw [hops]; kernel_rfl, by intro w _; go_simp⟩) hw ?_
    simp only [Act.put, List.setIfInBounds_toArray, List.set_cons_zero, List.set_cons_succ]
    refine wpAnyH_take (i := 3) (oi := { dst := some 8, op := Go.Op.load 22 (Go.Operand.tmp 7), type := 22, pos := "spread.go:88", after := #[{ on := 2, ground := Go.Ground.data }], guard := none }) (v := .slice g M c) (by rw [hops]; kernel_rfl) (by rw [hops]; kernel_rfl) (by rw [hops]; kernel_rfl) (by rw [hops]; kernel_rfl) (fun c a w h => HQP.out c a _ _ w h) (Or.inl ⟨by rw [hops]; kernel_rfl, by intro w hwS; obtain ⟨z0, z1, z2, b1, e0⟩ := HALL.out w hwS; go_simp⟩) hw ?_
    simp only [Act.put, List.setIfInBounds_toArray, List.set_cons_zero, List.set_cons_succ]
    refine wpAnyH_take (i := 4) (oi := { dst := some 9, op := Go.Op.load 3 (Go.Operand.tmp 2), type := 3, pos := "spread.go:88", after := #[], guard := none }) (v := .int .i64 (S : Nat)) (by rw [hops]; kernel_rfl) (by rw [hops]; kernel_rfl) (by rw [hops]; kernel_rfl) (by rw [hops]; kernel_rfl) (fun c a w h => HQP.out c a _ _ w h) (Or.inl ⟨by rw [hops]; kernel_rfl, by intro w hwS; obtain ⟨z0, z1, z2, b1, e0⟩ := HALL.out w hwS; go_simp⟩) hw ?_
    simp only [Act.put, List.setIfInBounds_toArray, List.set_cons_zero, List.set_cons_succ]
    refine wpAnyH_take (i := 6) (oi := { dst := some 11, op := Go.Op.fieldAddr 53 (Go.Operand.tmp 3) 0, type := 0, pos := "spread.go:88", after := #[], guard := none }) (v := .pointer (some ⟨Z, 0, none⟩)) (by rw [hops]; kernel_rfl) (by rw [hops]; kernel_rfl) (by rw [hops]; kernel_rfl) (by rw [hops]; kernel_rfl) (fun c a w h => HQP.out c a _ _ w h) (Or.inl ⟨by rw [hops]; kernel_rfl, by intro w _; go_simp⟩) hw ?_
    simp only [Act.put, List.setIfInBounds_toArray, List.set_cons_zero, List.set_cons_succ]
    refine wpAnyH_take (i := 7) (oi := { dst := some 12, op := Go.Op.load 3 (Go.Operand.tmp 11), type := 3, pos := "spread.go:88", after := #[{ on := 6, ground := Go.Ground.data }], guard := none }) (v := .int .i64 (k : Nat)) (by rw [hops]; kernel_rfl) (by rw [hops]; kernel_rfl) (by rw [hops]; kernel_rfl) (by rw [hops]; kernel_rfl) (fun c a w h => HQP.out c a _ _ w h) (Or.inl ⟨by rw [hops]; kernel_rfl, by intro w hwS; obtain ⟨z0, z1, z2, b1, e0⟩ := HALL.out w hwS; go_simp⟩) hw ?_
    simp only [Act.put, List.setIfInBounds_toArray, List.set_cons_zero, List.set_cons_succ]
    refine wpAnyH_take (i := 9) (oi := { dst := some 14, op := Go.Op.fieldAddr 53 (Go.Operand.tmp 3) 2, type := 0, pos := "spread.go:88", after := #[], guard := none }) (v := .pointer (some ⟨Z, 2, none⟩)) (by rw [hops]; kernel_rfl) (by rw [hops]; kernel_rfl) (by rw [hops]; kernel_rfl) (by rw [hops]; kernel_rfl) (fun c a w h => HQP.out c a _ _ w h) (Or.inl ⟨by rw [hops]; kernel_rfl, by intro w _; go_simp⟩) hw ?_
    simp only [Act.put, List.setIfInBounds_toArray, List.set_cons_zero, List.set_cons_succ]
    refine wpAnyH_take (i := 10) (oi := { dst := some 15, op := Go.Op.load 4 (Go.Operand.tmp 14), type := 4, pos := "spread.go:88", after := #[{ on := 9, ground := Go.Ground.data }], guard := none }) (v := .bool f) (by rw [hops]; kernel_rfl) (by rw [hops]; kernel_rfl) (by rw [hops]; kernel_rfl) (by rw [hops]; kernel_rfl) (fun c a w h => HQP.out c a _ _ w h) (Or.inl ⟨by rw [hops]; kernel_rfl, by intro w hwS; obtain ⟨z0, z1, z2, b1, e0⟩ := HALL.out w hwS; go_simp⟩) hw ?_
    simp only [Act.put, List.setIfInBounds_toArray, List.set_cons_zero, List.set_cons_succ]
    refine wpAnyH_ready (rs := [5]) (by rw [hops]; kernel_rfl) (by simp) ?_
    refine AllReadyH.cons (o := { dst := some 10, op := Go.Op.call { callee := Go.Callee.value (Go.Operand.func 52), args := #[Go.Operand.tmp 6, Go.Operand.tmp 8, Go.Operand.tmp 9], argTypes := #[3, 22, 3] }, type := 3, pos := "spread.go:88", after := #[{ on := 1, ground := Go.Ground.data }, { on := 3, ground := Go.Ground.data }, { on := 4, ground := Go.Ground.data }], guard := none }) (by rw [hops]; kernel_rfl) (fun K hK => ?_) ?_
    · rw [if_pos (by rw [hops]; kernel_rfl)]
      go_simp
      refine (HON.out _ (HB1.out.trans (hw.mono HB1.out.size))).mono ?_
      rintro en w5 ⟨rfl, hb5⟩
      exact hK.out _ _ (hw.trans (hb5.mono hw.size)) (fun hwn => S0_1_2_3_4_5_6_7_9_10.out w5 hwn )
    exact AllReadyH.nil
  have hsz : ops.size = 13 := by rw [hops]; rfl
  refine wp_region_held_drew (S := fun w' => Below W1.heap.size W1 w') (by kernel_rfl) (Below.drew (Below.refl _ _)) (fun hw0 => ?_)
  rw [hsz]
  exact S.out _ hw0
set_option maxRecDepth 100000 in
theorem fits_any (R : Nat) (x y : Int) (v u : Value) (ds : List Dr) (ts : List Tp) (S : Nat) (w : World) (hv : DS w v ds) (hl : ds.length ≤ 1000) (hu : TS w u ts) (htl : ts.length ≤ 100) (hok : ∀ t ∈ ts, 0 ≤ t.room ∧ t.room ≤ 11) (hR : 1 ≤ R) (hR2 : R ≤ 12) (hd : DoorsAt R ds) (hS : S < 2 ^ R) :
    Calls Try.prog 83 #[.agg #[.int .i64 (R : Int), v, .int .i64 x, .int .i64 y], u, .int .i64 (S : Nat)] w fun e w' => e = .returned (.bool (fitsB ds S ts)) ∧ Below w.heap.size w w' := by
  have hlt : ∀ k, spreadF ds S k < 4096 := fun k => spreadF_lt (hd.inn hR2) (Nat.lt_of_lt_of_le hS (by have := Nat.pow_le_pow_right (n := 2) (by omega) hR2; simpa using this)) k
  obtain ⟨g, c, rfl⟩ := hv.shape
  have HCF : Kp (∀ (W : World) (B E : Nat), Below w.heap.size w W → W.cell? ⟨B, 1, none⟩ = some (.slice g ds.length c) → W.cell? ⟨E, 0, none⟩ = some (.int .i64 (S : Nat)) → Calls Try.prog 100 #[u, .func (.func 102) #[] #[.pointer (some ⟨B, 0, none⟩), .pointer (some ⟨E, 0, none⟩)]] W fun e w' => e = .returned (.bool (!fitsB ds S ts)) ∧ Below W.heap.size W w') := ⟨fun W B E hW h1 h2 => by
    have := anyT_ok u ts (fun d => !fitT ds S d) 102 #[.pointer (some ⟨B, 0, none⟩), .pointer (some ⟨E, 0, none⟩)] W (enters_of Try.func102 (by kernel_rfl) rfl) (hu.below hW) (by omega) (fun t => 0 ≤ t.room ∧ t.room ≤ 11) hok (fun W2 t hW2 ht => by
      obtain ⟨r, d, f⟩ := t
      obtain ⟨k, rfl⟩ := Int.eq_ofNat_of_zero_le ht.1
      have hk : k ≤ 63 := by have := ht.2; simp only at this; omega
      have := fits1_st B E g ds.length c S (spreadF ds S d.toNat) k d f ((spreadF ds S d.toNat).testBit k) W2 ((hW2.cell (p := ⟨B, 1, none⟩) (World.block_lt_of_cell? _ _ h1)).trans h1) ((hW2.cell (p := ⟨E, 0, none⟩) (World.block_lt_of_cell? _ _ h2)).trans h2)
        ⟨fun W3 hW3 => on_any R d _ ds S W3 ((hv.below hW).below (hW2.trans (hW3.mono hW2.size))) hl hR hR2 hd hS⟩ ⟨fun W3 => (has_any _ k W3 (by have := hlt d.toNat; omega) hk).mono fun e w' ⟨he, hw⟩ => ⟨he, hw ▸ Below.refl _ _⟩⟩
      refine this.mono fun e w' ⟨he, hb⟩ => ⟨?_, hW2.trans (hb.mono hW2.size)⟩
      rw [he]
      unfold fitT
      simp only [Int.toNat_natCast]
      rfl)
    rw [all_any_notT] at this
    exact this⟩
  obtain ⟨gt, ct, rfl⟩ := hu.shape
  obtain ⟨A, hA⟩ : ∃ A, fitsB ds S ts = A := ⟨_, rfl⟩
  obtain ⟨N, hN⟩ : ∃ N, ts.length = N := ⟨_, rfl⟩
  obtain ⟨M, hM⟩ : ∃ M, ds.length = M := ⟨_, rfl⟩
  rw [hA, hN, hM] at HCF
  rw [hA, hN, hM]
  clear hv hl hu htl hok hR hR2 hd hS hlt hA hN hM
  go_enter Try.func83, Try.ntmps83
  go_wp2_with fail
  refine (HCF.out _ _ _ (by repeat (first | exact Below.refl _ _ | refine Below.alloc ?_ (by simp <;> omega) _ | refine bDrewN ?_ _ | refine Below.drew ?_)) (by go_simp) (by go_simp)).mono ?_
  rintro en w1 ⟨rfl, hb1⟩
  have HB1 : Kp (Below w.heap.size w w1) := ⟨Below.trans (by repeat (first | exact Below.refl _ _ | refine Below.alloc ?_ (by simp <;> omega) _ | refine bDrewN ?_ _ | refine Below.drew ?_)) (hb1.mono (by simp <;> omega))⟩
  clear hb1
  cases A <;>
  · go_wp2
    go_ret
    exact ⟨rfl, HB1.out⟩
end Go.Proofs.Ythkamfjjfkpekaa.Pe
