/-
  WALKS (layer 9, loan): the pence of all loans to a borrower.
-/
import Derived.Test.YtaofjomocefdkaaLnPay
namespace Go.Proofs.Ytaofjomocefdkaa.Ln
open Go Go.RowKit Go.Sort

theorem ixL_snd (q : Loan → Bool) (l : List Loan) : (ixL q l).map Prod.snd = l.filter q := by
  unfold ixL ixP
  rw [List.take_of_length_le (by simp), List.map_map]
  have h : ∀ (l : List Loan) (k : Nat), ((l.zipIdx k).filter fun p => q p.1).map (Prod.snd ∘ fun p : Loan × Nat => (p.2, p.1)) = l.filter q := by
    intro l
    induction l with
    | nil => intro k; rfl
    | cons x l ih =>
      intro k
      rw [List.zipIdx_cons, List.filter_cons, List.filter_cons]
      have := ih (k + 1)
      cases hq : q x
      · simp only [Bool.false_eq_true, if_false]; exact this
      · simp only [if_true, List.map_cons]; rw [this]; rfl
  exact h l 0
theorem ixL_sum (q : Loan → Bool) (l : List Loan) (f : Loan → Int) : ((ixL q l).map fun x => f x.2).sum = ((l.filter q).map f).sum := by
  have : ((ixL q l).map fun x => f x.2) = ((ixL q l).map Prod.snd).map f := by rw [List.map_map]; rfl
  rw [this, ixL_snd]
theorem LS.blk {w : World} {g : Option Addr} {c : Nat} {l : List Loan} (h : LS w (.slice g l.length c) l) {k o : Nat} (h0 : 0 < l.length) (hg : g = some ⟨k, o, none⟩) : k < w.heap.size := by
  obtain ⟨g', c', e, -, hi⟩ := h
  simp only [Value.slice.injEq] at e
  obtain ⟨rfl, -, -⟩ := e
  obtain ⟨b, o', hg', ha, -⟩ := hi 0 _ (List.getElem?_eq_getElem h0)
  rw [hg] at hg'
  simp only [Option.some.injEq, Addr.mk.injEq, and_true] at hg'
  rw [hg'.1]
  exact ha.lt
def chargeE (l : List Loan) (s : ByteArray) (fr to pence : Int) : Int := chkE (validL l) (nameB s) ((allIn 0 100000 [fr, to] && decide (fr ≤ to)) && allIn 0 10000 [pence])
def chargeN (l : List Loan) (s : ByteArray) (fr to pence : Int) : Int := ((l.filter fun x => eqS x.t s).map fun x => pence * comI x.due (home x) fr to).sum
def chargeV (l : List Loan) (s : ByteArray) (fr to pence : Int) : Int := if chargeE l s fr to pence = 0 then chargeN l s fr to pence else 0
/-- The sum over the loans to a borrower, as the program takes it. -/
theorem sumCharge_any (l : List Loan) (s : ByteArray) (fr to pence : Int) (g : Option Addr) (c P A B L F S : Nat) (w : World) (hE : validL l = true) (hf : 0 ≤ fr ∧ fr ≤ 100000) (ht : 0 ≤ to ∧ to ≤ 100000) (hp : 0 ≤ pence ∧ pence ≤ 10000)
    (hP : w.cell? ⟨P, 0, none⟩ = some (.int .i64 pence)) (hA : w.cell? ⟨A, 0, none⟩ = some (.int .i64 fr)) (hB : w.cell? ⟨B, 0, none⟩ = some (.int .i64 to))
    (hL : w.cell? ⟨L, 0, none⟩ = some (.slice g l.length c)) (hF : w.cell? ⟨F, 0, none⟩ = some (.func (.func 87) #[] #[])) (hS : w.cell? ⟨S, 0, none⟩ = some (.string s)) (hv : LS w (.slice g l.length c) l) :
    Calls Try.prog 90 #[.func (.func 95) #[] #[.pointer (some ⟨L, 0, none⟩), .pointer (some ⟨F, 0, none⟩), .pointer (some ⟨S, 0, none⟩)], .func (.func 88) #[] #[.pointer (some ⟨P, 0, none⟩), .pointer (some ⟨A, 0, none⟩), .pointer (some ⟨B, 0, none⟩)]] w fun e w' => e = .returned (.int .i64 (chargeN l s fr to pence)) ∧ Below w.heap.size w w' := by
  have hlen := validL_len hE
  have hxl : ∀ x ∈ ixL (fun x => eqS x.t s) l, okB x.2 = true := fun x hx => validL_ok hE (List.mem_of_getElem? (ixP_mem hx).2.1)
  have hx2 : (ixL (fun x => eqS x.t s) l).length ≤ l.length := ixP_len _ _ _
  have k1 := fun (W : World) (hW : Below w.heap.size w W) => (hW.cell (p := ⟨L, 0, none⟩) (World.block_lt_of_cell? _ _ hL)).trans hL
  have k2 := fun (W : World) (hW : Below w.heap.size w W) => (hW.cell (p := ⟨F, 0, none⟩) (World.block_lt_of_cell? _ _ hF)).trans hF
  have k3 := fun (W : World) (hW : Below w.heap.size w W) => (hW.cell (p := ⟨S, 0, none⟩) (World.block_lt_of_cell? _ _ hS)).trans hS
  have k4 := fun (W : World) (hW : Below w.heap.size w W) => (hW.cell (p := ⟨P, 0, none⟩) (World.block_lt_of_cell? _ _ hP)).trans hP
  have k5 := fun (W : World) (hW : Below w.heap.size w W) => (hW.cell (p := ⟨A, 0, none⟩) (World.block_lt_of_cell? _ _ hA)).trans hA
  have k6 := fun (W : World) (hW : Below w.heap.size w W) => (hW.cell (p := ⟨B, 0, none⟩) (World.block_lt_of_cell? _ _ hB)).trans hB
  have hr : ∀ x ∈ ixL (fun x => eqS x.t s) l, 0 ≤ pence * comI x.2.due (home x.2) fr to ∧ pence * comI x.2.due (home x.2) fr to ≤ 10000 * 100001 := fun x hx => by
    have ho := okB_days (hxl x hx)
    have hR := comI_bd (a := x.2.due) (b := home x.2) (c := fr) (d := to) (by omega) (by omega)
    exact ⟨Int.mul_nonneg hp.1 hR.1, Int.mul_le_mul hp.2 hR.2 hR.1 (by decide)⟩
  have h := sumL_any 95 #[.pointer (some ⟨L, 0, none⟩), .pointer (some ⟨F, 0, none⟩), .pointer (some ⟨S, 0, none⟩)] P A B (SK g F S l.length) (ixL (fun x => eqS x.t s) l) (fun x => pence * comI x.due (home x) fr to) (10000 * 100001) w (enters_of Try.func95 (by kernel_rfl) rfl)
    ⟨fun W hW => thoseS_yields 6 (by omega) L F S c 87 g (fun x => eqS x.t s) l s W (by omega) (enters_of Try.func87 (by kernel_rfl) rfl) ⟨fun W x _ => isTo_any x s W⟩ (k1 W hW) (k2 W hW) (k3 W hW) (hv.below hW)⟩
    (fun k hk => by
      rcases hk with rfl | rfl | ⟨h0, o, hg⟩
      · exact World.block_lt_of_cell? _ _ hF
      · exact World.block_lt_of_cell? _ _ hS
      · exact hv.blk h0 hg) (by omega) (by omega)
    ⟨fun W x hx hW => chg_any P A B pence fr to x.2 W (k4 W hW) (k5 W hW) (k6 W hW) hp hf ht (hxl x hx)⟩
    hr
  refine h.mono ?_
  rintro e w' ⟨rfl, hb⟩
  exact ⟨congrArg (fun n => Ending.returned (.int .i64 n)) (ixL_sum (fun x => eqS x.t s) l fun x => pence * comI x.due (home x) fr to), hb⟩
theorem cst_start {w W1 : World} {fr to pence : Int} {t : TypeId} (h : ((w.alloc (.cells #[.int .i64 fr] t)).alloc (.cells #[.int .i64 to] t)).alloc (.cells #[.int .i64 pence] t) = W1) : Below w.heap.size w W1 ∧ W1.cell? ⟨w.heap.size, 0, none⟩ = some (.int .i64 fr) ∧ W1.cell? ⟨w.heap.size + 1, 0, none⟩ = some (.int .i64 to) ∧ W1.cell? ⟨w.heap.size + 1 + 1, 0, none⟩ = some (.int .i64 pence) := by
  subst h
  exact ⟨by repeat (first | exact Below.refl _ _ | refine Below.alloc ?_ (by simp <;> omega) _ | refine bDrewN ?_ _ | refine Below.drew ?_), by go_simp, by go_simp, by go_simp⟩
theorem ri_of1 {W : World} {b : Nat} {x : Int} (h : W.cell? ⟨b, 0, none⟩ = some (.int .i64 x)) : RI W (.slice (some ⟨b, 0, none⟩) 1 1) [x] := by
  refine ⟨_, 1, rfl, fun i y hy => ⟨_, rfl, ?_⟩⟩
  match i with
  | 0 => simp only [List.getElem?_cons_zero, Option.some.injEq] at hy; rw [← hy]; exact h
  | i + 1 => simp at hy
theorem ri_of2 {W : World} {b : Nat} {x y : Int} (h : W.cell? ⟨b, 0, none⟩ = some (.int .i64 x)) (h' : W.cell? ⟨b, 1, none⟩ = some (.int .i64 y)) : RI W (.slice (some ⟨b, 0, none⟩) 2 2) [x, y] := by
  refine ⟨_, 2, rfl, fun i z hz => ⟨_, rfl, ?_⟩⟩
  match i with
  | 0 => simp only [List.getElem?_cons_zero, Option.some.injEq] at hz; rw [← hz]; exact h
  | 1 => simp only [List.getElem?_cons_succ, List.getElem?_cons_zero, Option.some.injEq] at hz; rw [← hz]; exact h'
  | i + 2 => simp at hz
/-- The awake example's loan. -/
def owl : Loan := ⟨⟨#[111, 119, 108]⟩, ⟨#[121, 111, 114, 107]⟩, 5, 20, 30⟩
theorem allIn_one {a b c : Int} (h : allIn a b [c] = true) : a ≤ c ∧ c ≤ b := by
  unfold allIn at h
  simp at h
  omega
theorem bAl {w W : World} {o : Obj} (h : Below w.heap.size w W) : Below w.heap.size w (W.alloc o) := h.alloc h.size _
theorem chargeCells {w W : World} {Z : Nat} {a b c : Value} (hb : Below w.heap.size w W) (h0 : w.cell? ⟨Z, 0, none⟩ = some a) (h1 : w.cell? ⟨Z + 1, 0, none⟩ = some b) (h2 : w.cell? ⟨Z + 1 + 1, 0, none⟩ = some c) : W.cell? ⟨Z, 0, none⟩ = some a ∧ W.cell? ⟨Z + 1, 0, none⟩ = some b ∧ W.cell? ⟨Z + 1 + 1, 0, none⟩ = some c :=
  ⟨(hb.cell (p := ⟨Z, 0, none⟩) (World.block_lt_of_cell? _ _ h0)).trans h0, (hb.cell (p := ⟨Z + 1, 0, none⟩) (World.block_lt_of_cell? _ _ h1)).trans h1, (hb.cell (p := ⟨Z + 1 + 1, 0, none⟩) (World.block_lt_of_cell? _ _ h2)).trans h2⟩
/-- The world behind the calls of those, and the sum there. -/
theorem chargeTail_any (l : List Loan) (s : ByteArray) (fr to pence : Int) (g : Option Addr) (c Z : Nat) (w w5 : World) (hE : validL l = true) (hf : 0 ≤ fr ∧ fr ≤ 100000) (ht : 0 ≤ to ∧ to ≤ 100000) (hp : 0 ≤ pence ∧ pence ≤ 10000)
    (hc : w.cell? ⟨Z, 0, none⟩ = some (.int .i64 fr) ∧ w.cell? ⟨Z + 1, 0, none⟩ = some (.int .i64 to) ∧ w.cell? ⟨Z + 1 + 1, 0, none⟩ = some (.int .i64 pence)) (hv : LS w (.slice g l.length c) l)
    (h5 : ((w.alloc (.cells #[.slice g l.length c] 22)).alloc (.cells #[.func (.func 87) #[] #[]] 71)).alloc (.cells #[.string s] 9) = w5) :
    Calls Try.prog 90 #[.func (.func 95) #[] #[.pointer (some ⟨w.heap.size, 0, none⟩), .pointer (some ⟨w.heap.size + 1, 0, none⟩), .pointer (some ⟨w.heap.size + 2, 0, none⟩)], .func (.func 88) #[] #[.pointer (some ⟨Z + 1 + 1, 0, none⟩), .pointer (some ⟨Z, 0, none⟩), .pointer (some ⟨Z + 1, 0, none⟩)]] w5 fun e w' => e = .returned (.int .i64 (chargeN l s fr to pence)) ∧ Below w5.heap.size w5 w' := by
  have hb : Below w.heap.size w w5 := by subst h5; exact by repeat (first | exact Below.refl _ _ | refine Below.alloc ?_ (by simp <;> omega) _ | refine bDrewN ?_ _ | refine Below.drew ?_)
  obtain ⟨e0, e1, e2⟩ := chargeCells hb hc.1 hc.2.1 hc.2.2
  exact sumCharge_any l s fr to pence g c (Z + 1 + 1) Z (Z + 1) w.heap.size (w.heap.size + 1) (w.heap.size + 2) w5 hE hf ht hp e2 e0 e1 (by subst h5; go_simp) (by subst h5; go_simp) (by subst h5; go_simp) (hv.below hb)
set_option maxRecDepth 100000 in
set_option maxHeartbeats 4000000 in
theorem Charge_ok (v : Value) (l : List Loan) (s : ByteArray) (fr to pence : Int) (w : World) (hv : LS w v l) (hm : l.length ≤ 4611686018427387904) (hs : s.size ≤ maxLen) (hEE : chargeE l s fr to pence = 0) :
    Calls Try.prog 49 #[v, .string s, .int .i64 fr, .int .i64 to, .int .i64 pence] w fun e w' => e = .returned (.tuple #[.int .i64 (chargeV l s fr to pence), .int .i64 (chargeE l s fr to pence)]) ∧ Below w.heap.size w w' := by
  have hn0 : chargeE l s fr to pence = chkE (validL l) (nameB s) ((allIn 0 100000 [fr, to] && decide (fr ≤ to)) && allIn 0 10000 [pence]) := rfl
  obtain ⟨W1, hW1⟩ : ∃ W1, ((w.alloc (.cells #[.int .i64 fr] 3)).alloc (.cells #[.int .i64 to] 3)).alloc (.cells #[.int .i64 pence] 3) = W1 := ⟨_, rfl⟩
  obtain ⟨hb1, c0, c1, c2⟩ := cst_start hW1
  have HB1 := Kp.mk hb1
  have HN : Kp (∀ W, Below W1.heap.size W1 W → Calls Try.prog 19 #[.string s] W fun e w' => e = .returned (.bool (nameB s)) ∧ Below W1.heap.size W1 w' ∧ Below W.heap.size W w') := ⟨fun W hW => (Name_any s W hs).mono fun e w' ⟨h1, h2⟩ => ⟨h1, hW.trans (h2.mono hW.size), h2⟩⟩
  have HA : Kp (∀ W u, RI W u [fr, to] → Calls Try.prog 53 #[u] W fun e w' => e = .returned (.bool (allIn 0 100000 [fr, to])) ∧ W = w') := ⟨fun W u hu => areDays_any u _ W hu (by simp)⟩
  have HW : Kp (∀ W u, RI W u [pence] → Calls Try.prog 59 #[.int .i64 0, .int .i64 10000, u] W fun e w' => e = .returned (.bool (allIn 0 10000 [pence])) ∧ W = w') := ⟨fun W u hu => within_any 0 10000 u _ W hu (by simp)⟩
  have HC : Kp (∀ W, Below W1.heap.size W1 W → ∀ n r, Calls Try.prog 61 #[v, .bool n, .bool r] W fun e w' => e = .returned (.int .i64 (chkE (validL l) n r)) ∧ Below W1.heap.size W1 w') := ⟨fun W hW n r => (checked_any v l n r W ((hv.below hb1).below hW) hm).mono fun e w' ⟨h1, h2⟩ => ⟨h1, hW.trans (h2.mono hW.size)⟩⟩
  have HV : Kp (∀ W, Below W1.heap.size W1 W → LS W v l) := ⟨fun W hW => (hv.below hb1).below hW⟩
  have HCC : Kp (∀ W, Below W1.heap.size W1 W → W.cell? ⟨w.heap.size, 0, none⟩ = some (.int .i64 fr) ∧ W.cell? ⟨w.heap.size + 1, 0, none⟩ = some (.int .i64 to) ∧ W.cell? ⟨w.heap.size + 1 + 1, 0, none⟩ = some (.int .i64 pence)) := ⟨fun W hW => chargeCells hW c0 c1 c2⟩
  obtain ⟨A, hA⟩ : ∃ A, allIn 0 100000 [fr, to] = A := ⟨_, rfl⟩
  have HAT : Kp (A = true → (0 ≤ fr ∧ fr ≤ 100000) ∧ (0 ≤ to ∧ to ≤ 100000)) := ⟨fun h => allIn_two (hA.trans h)⟩
  obtain ⟨P, hP⟩ : ∃ P, allIn 0 10000 [pence] = P := ⟨_, rfl⟩
  have HPT : Kp (P = true → 0 ≤ pence ∧ pence ≤ 10000) := ⟨fun h => allIn_one (hP.trans h)⟩
  obtain ⟨Q, hQ⟩ : ∃ Q, decide (fr ≤ to) = Q := ⟨_, rfl⟩
  have i8 : decide (fr ≤ to) = Q := hQ
  obtain ⟨n, hn⟩ : ∃ n, nameB s = n := ⟨_, rfl⟩
  rw [hA, hQ, hP, hn] at hn0
  rw [hA] at HA
  rw [hP] at HW
  rw [hn] at HN
  unfold chargeV
  obtain ⟨E, hE⟩ : ∃ E, chargeE l s fr to pence = E := ⟨_, rfl⟩
  rw [hE] at hn0 hEE ⊢
  obtain ⟨R, hR⟩ : ∃ R, ((A && Q) && P) = R := ⟨_, rfl⟩
  have HC1 : Kp (∀ W, Below W1.heap.size W1 W → Calls Try.prog 61 #[v, .bool n, .bool R] W fun e w' => e = .returned (.int .i64 E) ∧ Below W1.heap.size W1 w') := ⟨fun W hW => (HC.out _ hW n R).mono fun e w' ⟨h1, h2⟩ => ⟨by rw [h1, hn0, hR], h2⟩⟩
  have HN0 := Kp.mk hn0
  obtain ⟨g, c, rfl⟩ := hv.shape
  obtain ⟨N, hN⟩ : ∃ N, l.length = N := ⟨_, rfl⟩
  have HNN := Kp.mk hN
  rw [hN] at HC1 HV ⊢
  obtain ⟨Z, hZ⟩ : ∃ Z, w.heap.size = Z := ⟨_, rfl⟩
  have HZ := Kp.mk hZ
  rw [hZ] at HCC c0 c1 c2
  clear hm hN hA hQ hP hn hE hs hn0 HC hb1 hv
  by_cases hE0 : E = 0
  · subst hE0
    rw [if_pos rfl]
    obtain ⟨hva, -, hr⟩ := chkE_zero HN0.out.symm
    have hr2 := hr
    rw [hR] at hr2
    subst hr2
    rw [Bool.and_eq_true, Bool.and_eq_true] at hr
    obtain ⟨⟨rfl, rfl⟩, rfl⟩ := hr
    have HVA := Kp.mk hva
    clear hva hR HN0 hEE
    go_enter Try.func49, Try.ntmps49
    go_wp2
    try rw [hW1]
    try simp only [hZ]
    clear hW1 hZ
    go_region_held3 (fun w' => w'.cell? ⟨Z, 0, none⟩ = some (.int .i64 fr) ∧ w'.cell? ⟨Z + 1, 0, none⟩ = some (.int .i64 to) ∧ w'.cell? ⟨Z + 1 + 1, 0, none⟩ = some (.int .i64 pence)) (repeat (first | assumption | refine ⟨?_, ?_⟩ | refine cell_drew_some ?_ | refine Lib.cell?_alloc_some _ ?_))
      (first
        | (go_at_call 19; refine (HN.out _ (by (repeat (with_reducible first | exact Below.refl _ _ | assumption | refine Below.drew ?_ | refine bDrewN ?_ _ | refine bAl ?_)))).mono ?_; rintro en w6 ⟨rfl, hb6, hb7⟩; obtain ⟨f0, f1, f2⟩ := HCC.out _ hb6)
        | (go_at_call 53; refine (HA.out _ _ (by (repeat (first | exact ri_new2 _ _ _ _ | (with_reducible refine RI.below ?_ hb7) | (with_reducible refine RI.drew ?_) | exact ri_of2 (by go_simp) (by go_simp))))).mono ?_; rintro en w7 ⟨rfl, rfl⟩)
        | (go_at_call 59; refine (HW.out _ _ (by (repeat (first | exact ri_new1 _ _ _ | (with_reducible refine RI.below ?_ hb7) | (with_reducible refine RI.drew ?_) | exact ri_of1 (by go_simp))))).mono ?_; rintro en w7 ⟨rfl, rfl⟩)
        | (go_at_call 61; refine (HC1.out _ (by (repeat (with_reducible first | exact Below.refl _ _ | assumption | refine Below.drew ?_ | refine bDrewN ?_ _ | refine bAl ?_)))).mono ?_; rintro en w8 ⟨rfl, hb8⟩; obtain ⟨f3, f4, f5⟩ := HCC.out _ hb8))
    all_goals
      have HTL : Kp (∀ w5, ((w8.alloc (.cells #[.slice g N c] 22)).alloc (.cells #[.func (.func 87) #[] #[]] 71)).alloc (.cells #[.string s] 9) = w5 → Calls Try.prog 90 #[.func (.func 95) #[] #[.pointer (some ⟨w8.heap.size, 0, none⟩), .pointer (some ⟨w8.heap.size + 1, 0, none⟩), .pointer (some ⟨w8.heap.size + 2, 0, none⟩)], .func (.func 88) #[] #[.pointer (some ⟨Z + 1 + 1, 0, none⟩), .pointer (some ⟨Z, 0, none⟩), .pointer (some ⟨Z + 1, 0, none⟩)]] w5 fun e w' => e = .returned (.int .i64 (chargeN l s fr to pence)) ∧ Below w5.heap.size w5 w') := ⟨fun w5 h5 => by
        have hv8 := HV.out w8 hb8
        have hnn := HNN.out
        subst hnn
        exact chargeTail_any l s fr to pence g c Z w8 w5 HVA.out (HAT.out trivial).1 (HAT.out trivial).2 (HPT.out trivial) ⟨f3, f4, f5⟩ hv8 h5⟩
      have HB8 : Kp (Below w.heap.size w w8) := ⟨HB1.out.trans (hb8.mono HB1.out.size)⟩
      clear hb6 hb7 hb8 f0 f1 f2 c0 c1 c2
      go_wp2_with fail
      refine (thoseS_any _ _ _ _ _ _).mono ?_
      rintro en w5 ⟨rfl, hw5⟩
      have HSV := Kp.mk (HTL.out w5 hw5)
      have HB5 : Kp (Below w.heap.size w w5) := ⟨by rw [← hw5]; exact ((HB8.out.alloc HB8.out.size _).alloc (by have := HB8.out.size; simp; omega) _).alloc (by have := HB8.out.size; simp; omega) _⟩
      clear hw5 HTL
      go_wp2_with fail
      refine HSV.out.mono ?_
      rintro en w9 ⟨rfl, hb9⟩
      have HB9 := Kp.mk (HB5.out.trans (hb9.mono HB5.out.size))
      clear hb9
      go_wp2
      go_ret2
      exact ⟨rfl, HB9.out⟩
  · exact absurd hEE hE0
end Go.Proofs.Ytaofjomocefdkaa.Ln
