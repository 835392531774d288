/-
  WALKS (layer 9, loan): the iterator over a row of spans; sums of what is counted.
-/
import Derived.Test.YtaofjomocefdkaaLnThose
namespace Go.Proofs.Ytaofjomocefdkaa.Ln
open Go Go.RowKit Go.Sort
attribute [local go_sem] Oper.semAt_some

def SG (g : Option Addr) (k : Nat) : Prop := ∃ o, g = some ⟨k, o, none⟩
def encP (p : Nat × (Int × Int)) : Array Value := #[.int .i64 p.1, .agg #[.int .i64 p.2.1, .int .i64 p.2.2]]
def spP (l : List (Int × Int)) (k : Nat) : List (Nat × (Int × Int)) := (l.zipIdx.take k).map fun p => (p.2, p.1)
def spL (l : List (Int × Int)) : List (Nat × (Int × Int)) := spP l l.length
theorem spP_zero (l : List (Int × Int)) : spP l 0 = [] := by simp [spP]
theorem spP_succ {l : List (Int × Int)} {k : Nat} {x : Int × Int} (hx : l[k]? = some x) : spP l (k + 1) = spP l k ++ [(k, x)] := by
  unfold spP
  have hz : l.zipIdx[k]? = some (x, k) := by rw [List.getElem?_zipIdx, hx]; simp
  rw [List.take_add_one, hz, List.map_append]
  rfl
theorem spP_prefix (l : List (Int × Int)) (k : Nat) : spP l k <+: spL l := by
  unfold spL spP
  rw [List.take_of_length_le (l := l.zipIdx) (i := l.length) (by simp)]
  exact (List.take_prefix k l.zipIdx).map _
theorem spP_snd (l : List (Int × Int)) : (spL l).map Prod.snd = l := by
  unfold spL spP
  rw [List.take_of_length_le (by simp), List.map_map]
  apply List.ext_getElem?
  intro i
  rw [List.getElem?_map, List.getElem?_zipIdx]
  cases l[i]? <;> rfl
/-- Spans laid in a slice. -/
def SS (w : World) (v : Value) (l : List (Int × Int)) : Prop := ∃ g c, v = .slice g l.length c ∧ ∀ i x, l[i]? = some x → ∃ b, g = some ⟨b, 0, none⟩ ∧ w.cell? ⟨b, i * 2, none⟩ = some (.int .i64 x.1) ∧ w.cell? ⟨b, i * 2 + 1, none⟩ = some (.int .i64 x.2)
theorem SS.below {w W : World} {v : Value} {l : List (Int × Int)} (h : SS w v l) (hb : Below w.heap.size w W) : SS W v l := by
  obtain ⟨g, c, e, hi⟩ := h
  refine ⟨g, c, e, fun i x hx => ?_⟩
  obtain ⟨b, hg, h0, h1⟩ := hi i x hx
  exact ⟨b, hg, (hb.cell (p := ⟨b, _, none⟩) (World.block_lt_of_cell? w _ h0)).trans h0, (hb.cell (p := ⟨b, _, none⟩) (World.block_lt_of_cell? w _ h1)).trans h1⟩
theorem SS.same {w V : World} {g : Option Addr} {n c : Nat} {l : List (Int × Int)} (h : SS w (.slice g n c) l) (hb : ∀ b o, g = some ⟨b, o, none⟩ → V.heap[b]? = w.heap[b]?) : SS V (.slice g n c) l := by
  obtain ⟨g', c', e, hi⟩ := h
  simp only [Value.slice.injEq] at e
  obtain ⟨rfl, rfl, rfl⟩ := e
  refine ⟨g, c, rfl, fun i x hx => ?_⟩
  obtain ⟨b, hg, h0, h1⟩ := hi i x hx
  have e := hb b 0 hg
  exact ⟨b, hg, (World.cell?_of_block (a := ⟨b, _, none⟩) e).trans h0, (World.cell?_of_block (a := ⟨b, _, none⟩) e).trans h1⟩
theorem OwnS.ss {w : World} {B0 : Nat} {v : Value} {l : List (Int × Int)} (h : OwnS w B0 v l) : SS w v l := h.at
theorem all_any (g : Option Addr) (n c : Nat) (w : World) : Calls Try.prog 78 #[.slice g n c] w fun en w' => en = .returned (.func (.func 102) #[] #[.pointer (some ⟨w.heap.size, 0, none⟩)]) ∧ w.alloc (.cells #[.slice g n c] 90) = w' := by
  go_enter Try.func78, Try.ntmps78
  go_wp2
  go_ret
  exact ⟨rfl, rfl⟩
set_option maxRecDepth 100000 in
set_option maxHeartbeats 2000000 in
theorem all_yields (n : Nat) (_hn : 1 ≤ n) (L c : Nat) (g : Option Addr) (l : List (Int × Int)) (w : World) (hlen : l.length ≤ 100000)
    (hL : w.cell? ⟨L, 0, none⟩ = some (.slice g l.length c)) (hv : SS w (.slice g l.length c) l) :
    YieldsS 0 encP Fence.wide n Try.prog 102 #[.pointer (some ⟨L, 0, none⟩)] (Keep (SG g) 0) (spL l) w := by
  intro lp J Jx W hW hsz hJ hJx hY h0
  have cL : W.cell? ⟨L, 0, none⟩ = some (.slice g l.length c) := (hW.cell (p := ⟨L, 0, none⟩) (World.block_lt_of_cell? _ _ hL)).trans hL
  have HV : Kp (SS W (.slice g l.length c) l) := ⟨hv.below hW⟩
  have HJ0 : Kp (J (spP l 0) W) := ⟨by rw [spP_zero]; exact h0⟩
  have HYY := Kp.mk hY
  have HJT := Kp.mk hJ
  obtain ⟨N, hN⟩ : ∃ N, l.length = N := ⟨_, rfl⟩
  have HN := Kp.mk hN
  have HNL : Kp (N ≤ 100000) := ⟨hN ▸ hlen⟩
  rw [hN] at cL HV
  clear h0 hY hJ hJx hL hv hW hN hlen
  refine callsIn_of_wp Try.func102 rfl trivial ?_ rfl
  simp only [Try.ntmps102, List.size_toArray, List.length_cons, List.length_nil, Nat.reduceAdd, Nat.reduceSub, Array.replicate_succ, Array.replicate_zero, List.push_toArray, List.append_toArray, List.nil_append, List.cons_append]
  gi_wp2
  gi_loopw [7] (fun a wr => ∃ k : Nat, k ≤ N ∧ a = .int .i64 (k : Int) ∧ Kp (SS wr (.slice g N c) l) ∧ Kp (W.heap.size ≤ wr.heap.size) ∧ J (spP l k) wr) (fun a _ => N - (intOf a).toNat)
  case atStart => exact ⟨0, Nat.zero_le _, rfl, HV, ⟨Nat.le_refl _⟩, HJ0.out⟩
  case round =>
    clear HJ0 HV cL
    obtain ⟨k, hk, rfl, HV, HZ, hJk⟩ := hrel
    have HJk := Kp.mk hJk
    clear hJk
    by_cases hlt : k < N
    · obtain ⟨x, hx⟩ : ∃ x, l[k]? = some x := ⟨_, List.getElem?_eq_getElem (by rw [HN.out]; exact hlt)⟩
      obtain ⟨g', c', e', hi⟩ := HV.out
      obtain ⟨b, hg, d0, d1⟩ := hi k x hx
      simp only [Value.slice.injEq] at e'
      obtain ⟨e1', -, -⟩ := e'
      rw [hg] at e1'
      subst e1'
      have o1 : (k : Int) < (N : Int) := by omega
      have o4 : k ≤ 100000 := by have := HNL.out; omega
      have hfs := spP_succ hx
      have HPF : Kp (spP l (k + 1) <+: spL l) := ⟨spP_prefix l (k + 1)⟩
      obtain ⟨xa, xb⟩ := x
      simp only at d0 d1
      have hbw : Below wr.heap.size wr (wr.alloc (.cells #[.int .i64 xa, .int .i64 xb] 86)) := (Below.refl _ wr).alloc (Nat.le_refl _) _
      have HV2 : Kp (SS (wr.alloc (.cells #[.int .i64 xa, .int .i64 xb] 86)) (.slice (some ⟨b, 0, none⟩) N c) l) := ⟨HV.out.below hbw⟩
      have HZ2 : Kp (W.heap.size ≤ (wr.alloc (.cells #[.int .i64 xa, .int .i64 xb] 86)).heap.size) := ⟨Nat.le_trans HZ.out hbw.size⟩
      obtain ⟨fn, tmps, assign, body, hy, hRd⟩ := HYY.out (spP l k) (k, (xa, xb)) (wr.alloc (.cells #[.int .i64 xa, .int .i64 xb] 86)) (HJT.out _ wr _ none HJk.out (grown_below hbw none) (fun r e => by cases e)) (by rw [← hfs]; exact HPF.out) (by have := HZ2.out; omega)
      rw [← hfs] at hRd
      simp only [encP] at hy
      have HRd := Kp.mk hRd
      clear hRd hfs hbw hx hg hi HJk HV HZ
      gi_wp2
      refine HRd.out.mono ?_
      rintro en W3 (⟨rfl, hJ3, hk3⟩ | ⟨rfl, hx3, hf3⟩)
      · have HJ3 := Kp.mk hJ3
        have HV3 : Kp (SS W3 (.slice (some ⟨b, 0, none⟩) N c) l) := ⟨HV2.out.same fun b' o' h' => hk3.same b' ⟨o', h'⟩⟩
        have HZ3 : Kp (W.heap.size ≤ W3.heap.size) := ⟨Nat.le_trans HZ2.out hk3.size⟩
        clear hJ3 hk3 hy d0 d1
        gi_wp2
        go_roundw
        case rel => exact ⟨k + 1, by omega, by go_num, HV3, HZ3, HJ3.out⟩
        case measure => simp [intOf]; omega
      · have HX3 : Kp (Jx (spP l (k + 1)) W3) := ⟨hx3⟩
        clear hx3 hf3 hy d0 d1
        gi_wp2
        exact bodyPost_ret (results_none rfl _ _ _) rfl ⟨⟨_, rfl⟩, .inr ⟨_, HPF.out, HX3.out⟩⟩
    · have hkm : k = N := by omega
      have HJF : Kp (J (spL l) wr) := ⟨by have h := HJk.out; rw [hkm, ← HN.out] at h; exact h⟩
      have o1 : ¬ (k : Int) < (N : Int) := by omega
      clear hkm
      gi_wp2
      go_end0
      exact ⟨⟨_, rfl⟩, .inl HJF.out⟩
theorem sum_snoc {E : Type} (f : E → Int) (l : List E) (x : E) : ((l ++ [x]).map f).sum = (l.map f).sum + f x := by
  rw [List.map_append, List.sum_append]
  simp
theorem sum_bd {E : Type} (f : E → Int) (M : Int) : ∀ (l : List E), (∀ x ∈ l, 0 ≤ f x ∧ f x ≤ M) → 0 ≤ (l.map f).sum ∧ (l.map f).sum ≤ M * l.length
  | [], _ => by simp
  | x :: l, h => by
    obtain ⟨h1, h2⟩ := sum_bd f M l (fun y hy => h y (by simp [hy]))
    obtain ⟨h3, h4⟩ := h x (by simp)
    simp only [List.map_cons, List.sum_cons, List.length_cons]
    rw [show ((l.length + 1 : Nat) : Int) = (l.length : Int) + 1 by omega, Int.mul_add]
    omega
theorem sm_start {w W0 : World} {v : Value} {Z : Nat} {t t' : TypeId} (hZ : w.heap.size = Z) (h : (w.alloc (.cells #[v] t)).alloc (.cells #[.int .i64 0] t') = W0) : W0.heap.size = Z + 2 ∧ Hd w [(Z, 0, v), (Z + 1, 0, .int .i64 0)] W0 := by
  subst h
  subst hZ
  refine ⟨by simp, by repeat (first | exact Below.refl _ _ | refine Below.alloc ?_ (by simp <;> omega) _ | refine bDrewN ?_ _ | refine Below.drew ?_), fun p hp => ?_⟩
  simp only [List.mem_cons, List.not_mem_nil, or_false] at hp
  rcases hp with rfl | rfl <;> exact ⟨by go_simp, by go_simp⟩
theorem sm_store {w V : World} {Z : Nat} {v : Value} {m m' : Int} (h : Hd w [(Z, 0, v), (Z + 1, 0, .int .i64 m)] V) (hZ : w.heap.size ≤ Z) : Hd w [(Z, 0, v), (Z + 1, 0, .int .i64 m')] (V.setCell ⟨Z + 1, 0, none⟩ (.int .i64 m')) := by
  obtain ⟨a0, z0⟩ := h.cells (Z, 0, v) (by simp)
  obtain ⟨a1, z1⟩ := h.cells (Z + 1, 0, .int .i64 m) (by simp)
  simp only at a0 z0 a1 z1
  refine ⟨h.below.setCell (by simp only; omega) _, fun p hp => ?_⟩
  simp only [List.mem_cons, List.not_mem_nil, or_false] at hp
  rcases hp with rfl | rfl
  · exact ⟨by simp [go_sem, a0], by simp [go_sem, z0]⟩
  · exact ⟨by simp [go_sem, a1], by simp [go_sem, z1]⟩
theorem two_abide {X Y : World} {U B k : Nat} {u v : Value} {row : Option Nat} (h : X.cell? ⟨U, 0, none⟩ = some u ∧ X.cell? ⟨U, 1, none⟩ = some v) (g : X.grownBy Y row) (hr : ∀ r, row = some r → B ≤ r ∧ ((B + 2 ≤ r ∧ r < B + 2 + k) ∨ ∃ o : Obj, X.heap[r]? = some o ∧ o.isCells = false)) (hU : B + 2 + k ≤ U) : Y.cell? ⟨U, 0, none⟩ = some u ∧ Y.cell? ⟨U, 1, none⟩ = some v := by
  have e : Y.heap[U]? = X.heap[U]? := g.block U (World.block_lt_of_cell? _ _ h.1) (fun e => by
    obtain ⟨h1, h2 | ⟨p, hp, hc⟩⟩ := hr U e.symm
    · omega
    · rw [cells_of h.1 p hp] at hc; cases hc)
  exact ⟨(World.cell?_of_block (a := ⟨U, _, none⟩) e).trans h.1, (World.cell?_of_block (a := ⟨U, _, none⟩) e).trans h.2⟩
theorem lat_abide {X Y : World} {U B k : Nat} {x : Loan} {row : Option Nat} (h : LAt X U 0 x) (g : X.grownBy Y row) (hr : ∀ r, row = some r → B ≤ r ∧ ((B + 2 ≤ r ∧ r < B + 2 + k) ∨ ∃ o : Obj, X.heap[r]? = some o ∧ o.isCells = false)) (hU : B + 2 + k ≤ U) : LAt Y U 0 x :=
  h.same (g.block U h.lt (fun e => by
    obtain ⟨h1, h2 | ⟨p, hp, hc⟩⟩ := hr U e.symm
    · omega
    · rw [cells_of h.c0 p hp] at hc; cases hc))
set_option maxRecDepth 100000 in
set_option maxHeartbeats 2000000 in
theorem sumS_any (gf : Nat) (lb : Array Value) (fr to : Int) (S : Nat → Prop) (xs : List (Nat × (Int × Int))) (cnt : (Int × Int) → Int) (M : Int) (w : World)
    (hg : ∀ args W, (callFunc gf args).run Try.prog W = .ok (.enter gf args) W)
    (hy : Kp (∀ W, Below w.heap.size w W → YieldsS 0 encP Fence.wide 6 Try.prog gf lb (Keep S 0) xs W))
    (hS : ∀ k, S k → k < w.heap.size) (hM : 0 ≤ M ∧ M ≤ 2000000000) (hlen : xs.length ≤ 1000)
    (hQ : Kp (∀ W x, x ∈ xs → Below w.heap.size w W → Calls Try.prog 79 #[.agg #[.int .i64 fr, .int .i64 to], .agg #[.int .i64 x.2.1, .int .i64 x.2.2] ] W fun e w' => e = .returned (.int .i64 (cnt x.2)) ∧ Below W.heap.size W w'))
    (hcnt : ∀ x ∈ xs, 0 ≤ cnt x.2 ∧ cnt x.2 ≤ M) :
    Calls Try.prog 77 #[.func (.func gf) #[] lb, .func (.func 79) #[.agg #[.int .i64 fr, .int .i64 to]] #[]] w fun en w' => en = .returned (.int .i64 ((xs.map fun x => cnt x.2).sum)) ∧ Below w.heap.size w w' := by
  refine (callsIn_wide (n := 7)).1 ?_
  refine callsIn_of_wp_marks Try.func77 rfl trivial ?_ rfl
  simp only [Try.ntmps77, List.size_toArray, List.length_cons, List.length_nil, Nat.reduceAdd, Nat.reduceSub, Array.replicate_succ, Array.replicate_zero, List.push_toArray, List.append_toArray, List.nil_append, List.cons_append]
  obtain ⟨Z, hZ⟩ : ∃ Z, w.heap.size = Z := ⟨_, rfl⟩
  have HZ := Kp.mk hZ
  have HSL : Kp (∀ k, S k → k < Z) := ⟨fun k hk => by have := hS k hk; omega⟩
  clear hS
  gi_wp2
  obtain ⟨W0, hW0⟩ : ∃ W0, (w.alloc (.cells #[.func (.func 79) #[.agg #[.int .i64 fr, .int .i64 to]] #[]] 91)).alloc (.cells #[.int .i64 0] 3) = W0 := ⟨_, rfl⟩
  obtain ⟨z0, hd0⟩ := sm_start hZ hW0
  have HW : Kp (W0.heap.size = Z + 2) := ⟨z0⟩
  have HD0 : Kp (Hd w [(Z, 0, .func (.func 79) #[.agg #[.int .i64 fr, .int .i64 to]] #[]), (Z + 1, 0, .int .i64 ((([] : List (Nat × (Int × Int))).map fun x => cnt x.2).sum))] W0) := ⟨hd0⟩
  clear z0 hd0
  try rw [hW0]
  clear hW0
  try simp only [hZ]
  clear hZ
  refine wpIn_yieldsS (k := 0) (enc := encP) (xs := xs) rfl (by omega) (gf := gf) (lb := lb) rfl trivial hg (fun _ => rfl)
    (hy.out W0 HD0.out.below) Keep.trans (fun V o o' _ _ _ => Keep.putObj (by omega) (fun hk => by have := HW.out; have := HSL.out _ hk; omega))
    (fun pre V => Hd w [(Z, 0, .func (.func 79) #[.agg #[.int .i64 fr, .int .i64 to]] #[]), (Z + 1, 0, .int .i64 ((pre.map fun x => cnt x.2).sum))] V)
    (fun _ _ _ => False)
    (fun p => Turns.abides (C := Z + 2) (Hd.turns (by have := HZ.out; omega) (fun p hp => .inl (by
      simp only [List.mem_cons, List.not_mem_nil, or_false] at hp
      rcases hp with rfl | rfl <;> simp only <;> omega))) (by have := HW.out; omega)) (fun _ _ => Turns.abides (C := Z) turns_const (by have := HW.out; omega))
    HD0.out
    (fun pre x a' V => Hd w [(Z, 0, .func (.func 79) #[.agg #[.int .i64 fr, .int .i64 to]] #[]), (Z + 1, 0, .int .i64 ((pre.map fun x => cnt x.2).sum))] V ∧ ∃ G, Z + 4 ≤ G ∧ (V.cell? ⟨G, 0, none⟩ = some (.int .i64 x.2.1) ∧ V.cell? ⟨G, 1, none⟩ = some (.int .i64 x.2.2)) ∧ a' = { tmps := #[.func (.func gf) #[] lb, .func (.func 79) #[.agg #[.int .i64 fr, .int .i64 to]] #[], undef, .pointer (some ⟨Z, 0, none⟩), .int .i64 0, .pointer (some ⟨Z + 1, 0, none⟩), undef, .pointer (some ⟨G, 0, none⟩), .func (.func gf) #[] lb, .int .i64 x.1, .agg #[.int .i64 x.2.1, .int .i64 x.2.2], undef, undef, undef, undef, undef, undef], defers := [] })
    ?ax ?assign ?body ?done ?stop
  case ax =>
    rintro pre x a' X V row ⟨hi, G, hG, hx, ha⟩ g hr
    exact ⟨Turns.abides (C := Z + 2) (Hd.turns (by have := HZ.out; omega) (fun p hp => .inl (by
      simp only [List.mem_cons, List.not_mem_nil, or_false] at hp
      rcases hp with rfl | rfl <;> simp only <;> omega))) (by have := HW.out; omega) X V row hi g hr, G, hG, two_abide hx g hr (by have := HW.out; omega), ha⟩
  case assign =>
    rintro l2 pre ⟨xi, xa, xb⟩ V hi _ hsz
    have HI := Kp.mk hi
    clear hi
    have ez : ((#[9, 10] : Array Tmp).zip (encP (xi, (xa, xb)))).foldl (fun tmps (q : Tmp × Value) => tmps.setIfInBounds q.1 q.2) #[.func (.func gf) #[] lb, .func (.func 79) #[.agg #[.int .i64 fr, .int .i64 to]] #[], undef, .pointer (some ⟨Z, 0, none⟩), .int .i64 0, .pointer (some ⟨Z + 1, 0, none⟩), undef, undef, .func (.func gf) #[] lb, undef, undef, undef, undef, undef, undef, undef, undef] = #[.func (.func gf) #[] lb, .func (.func 79) #[.agg #[.int .i64 fr, .int .i64 to]] #[], undef, .pointer (some ⟨Z, 0, none⟩), .int .i64 0, .pointer (some ⟨Z + 1, 0, none⟩), undef, undef, .func (.func gf) #[] lb, .int .i64 xi, .agg #[.int .i64 xa, .int .i64 xb], undef, undef, undef, undef, undef, undef] := by simp [encP]
    rw [ez]
    clear ez
    gi_wp2
    have hzv : Z + 4 ≤ V.heap.size := by have := HW.out; omega
    have hbb : Below V.heap.size V (V.alloc (.cells #[.int .i64 xa, .int .i64 xb] 86)) := (Below.refl _ _).alloc (Nat.le_refl _) _
    exact ⟨alloc_keeps _ _ _, Keep.below hbb (fun j hj => by have := HW.out; have := HSL.out _ hj; omega), HI.out.on hbb, V.heap.size, hzv, ⟨by go_simp, by go_simp⟩, rfl⟩
  case body =>
    rintro l2 pre x a' V ⟨hd, G, hG, hgr, rfl⟩ hpre hsz
    have hin : x ∈ xs := hpre.subset (by simp)
    have HQX : Kp (∀ W, Below w.heap.size w W → Calls Try.prog 79 #[.agg #[.int .i64 fr, .int .i64 to], .agg #[.int .i64 x.2.1, .int .i64 x.2.2] ] W fun e w' => e = .returned (.int .i64 (cnt x.2)) ∧ Below W.heap.size W w') := ⟨fun W hW => hQ.out W x hin hW⟩
    have HM : Kp (((pre ++ [x]).map fun x => cnt x.2).sum = (pre.map fun x => cnt x.2).sum + cnt x.2) := ⟨sum_snoc _ _ _⟩
    have hbd := sum_bd (fun x : Nat × (Int × Int) => cnt x.2) M pre (fun y hy => hcnt y (hpre.subset (by simp [hy])))
    have hbx := hcnt x hin
    have hpl : pre.length ≤ 1000 := by
      have h2 := hpre.length_le
      rw [List.length_append] at h2
      omega
    have hpi : (pre.length : Int) ≤ 1000 := by omega
    have hmm : M * (pre.length : Int) ≤ 2000000000 * 1000 := Int.mul_le_mul hM.2 hpi (Int.natCast_nonneg _) (by decide)
    obtain ⟨m, hm⟩ : ∃ m, (pre.map fun x => cnt x.2).sum = m := ⟨_, rfl⟩
    obtain ⟨r, hr⟩ : ∃ r, cnt x.2 = r := ⟨_, rfl⟩
    rw [hm] at hbd hd HM
    rw [hr] at hbx HQX HM
    have w1 : IntKind.i64.wrap (m + r) = m + r := IntWalk.i64_in _ (by omega)
    have HD := Kp.mk hd
    have hGV : G < V.heap.size := World.block_lt_of_cell? _ _ hgr.1
    have HSZ : Kp (W0.heap.size = Z + 2 ∧ W0.heap.size + 2 ≤ V.heap.size) := ⟨HW.out, hsz⟩
    obtain ⟨a1, -⟩ := hd.cells (Z, 0, .func (.func 79) #[.agg #[.int .i64 fr, .int .i64 to]] #[]) (by simp)
    obtain ⟨a2, a2z⟩ := hd.cells (Z + 1, 0, .int .i64 m) (by simp)
    simp only at a1 a2 a2z
    have b1 : V.drew.cell? ⟨Z, 0, none⟩ = some (.func (.func 79) #[.agg #[.int .i64 fr, .int .i64 to]] #[]) := a1
    have b2 : V.drew.cell? ⟨Z + 1, 0, none⟩ = some (.int .i64 m) := a2
    obtain ⟨xi, xa, xb⟩ := x
    obtain ⟨d0, d1⟩ := hgr
    simp only at d0 d1
    have b3 : V.drew.cell? ⟨G, 0, none⟩ = some (.int .i64 xa) := d0
    have b4 : V.drew.cell? ⟨G, 1, none⟩ = some (.int .i64 xb) := d1
    have hZ1 : Z + 1 < V.heap.size := by omega
    clear hm hr hbd hbx hmm hin hpre hpl hd a1 hsz
    simp only at HQX
    gi_wp2
    gi_region_with (refine ⟨trivial, (CallsIn.inRound _ (callsIn_wide.2 (HQX.out _ (Below.drew HD.out.below)))).mono ?_⟩; rintro en W1 ⟨rfl, hb1⟩; have hbv : Below V.heap.size V W1 := (Below.drew (Below.refl _ _)).trans hb1; have n2 := (hbv.cell (p := ⟨Z + 1, 0, none⟩) hZ1).trans a2; have n2z := (hbv.frozen (p := ⟨Z + 1, 0, none⟩) hZ1).trans a2z; have HX1 := Kp.mk hbv; clear hb1 hbv)
    all_goals
      gi_wp2
      have hz1 := HX1.out.size
      have hg1 := setCell_grown W1 (Z + 1) 0 (.int .i64 (m + r))
      refine ⟨(KeepsFrom.of_grownBy (grown_below HX1.out none) (fun j e => by cases e)).trans (KeepsFrom.of_grownBy hg1 (fun j e => by cases e; have := HSZ.out; omega)), (Keep.below HX1.out (fun j hj => by have := HSL.out _ hj; have := HSZ.out; omega)).trans (Keep.of_grown hg1 (fun j hj => by have := HSL.out _ hj; have := HSZ.out; omega) (fun r e => by cases e; exact ⟨by have := HSZ.out; omega, fun hk => by have := HSL.out _ hk; omega⟩)), ?_⟩
      show Hd w [(Z, 0, .func (.func 79) #[.agg #[.int .i64 fr, .int .i64 to]] #[]), (Z + 1, 0, .int .i64 (((pre ++ [_]).map fun x : Nat × (Int × Int) => cnt x.2).sum))] _
      rw [HM.out]
      exact sm_store (HD.out.on HX1.out) (by have := HZ.out; omega)
  case done =>
    rintro D V hD hi hd
    have hgb := grownBy_putObj' V D (.deferred none)
    have hi2 := Hd.turns (k := 0) (B := Z + 2) (by have := HZ.out; omega) (fun p hp => .inl (by
      simp only [List.mem_cons, List.not_mem_nil, or_false] at hp
      rcases hp with rfl | rfl <;> simp only <;> omega)) _ _ (some D) hi hgb (fun r e => by cases e; exact ⟨by have := HW.out; omega, .inr ⟨_, hd, rfl⟩⟩)
    have HD2 := Kp.mk hd
    have HI2 := Kp.mk hi2
    obtain ⟨c0, -⟩ := hi.cells (Z + 1, 0, .int .i64 ((xs.map fun x => cnt x.2).sum)) (by simp)
    simp only at c0
    obtain ⟨m, hm⟩ : ∃ m, (xs.map fun x => cnt x.2).sum = m := ⟨_, rfl⟩
    rw [hm] at c0
    clear hd hgb hi hi2
    gi_wp2
    refine ⟨by simp, .inl ⟨_, _, rfl, run_takeDeferred HD2.out, ?_⟩⟩
    exact ⟨.int .i64 m, by simp [results, Try.results77, go_sem], by rw [hm], HI2.out.below⟩
  case stop =>
    rintro D cd ys V hD hys hi hd
    exact hi.elim
set_option maxRecDepth 100000 in
set_option maxHeartbeats 2000000 in
theorem sumL_any (gf : Nat) (lb : Array Value) (P A B : Nat) (S : Nat → Prop) (xs : List (Nat × Loan)) (cnt : Loan → Int) (M : Int) (w : World)
    (hg : ∀ args W, (callFunc gf args).run Try.prog W = .ok (.enter gf args) W)
    (hy : Kp (∀ W, Below w.heap.size w W → YieldsS 0 encI Fence.wide 6 Try.prog gf lb (Keep S 0) xs W))
    (hS : ∀ k, S k → k < w.heap.size) (hM : 0 ≤ M ∧ M ≤ 2000000000) (hlen : xs.length ≤ 1000)
    (hQ : Kp (∀ W x, x ∈ xs → Below w.heap.size w W → Calls Try.prog 88 #[.agg #[.string x.2.p, .string x.2.t, .int .i64 x.2.out, .int .i64 x.2.due, .int .i64 x.2.back] , .pointer (some ⟨P, 0, none⟩), .pointer (some ⟨A, 0, none⟩), .pointer (some ⟨B, 0, none⟩)] W fun e w' => e = .returned (.int .i64 (cnt x.2)) ∧ Below W.heap.size W w'))
    (hcnt : ∀ x ∈ xs, 0 ≤ cnt x.2 ∧ cnt x.2 ≤ M) :
    Calls Try.prog 90 #[.func (.func gf) #[] lb, .func (.func 88) #[] #[.pointer (some ⟨P, 0, none⟩), .pointer (some ⟨A, 0, none⟩), .pointer (some ⟨B, 0, none⟩)]] w fun en w' => en = .returned (.int .i64 ((xs.map fun x => cnt x.2).sum)) ∧ Below w.heap.size w w' := by
  refine (callsIn_wide (n := 7)).1 ?_
  refine callsIn_of_wp_marks Try.func90 rfl trivial ?_ rfl
  simp only [Try.ntmps90, List.size_toArray, List.length_cons, List.length_nil, Nat.reduceAdd, Nat.reduceSub, Array.replicate_succ, Array.replicate_zero, List.push_toArray, List.append_toArray, List.nil_append, List.cons_append]
  obtain ⟨Z, hZ⟩ : ∃ Z, w.heap.size = Z := ⟨_, rfl⟩
  have HZ := Kp.mk hZ
  have HSL : Kp (∀ k, S k → k < Z) := ⟨fun k hk => by have := hS k hk; omega⟩
  clear hS
  gi_wp2
  obtain ⟨W0, hW0⟩ : ∃ W0, (w.alloc (.cells #[.func (.func 88) #[] #[.pointer (some ⟨P, 0, none⟩), .pointer (some ⟨A, 0, none⟩), .pointer (some ⟨B, 0, none⟩)]] 100)).alloc (.cells #[.int .i64 0] 3) = W0 := ⟨_, rfl⟩
  obtain ⟨z0, hd0⟩ := sm_start hZ hW0
  have HW : Kp (W0.heap.size = Z + 2) := ⟨z0⟩
  have HD0 : Kp (Hd w [(Z, 0, .func (.func 88) #[] #[.pointer (some ⟨P, 0, none⟩), .pointer (some ⟨A, 0, none⟩), .pointer (some ⟨B, 0, none⟩)]), (Z + 1, 0, .int .i64 ((([] : List (Nat × Loan)).map fun x => cnt x.2).sum))] W0) := ⟨hd0⟩
  clear z0 hd0
  try rw [hW0]
  clear hW0
  try simp only [hZ]
  clear hZ
  refine wpIn_yieldsS (k := 0) (enc := encI) (xs := xs) rfl (by omega) (gf := gf) (lb := lb) rfl trivial hg (fun _ => rfl)
    (hy.out W0 HD0.out.below) Keep.trans (fun V o o' _ _ _ => Keep.putObj (by omega) (fun hk => by have := HW.out; have := HSL.out _ hk; omega))
    (fun pre V => Hd w [(Z, 0, .func (.func 88) #[] #[.pointer (some ⟨P, 0, none⟩), .pointer (some ⟨A, 0, none⟩), .pointer (some ⟨B, 0, none⟩)]), (Z + 1, 0, .int .i64 ((pre.map fun x => cnt x.2).sum))] V)
    (fun _ _ _ => False)
    (fun p => Turns.abides (C := Z + 2) (Hd.turns (by have := HZ.out; omega) (fun p hp => .inl (by
      simp only [List.mem_cons, List.not_mem_nil, or_false] at hp
      rcases hp with rfl | rfl <;> simp only <;> omega))) (by have := HW.out; omega)) (fun _ _ => Turns.abides (C := Z) turns_const (by have := HW.out; omega))
    HD0.out
    (fun pre x a' V => Hd w [(Z, 0, .func (.func 88) #[] #[.pointer (some ⟨P, 0, none⟩), .pointer (some ⟨A, 0, none⟩), .pointer (some ⟨B, 0, none⟩)]), (Z + 1, 0, .int .i64 ((pre.map fun x => cnt x.2).sum))] V ∧ ∃ G, Z + 4 ≤ G ∧ LAt V G 0 x.2 ∧ a' = { tmps := #[.func (.func gf) #[] lb, .func (.func 88) #[] #[.pointer (some ⟨P, 0, none⟩), .pointer (some ⟨A, 0, none⟩), .pointer (some ⟨B, 0, none⟩)], undef, .pointer (some ⟨Z, 0, none⟩), .int .i64 0, .pointer (some ⟨Z + 1, 0, none⟩), undef, .pointer (some ⟨G, 0, none⟩), .func (.func gf) #[] lb, .int .i64 x.1, .agg #[.string x.2.p, .string x.2.t, .int .i64 x.2.out, .int .i64 x.2.due, .int .i64 x.2.back], undef, undef, undef, undef, undef, undef], defers := [] })
    ?ax ?assign ?body ?done ?stop
  case ax =>
    rintro pre x a' X V row ⟨hi, G, hG, hx, ha⟩ g hr
    exact ⟨Turns.abides (C := Z + 2) (Hd.turns (by have := HZ.out; omega) (fun p hp => .inl (by
      simp only [List.mem_cons, List.not_mem_nil, or_false] at hp
      rcases hp with rfl | rfl <;> simp only <;> omega))) (by have := HW.out; omega) X V row hi g hr, G, hG, lat_abide hx g hr (by have := HW.out; omega), ha⟩
  case assign =>
    rintro l2 pre ⟨xi, xp, xt, xo, xd, xb⟩ V hi _ hsz
    have HI := Kp.mk hi
    clear hi
    have ez : ((#[9, 10] : Array Tmp).zip (encI (xi, ⟨xp, xt, xo, xd, xb⟩))).foldl (fun tmps (q : Tmp × Value) => tmps.setIfInBounds q.1 q.2) #[.func (.func gf) #[] lb, .func (.func 88) #[] #[.pointer (some ⟨P, 0, none⟩), .pointer (some ⟨A, 0, none⟩), .pointer (some ⟨B, 0, none⟩)], undef, .pointer (some ⟨Z, 0, none⟩), .int .i64 0, .pointer (some ⟨Z + 1, 0, none⟩), undef, undef, .func (.func gf) #[] lb, undef, undef, undef, undef, undef, undef, undef, undef] = #[.func (.func gf) #[] lb, .func (.func 88) #[] #[.pointer (some ⟨P, 0, none⟩), .pointer (some ⟨A, 0, none⟩), .pointer (some ⟨B, 0, none⟩)], undef, .pointer (some ⟨Z, 0, none⟩), .int .i64 0, .pointer (some ⟨Z + 1, 0, none⟩), undef, undef, .func (.func gf) #[] lb, .int .i64 xi, .agg #[.string xp, .string xt, .int .i64 xo, .int .i64 xd, .int .i64 xb], undef, undef, undef, undef, undef, undef] := by simp [encI]
    rw [ez]
    clear ez
    gi_wp2
    have hzv : Z + 4 ≤ V.heap.size := by have := HW.out; omega
    have hbb : Below V.heap.size V (V.alloc (.cells #[.string xp, .string xt, .int .i64 xo, .int .i64 xd, .int .i64 xb] 62)) := (Below.refl _ _).alloc (Nat.le_refl _) _
    exact ⟨alloc_keeps _ _ _, Keep.below hbb (fun j hj => by have := HW.out; have := HSL.out _ hj; omega), HI.out.on hbb, V.heap.size, hzv, ⟨by go_simp, by go_simp, by go_simp, by go_simp, by go_simp⟩, rfl⟩
  case body =>
    rintro l2 pre x a' V ⟨hd, G, hG, hgr, rfl⟩ hpre hsz
    have hin : x ∈ xs := hpre.subset (by simp)
    have HQX : Kp (∀ W, Below w.heap.size w W → Calls Try.prog 88 #[.agg #[.string x.2.p, .string x.2.t, .int .i64 x.2.out, .int .i64 x.2.due, .int .i64 x.2.back] , .pointer (some ⟨P, 0, none⟩), .pointer (some ⟨A, 0, none⟩), .pointer (some ⟨B, 0, none⟩)] W fun e w' => e = .returned (.int .i64 (cnt x.2)) ∧ Below W.heap.size W w') := ⟨fun W hW => hQ.out W x hin hW⟩
    have HM : Kp (((pre ++ [x]).map fun x => cnt x.2).sum = (pre.map fun x => cnt x.2).sum + cnt x.2) := ⟨sum_snoc _ _ _⟩
    have hbd := sum_bd (fun x : Nat × Loan => cnt x.2) M pre (fun y hy => hcnt y (hpre.subset (by simp [hy])))
    have hbx := hcnt x hin
    have hpl : pre.length ≤ 1000 := by
      have h2 := hpre.length_le
      rw [List.length_append] at h2
      omega
    have hpi : (pre.length : Int) ≤ 1000 := by omega
    have hmm : M * (pre.length : Int) ≤ 2000000000 * 1000 := Int.mul_le_mul hM.2 hpi (Int.natCast_nonneg _) (by decide)
    obtain ⟨m, hm⟩ : ∃ m, (pre.map fun x => cnt x.2).sum = m := ⟨_, rfl⟩
    obtain ⟨r, hr⟩ : ∃ r, cnt x.2 = r := ⟨_, rfl⟩
    rw [hm] at hbd hd HM
    rw [hr] at hbx HQX HM
    have w1 : IntKind.i64.wrap (m + r) = m + r := IntWalk.i64_in _ (by omega)
    have HD := Kp.mk hd
    have hGV : G < V.heap.size := hgr.lt
    have HSZ : Kp (W0.heap.size = Z + 2 ∧ W0.heap.size + 2 ≤ V.heap.size) := ⟨HW.out, hsz⟩
    obtain ⟨a1, -⟩ := hd.cells (Z, 0, .func (.func 88) #[] #[.pointer (some ⟨P, 0, none⟩), .pointer (some ⟨A, 0, none⟩), .pointer (some ⟨B, 0, none⟩)]) (by simp)
    obtain ⟨a2, a2z⟩ := hd.cells (Z + 1, 0, .int .i64 m) (by simp)
    simp only at a1 a2 a2z
    have b1 : V.drew.cell? ⟨Z, 0, none⟩ = some (.func (.func 88) #[] #[.pointer (some ⟨P, 0, none⟩), .pointer (some ⟨A, 0, none⟩), .pointer (some ⟨B, 0, none⟩)]) := a1
    have b2 : V.drew.cell? ⟨Z + 1, 0, none⟩ = some (.int .i64 m) := a2
    obtain ⟨xi, xp, xt, xo, xd, xb⟩ := x
    obtain ⟨d0, d1, d2, d3, d4⟩ := hgr
    simp only [Nat.zero_add] at d0 d1 d2 d3 d4
    have b3 : V.drew.cell? ⟨G, 0, none⟩ = some (.string xp) := d0
    have b4 : V.drew.cell? ⟨G, 1, none⟩ = some (.string xt) := d1
    have b5 : V.drew.cell? ⟨G, 2, none⟩ = some (.int .i64 xo) := d2
    have b6 : V.drew.cell? ⟨G, 3, none⟩ = some (.int .i64 xd) := d3
    have b7 : V.drew.cell? ⟨G, 4, none⟩ = some (.int .i64 xb) := d4
    have hZ1 : Z + 1 < V.heap.size := by omega
    clear hm hr hbd hbx hmm hin hpre hpl hd a1 hsz
    simp only at HQX
    gi_wp2
    gi_region_with (refine ⟨trivial, (CallsIn.inRound _ (callsIn_wide.2 (HQX.out _ (Below.drew HD.out.below)))).mono ?_⟩; rintro en W1 ⟨rfl, hb1⟩; have hbv : Below V.heap.size V W1 := (Below.drew (Below.refl _ _)).trans hb1; have n2 := (hbv.cell (p := ⟨Z + 1, 0, none⟩) hZ1).trans a2; have n2z := (hbv.frozen (p := ⟨Z + 1, 0, none⟩) hZ1).trans a2z; have HX1 := Kp.mk hbv; clear hb1 hbv)
    all_goals
      gi_wp2
      have hz1 := HX1.out.size
      have hg1 := setCell_grown W1 (Z + 1) 0 (.int .i64 (m + r))
      refine ⟨(KeepsFrom.of_grownBy (grown_below HX1.out none) (fun j e => by cases e)).trans (KeepsFrom.of_grownBy hg1 (fun j e => by cases e; have := HSZ.out; omega)), (Keep.below HX1.out (fun j hj => by have := HSL.out _ hj; have := HSZ.out; omega)).trans (Keep.of_grown hg1 (fun j hj => by have := HSL.out _ hj; have := HSZ.out; omega) (fun r e => by cases e; exact ⟨by have := HSZ.out; omega, fun hk => by have := HSL.out _ hk; omega⟩)), ?_⟩
      show Hd w [(Z, 0, .func (.func 88) #[] #[.pointer (some ⟨P, 0, none⟩), .pointer (some ⟨A, 0, none⟩), .pointer (some ⟨B, 0, none⟩)]), (Z + 1, 0, .int .i64 (((pre ++ [_]).map fun x : Nat × Loan => cnt x.2).sum))] _
      rw [HM.out]
      exact sm_store (HD.out.on HX1.out) (by have := HZ.out; omega)
  case done =>
    rintro D V hD hi hd
    have hgb := grownBy_putObj' V D (.deferred none)
    have hi2 := Hd.turns (k := 0) (B := Z + 2) (by have := HZ.out; omega) (fun p hp => .inl (by
      simp only [List.mem_cons, List.not_mem_nil, or_false] at hp
      rcases hp with rfl | rfl <;> simp only <;> omega)) _ _ (some D) hi hgb (fun r e => by cases e; exact ⟨by have := HW.out; omega, .inr ⟨_, hd, rfl⟩⟩)
    have HD2 := Kp.mk hd
    have HI2 := Kp.mk hi2
    obtain ⟨c0, -⟩ := hi.cells (Z + 1, 0, .int .i64 ((xs.map fun x => cnt x.2).sum)) (by simp)
    simp only at c0
    obtain ⟨m, hm⟩ : ∃ m, (xs.map fun x => cnt x.2).sum = m := ⟨_, rfl⟩
    rw [hm] at c0
    clear hd hgb hi hi2
    gi_wp2
    refine ⟨by simp, .inl ⟨_, _, rfl, run_takeDeferred HD2.out, ?_⟩⟩
    exact ⟨.int .i64 m, by simp [results, Try.results90, go_sem], by rw [hm], HI2.out.below⟩
  case stop =>
    rintro D cd ys V hD hys hi hd
    exact hi.elim
end Go.Proofs.Ytaofjomocefdkaa.Ln
