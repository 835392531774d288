/-
  WALKS (layer 8, pest): the rooms that are reached on a day.
-/
import Derived.Test.YthkamfjjfkpekaaPeSpread
namespace Go.Proofs.Ythkamfjjfkpekaa.Pe
open Go Go.RowKit Go.Sort
attribute [local go_sem] Oper.semAt_some

/-- What the walk keeps: the day, the rooms so far. -/
def OC (Z : Nat) (day : Int) (T : Nat) : List (Nat × Nat × Value) := [(Z, 0, .int .i64 day), (Z + 1, 0, .int .i64 (T : Nat))]
theorem OC.lt {Z : Nat} {day : Int} {T : Nat} : ∀ p ∈ OC Z day T, p.1 < Z + 2 := by
  intro p hp
  simp only [OC, List.mem_cons, List.not_mem_nil, or_false] at hp
  rcases hp with rfl | rfl <;> simp
theorem on_start {w W0 : World} {day : Int} {T N c : Nat} {g : Option Addr} {t1 t2 t3 t4 : TypeId}
    (h0 : ((((w.alloc (.cells #[.int .i64 day] t1)).alloc (.cells #[.int .i64 (T : Nat)] t2)).alloc (.cells #[.slice g N c] t3)).alloc (.cells #[.int .i64 (T : Nat)] t4)) = W0) :
    W0.heap.size = w.heap.size + 4 ∧ Hd w (OC w.heap.size day T) W0 ∧ W0.cell? ⟨w.heap.size + 2, 0, none⟩ = some (.slice g N c) ∧ W0.cell? ⟨w.heap.size + 3, 0, none⟩ = some (.int .i64 (T : Nat)) := by
  subst h0
  refine ⟨by simp, ⟨by repeat (first | exact Below.refl _ _ | refine Below.alloc ?_ (by simp <;> omega) _ | refine bDrewN ?_ _ | refine Below.drew ?_), fun p hp => ?_⟩, by go_simp, by go_simp⟩
  simp only [OC, List.mem_cons, List.not_mem_nil, or_false] at hp
  rcases hp with rfl | rfl <;> exact ⟨by go_simp, by go_simp⟩
theorem OC.put {w W : World} {Z : Nat} {day : Int} {T T2 : Nat} (hZ : w.heap.size = Z) (k : Hd w (OC Z day T) W) : Hd w (OC Z day T2) (W.setCell ⟨Z + 1, 0, none⟩ (.int .i64 (T2 : Nat))) := by
  refine ⟨k.below.setCell (by simp only; omega) _, fun p hp => ?_⟩
  have H := k.cells
  simp only [OC, List.mem_cons, List.not_mem_nil, or_false, forall_eq_or_imp, forall_eq] at H hp
  obtain ⟨⟨h0, z0⟩, h1, z1⟩ := H
  rcases hp with rfl | rfl <;> exact ⟨by simp [go_sem, *], by simp [go_sem, *]⟩
/-- The rooms that are reached behind so many days. -/
def thereF (ds : List Dr) (S k : Nat) : Nat := spreadF ds S (k - 1)
theorem SK_lt {w : World} {g : Option Addr} {N c D k : Nat} {ds : List Dr} (h : DS w (.slice g N c) ds) (hN : ds.length = N) (hk : SK g D N k) : k = D ∨ k < w.heap.size := by
  rcases hk with rfl | ⟨h0, o, hg⟩
  · exact .inl rfl
  · obtain ⟨g', c', e, hi⟩ := h
    simp only [Value.slice.injEq] at e
    obtain ⟨rfl, -, -⟩ := e
    obtain ⟨b, o', hg', h1, -, -⟩ := hi 0 _ (List.getElem?_eq_getElem (by omega))
    rw [hg] at hg'
    simp only [Option.some.injEq, Addr.mk.injEq, and_true] at hg'
    obtain ⟨rfl, rfl⟩ := hg'
    exact .inr (World.block_lt_of_cell? _ _ h1)
theorem range_pre {pre : List Nat} {k y : Nat} (h : pre ++ [k] <+: List.range y) : k < y ∧ pre = List.range k := by
  have e := List.prefix_iff_eq_take.1 h
  rw [List.take_range, List.length_append, List.length_singleton] at e
  have hl := congrArg List.length e
  rw [List.length_append, List.length_singleton, List.length_range] at hl
  have hm : min (pre.length + 1) y = pre.length + 1 := hl.symm
  rw [hm, List.range_succ] at e
  obtain ⟨e1, e2⟩ := List.append_inj' e (by simp)
  have hk : k = pre.length := by simpa using e2
  subst hk
  exact ⟨by omega, e1⟩
set_option maxRecDepth 100000 in
set_option maxHeartbeats 1500000 in
theorem on_any (R : Nat) (day : Int) (v : Value) (ds : List Dr) (S : Nat) (w : World) (hv : DS w v ds) (hl : ds.length ≤ 1000) (hR : 1 ≤ R) (hR2 : R ≤ 12) (hd : DoorsAt R ds) (hS : S < 2 ^ R) :
    Calls Try.prog 52 #[.int .i64 day, v, .int .i64 (S : Nat)] w fun e w' => e = .returned (.int .i64 (spreadF ds S day.toNat : Nat)) ∧ Below w.heap.size w w' := by
  obtain ⟨m, hm, hend, hgo⟩ := spread_end hR hd hS
  have hS2 : S < 4096 := Nat.lt_of_lt_of_le hS (by have := Nat.pow_le_pow_right (n := 2) (by omega) hR2; simpa using this)
  obtain ⟨g, c, rfl⟩ := hv.shape
  obtain ⟨N, hN⟩ : ∃ N, ds.length = N := ⟨_, rfl⟩
  have HV := Kp.mk hv
  rw [hN] at HV hl
  rw [hN]
  have HN := Kp.mk hN
  have HY : Kp (∀ (W : World) (B D : Nat), Below w.heap.size w W → W.cell? ⟨B, 0, none⟩ = some (.int .i64 (S : Nat)) → W.cell? ⟨D, 0, none⟩ = some (.slice g N c) → YieldsS 0 (encY ds S) Fence.wide 6 Try.prog 92 #[.pointer (some ⟨B, 0, none⟩), .pointer (some ⟨D, 0, none⟩)] (Keep (SK g D N) 0) (List.range (m + 1)) W) := ⟨fun W B D hW hB hD => days_yields 6 (by omega) B D g N c ds S m W HN.out hl (hd.inn hR2) hS2 (by omega) hend hgo hB hD (HV.out.below hW)⟩
  have HEND := Kp.mk hend
  clear hv hN hl hd hS hS2 hend hgo
  refine (callsIn_wide (n := 7)).1 ?_
  refine callsIn_of_wp_marks Try.func52 rfl trivial ?_ rfl
  simp only [Try.ntmps52, List.size_toArray, List.length_cons, List.length_nil, Nat.reduceAdd, Nat.reduceSub, Array.replicate_succ, Array.replicate_zero, List.push_toArray, List.append_toArray, List.nil_append, List.cons_append]
  gi_wp2_with fail
  refine ⟨trivial, (callsIn_wide.2 (days_any g N c (S : Nat) _)).mono ?_⟩
  rintro en W0 ⟨rfl, hW0⟩
  obtain ⟨z0, d0, x0, y0⟩ := on_start (day := day) (T := S) hW0
  have HZ0 := Kp.mk z0
  have HD0 := Kp.mk d0
  have HX0 := Kp.mk x0
  have HY0 := Kp.mk y0
  clear z0 d0 x0 y0 hW0
  obtain ⟨Z, hZ⟩ : ∃ Z, w.heap.size = Z := ⟨_, rfl⟩
  have HZ := Kp.mk hZ
  rw [hZ] at HZ0 HD0 HX0 HY0
  gi_wp2
  try simp only [hZ]
  simp only [Nat.add_assoc, Nat.reduceAdd]
  clear hZ
  have HSK : Kp (∀ k, SK g (Z + 2) N k → k = Z + 2 ∨ k < Z) := ⟨fun k hk => by have := SK_lt HV.out HN.out hk; have := HZ.out; omega⟩
  refine wpIn_yieldsS (k := 0) (enc := encY ds S) (xs := List.range (m + 1)) rfl (by omega) (gf := 92) (lb := #[.pointer (some ⟨Z + 3, 0, none⟩), .pointer (some ⟨Z + 2, 0, none⟩)]) rfl trivial (enters_of Try.func92 (by kernel_rfl) rfl) (fun _ => rfl)
    (HY.out W0 (Z + 3) (Z + 2) HD0.out.below HY0.out HX0.out) Keep.trans (fun V o o' _ _ _ => Keep.putObj (by omega) (by intro e; have := HSK.out _ e; have := HZ0.out; omega))
    (fun pre V => Hd w (OC Z day (thereF ds S pre.length)) V ∧ ∀ r : Nat, r ∈ pre → (r : Int) ≤ day)
    (fun cd ys V => cd = .exit 0 ∧ Hd w (OC Z day (spreadF ds S day.toNat)) V)
    (fun q => Turns.abides (C := Z + 2) (fun X Y row hX gr hr => ⟨Hd.turns (k := 0) (B := Z + 2) (by have := HZ.out; omega) (fun p hp => .inl (OC.lt p hp)) X Y row hX.1 gr hr, hX.2⟩) (by have := HZ0.out; omega)) (fun cd q => Turns.abides (C := Z + 2) (fun X Y row hX gr hr => ⟨hX.1, Hd.turns (k := 0) (B := Z + 2) (by have := HZ.out; omega) (fun p hp => .inl (OC.lt p hp)) X Y row hX.2 gr hr⟩) (by have := HZ0.out; omega))
    ⟨HD0.out, fun r hr => by cases hr⟩
    (fun pre k a' V => (Hd w (OC Z day (thereF ds S pre.length)) V ∧ ∀ r : Nat, r ∈ pre → (r : Int) ≤ day) ∧ a' = { tmps := #[.int .i64 day, .slice g N c, .int .i64 (S : Nat), .pointer (some ⟨Z, 0, none⟩), undef, undef, .int .i64 0, .pointer (some ⟨Z + 1, 0, none⟩), .int .i64 (k : Nat), .int .i64 (spreadF ds S k : Nat), .int .i64 (S : Nat), .slice g N c, .int .i64 (S : Nat), .func (.func 92) #[] #[.pointer (some ⟨Z + 3, 0, none⟩), .pointer (some ⟨Z + 2, 0, none⟩)], .int .i64 (k : Nat), .int .i64 (spreadF ds S k : Nat), undef, undef, undef, undef, undef], defers := [] })
    ?ax ?assign ?body ?done ?stop
  case ax =>
    rintro pre k a' X V row ⟨⟨hi, hn⟩, ha⟩ gr hr
    exact ⟨⟨Turns.abides (C := Z + 2) (Hd.turns (k := 0) (B := Z + 2) (by have := HZ.out; omega) (fun p hp => .inl (OC.lt p hp))) (by have := HZ0.out; omega) X V row hi gr hr, hn⟩, ha⟩
  case assign =>
    rintro l2 pre k V ⟨hi, hn⟩ _ hsz
    have HI := Kp.mk hi
    have HNN := Kp.mk hn
    obtain ⟨F, hF⟩ : ∃ F, spreadF ds S k = F := ⟨_, rfl⟩
    clear hi hn
    have ez : ((#[14, 15] : Array Tmp).zip (encY ds S k)).foldl (fun tmps (q : Tmp × Value) => tmps.setIfInBounds q.1 q.2) #[.int .i64 day, .slice g N c, .int .i64 (S : Nat), .pointer (some ⟨Z, 0, none⟩), undef, undef, .int .i64 0, .pointer (some ⟨Z + 1, 0, none⟩), undef, undef, .int .i64 (S : Nat), .slice g N c, .int .i64 (S : Nat), .func (.func 92) #[] #[.pointer (some ⟨Z + 3, 0, none⟩), .pointer (some ⟨Z + 2, 0, none⟩)], undef, undef, undef, undef, undef, undef, undef] = #[.int .i64 day, .slice g N c, .int .i64 (S : Nat), .pointer (some ⟨Z, 0, none⟩), undef, undef, .int .i64 0, .pointer (some ⟨Z + 1, 0, none⟩), undef, undef, .int .i64 (S : Nat), .slice g N c, .int .i64 (S : Nat), .func (.func 92) #[] #[.pointer (some ⟨Z + 3, 0, none⟩), .pointer (some ⟨Z + 2, 0, none⟩)], .int .i64 (k : Nat), .int .i64 (F : Nat), undef, undef, undef, undef, undef] := by simp [encY, hF]
    rw [ez, hF]
    clear ez hF
    gi_wp2
    exact ⟨KeepsFrom.refl _ _, Keep.refl _ _ _ _, ⟨HI.out, HNN.out⟩, trivial⟩
  case body =>
    rintro l2 pre k a' V ⟨⟨hi, hn⟩, rfl⟩ hpre hsz
    obtain ⟨hky, rfl⟩ := range_pre hpre
    rw [List.length_range] at hi
    have HI := Kp.mk hi
    have HLE : Kp (∀ r : Nat, r < k → (r : Int) ≤ day) := ⟨fun r hr => hn r (List.mem_range.2 hr)⟩
    obtain ⟨F, hF⟩ : ∃ F, spreadF ds S k = F := ⟨_, rfl⟩
    have HF := Kp.mk hF
    have HSZ : Kp (W0.heap.size + 2 ≤ V.heap.size) := ⟨by omega⟩
    have H2 := hi.cells
    simp only [OC, List.mem_cons, List.not_mem_nil, or_false, forall_eq_or_imp, forall_eq] at H2
    obtain ⟨⟨c0, z0⟩, c1, z1⟩ := H2
    rw [hF]
    clear hi hn hpre hF
    by_cases hlt : day < (k : Int)
    · have HX : Kp (thereF ds S k = spreadF ds S day.toNat) := ⟨by
        unfold thereF
        congr 1
        by_cases h0 : k = 0
        · omega
        · have := HLE.out (k - 1) (by omega)
          omega⟩
      have HFI : Kp (Hd w (OC Z day (spreadF ds S day.toNat)) V) := ⟨by rw [← HX.out]; exact HI.out⟩
      gi_wp2
      exact ⟨KeepsFrom.refl _ _, rfl, HFI.out⟩
    · have HW3 : Kp (Hd w (OC Z day F) (V.setCell ⟨Z + 1, 0, none⟩ (.int .i64 (F : Nat)))) := ⟨OC.put HZ.out HI.out⟩
      have HKF : Kp (KeepsFrom W0.heap.size V (V.setCell ⟨Z + 1, 0, none⟩ (.int .i64 (F : Nat)))) := ⟨KeepsFrom.of_grownBy (setCell_grown _ _ _ _) (fun j e => by cases e; have := HZ0.out; omega)⟩
      have HKK : Kp (Keep (SK g (Z + 2) N) 0 (W0.heap.size + 2) V (V.setCell ⟨Z + 1, 0, none⟩ (.int .i64 (F : Nat)))) := ⟨Keep.of_grown (setCell_grown _ _ _ _) (fun j hj => by have := HSK.out j hj; have := HSZ.out; have := HZ0.out; omega) (fun r e => by cases e; have := HZ0.out; exact ⟨by omega, fun h => by have := HSK.out _ h; omega⟩)⟩
      have HLX : Kp (∀ r : Nat, r ∈ List.range k ++ [k] → (r : Int) ≤ day) := ⟨fun r hr => by
        rcases List.mem_append.1 hr with hr | hr
        · exact HLE.out r (List.mem_range.1 hr)
        · rw [List.mem_singleton.1 hr]; omega⟩
      have HIF : Kp (Hd w (OC Z day (thereF ds S (List.range k ++ [k]).length)) (V.setCell ⟨Z + 1, 0, none⟩ (.int .i64 (F : Nat)))) := ⟨by
        rw [List.length_append, List.length_range, List.length_singleton]
        unfold thereF
        rw [Nat.add_sub_cancel, HF.out]
        exact HW3.out⟩
      gi_wp2
      exact ⟨HKF.out, HKK.out, HIF.out, HLX.out⟩
  case done =>
    rintro DD V hD ⟨hi, hn⟩ hd
    rw [List.length_range] at hi
    have HX : Kp (spreadF ds S m = spreadF ds S day.toNat) := ⟨by
      have h1 := hn m (List.mem_range.2 (by omega))
      have := spreadF_still HEND.out (day.toNat - m)
      rw [show m + (day.toNat - m) = day.toNat by omega] at this
      exact this.symm⟩
    replace hi : Hd w (OC Z day (spreadF ds S day.toNat)) V := by
      rw [← HX.out]
      exact hi
    clear hn HX
    have hz := HZ0.out
    have hi2 := Hd.turns (k := 0) (B := Z + 2) (by have := HZ.out; omega) (fun p hp => .inl (OC.lt p hp)) _ _ (some DD) hi (grownBy_putObj' V DD (.deferred none)) (fun r e => by cases e; exact ⟨by omega, .inr ⟨_, hd, rfl⟩⟩)
    have H2 := hi.cells
    simp only [OC, List.mem_cons, List.not_mem_nil, or_false, forall_eq_or_imp, forall_eq] at H2
    obtain ⟨⟨c0, z0⟩, c1, z1⟩ := H2
    have HI2 := Kp.mk hi2.below
    have HD9 := Kp.mk hd
    clear hi hi2 hd hz
    gi_wp2
    try simp only [Exit.noGoto_ret]
    refine ⟨by simp, .inl ⟨_, _, rfl, run_takeDeferred HD9.out, ?_⟩⟩
    exact ⟨.int .i64 (spreadF ds S day.toNat : Nat), by simp [results, Try.results52, go_sem], rfl, HI2.out⟩
  case stop =>
    rintro DD cd ys V hD hys ⟨rfl, hi⟩ hd
    have hz := HZ0.out
    have hi2 := Hd.turns (k := 0) (B := Z + 2) (by have := HZ.out; omega) (fun p hp => .inl (OC.lt p hp)) _ _ (some DD) hi (grownBy_putObj' V DD (.deferred none)) (fun r e => by cases e; exact ⟨by omega, .inr ⟨_, hd, rfl⟩⟩)
    have H2 := hi.cells
    simp only [OC, List.mem_cons, List.not_mem_nil, or_false, forall_eq_or_imp, forall_eq] at H2
    obtain ⟨⟨c0, z0⟩, c1, z1⟩ := H2
    have HI2 := Kp.mk hi2.below
    have HD9 := Kp.mk hd
    clear hi hi2 hd hz
    gi_wp2
    try simp only [Exit.noGoto_ret]
    refine ⟨by simp, .inl ⟨_, _, rfl, run_takeDeferred HD9.out, ?_⟩⟩
    exact ⟨.int .i64 (spreadF ds S day.toNat : Nat), by simp [results, Try.results52, go_sem], rfl, HI2.out⟩
end Go.Proofs.Ythkamfjjfkpekaa.Pe
