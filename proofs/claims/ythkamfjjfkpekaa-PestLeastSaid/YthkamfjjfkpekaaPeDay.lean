/-
  WALKS (layer 8, pest): Day of the program.
-/
import Derived.Test.YthkamfjjfkpekaaPeComes
namespace Go.Proofs.Ythkamfjjfkpekaa.Pe
open Go Go.RowKit Go.Proofs Go.Sort
attribute [local go_sem] Oper.semAt_some

/-- What Day answers. -/
def dayV (E : Int) (o : Option Nat) : Value := if E = 0 then match o with
  | some k => .tuple #[.int .i64 (k : Nat), .int .i64 0]
  | none => .tuple #[.int .i64 0, .int .i64 8] else .tuple #[.int .i64 0, .int .i64 E]
/-- What the walk keeps: the room, the answer's two places. -/
def DC (Z : Nat) (room n E : Int) : List (Nat × Nat × Value) := [(Z + 1, 0, .int .i64 room), (Z + 2, 0, .int .i64 n), (Z + 3, 0, .int .i64 E)]
theorem DC.lt {Z : Nat} {room n E : Int} : ∀ p ∈ DC Z room n E, p.1 < Z + 4 := by
  intro p hp
  simp only [DC, List.mem_cons, List.not_mem_nil, or_false] at hp
  rcases hp with rfl | rfl | rfl <;> simp
theorem DC.put {w W : World} {Z : Nat} {room n0 E0 : Int} (hZ : w.heap.size = Z) (k : Hd w (DC Z room n0 E0) W) (n E : Int) : Hd w (DC Z room n E) ((W.setCell ⟨Z + 2, 0, none⟩ (.int .i64 n)).setCell ⟨Z + 3, 0, none⟩ (.int .i64 E)) := by
  refine ⟨(k.below.setCell (by simp only; omega) _).setCell (by simp only; omega) _, fun p hp => ?_⟩
  have H := k.cells
  simp only [DC, List.mem_cons, List.not_mem_nil, or_false, forall_eq_or_imp, forall_eq] at H hp
  obtain ⟨⟨h0, z0⟩, ⟨h1, z1⟩, h2, z2⟩ := H
  rcases hp with rfl | rfl | rfl <;> exact ⟨by simp [go_sem, *], by simp [go_sem, *]⟩
theorem day_start {w W1 : World} {R x y room : Int} {v : Value} {t1 t2 t3 t4 : TypeId} (h : (((w.alloc (.cells #[.int .i64 R, v, .int .i64 x, .int .i64 y] t1)).alloc (.cells #[.int .i64 room] t2)).alloc (.cells #[.int .i64 0] t3)).alloc (.cells #[.int .i64 0] t4) = W1) :
    Below w.heap.size w W1 ∧ W1.heap.size = w.heap.size + 4 ∧ Hd w (DC w.heap.size room 0 0) W1 ∧ ∀ w', Below W1.heap.size W1 w' → w'.cell? ⟨w.heap.size, 0, none⟩ = some (.int .i64 R) ∧ w'.cell? ⟨w.heap.size, 1, none⟩ = some v ∧ w'.cell? ⟨w.heap.size, 2, none⟩ = some (.int .i64 x) ∧ w'.cell? ⟨w.heap.size, 3, none⟩ = some (.int .i64 y) ∧ w'.cell? ⟨w.heap.size + 1, 0, none⟩ = some (.int .i64 room) := by
  subst h
  refine ⟨by repeat (first | exact Below.refl _ _ | refine Below.alloc ?_ (by simp <;> omega) _ | refine bDrewN ?_ _ | refine Below.drew ?_), by simp, ⟨by repeat (first | exact Below.refl _ _ | refine Below.alloc ?_ (by simp <;> omega) _ | refine bDrewN ?_ _ | refine Below.drew ?_), fun p hp => ?_⟩, fun w' hb => ?_⟩
  · simp only [DC, List.mem_cons, List.not_mem_nil, or_false] at hp
    rcases hp with rfl | rfl | rfl <;> exact ⟨by go_simp, by go_simp⟩
  · exact ⟨(hb.cell (p := ⟨_, 0, none⟩) (by simp <;> omega)).trans (by go_simp), (hb.cell (p := ⟨_, 1, none⟩) (by simp <;> omega)).trans (by go_simp), (hb.cell (p := ⟨_, 2, none⟩) (by simp <;> omega)).trans (by go_simp), (hb.cell (p := ⟨_, 3, none⟩) (by simp <;> omega)).trans (by go_simp), (hb.cell (p := ⟨_, 0, none⟩) (by simp <;> omega)).trans (by go_simp)⟩
set_option maxRecDepth 100000 in
set_option maxHeartbeats 4000000 in
theorem Day_in (R x y room : Int) (g : Option Addr) (M c : Nat) (gu : Option Addr) (nu cu : Nat) (D A : Bool) (ER : Int) (S RN m : Nat) (ol : List Dr) (w : World)
    (HAD : Kp (∀ W, Below w.heap.size w W → Calls Try.prog 49 #[.agg #[.int .i64 R, .slice g M c, .int .i64 x, .int .i64 y], .slice gu nu cu] W fun e w' => e = .returned (.bool true) ∧ Below W.heap.size W w'))
    (HIR : Kp (∀ W, Calls Try.prog 59 #[.agg #[.int .i64 R, .slice g M c, .int .i64 x, .int .i64 y], .int .i64 room] W fun e w' => e = .returned (.bool D) ∧ Below W.heap.size W w'))
    (HAS : Kp (∀ W, Below w.heap.size w W → Calls Try.prog 50 #[.slice gu nu cu] W fun e w' => e = .returned (.bool A) ∧ Below W.heap.size W w'))
    (HCK : Kp (∀ W, Below w.heap.size w W → Calls Try.prog 48 #[.agg #[.int .i64 R, .slice g M c, .int .i64 x, .int .i64 y], .bool D, .bool A] W fun e w' => e = .returned (.int .i64 ER) ∧ Below W.heap.size W w'))
    (HOP : Kp (ER = 0 → ∀ W, Below w.heap.size w W → Calls Try.prog 53 #[.agg #[.int .i64 R, .slice g M c, .int .i64 x, .int .i64 y], .slice gu nu cu] W fun e w' => ∃ r, e = .returned r ∧ DS w' r ol ∧ Below W.heap.size W w'))
    (HDY : Kp (ER = 0 → ∀ W r, DS W r ol → Calls Try.prog 60 #[r, .int .i64 x] W fun e w' => ∃ b1 b2, e = .returned (.func (.func 92) #[] #[.pointer (some ⟨b1, 0, none⟩), .pointer (some ⟨b2, 0, none⟩)]) ∧ w'.cell? ⟨b1, 0, none⟩ = some (.int .i64 x) ∧ w'.cell? ⟨b2, 0, none⟩ = some r ∧ W.heap.size ≤ b2 ∧ Below W.heap.size W w'))
    (HOK : Kp (ER = 0 → x = (S : Int) ∧ room = (RN : Int) ∧ RN ≤ 11 ∧ S < 4096 ∧ ol.length ≤ 1000 ∧ DoorsIn ol ∧ m ≤ 1000 ∧ spreadF ol S (m + 1) = spreadF ol S m ∧ ∀ k, k < m → spreadF ol S (k + 1) ≠ spreadF ol S k)) :
    Calls Try.prog 17 #[.agg #[.int .i64 R, .slice g M c, .int .i64 x, .int .i64 y], .slice gu nu cu, .int .i64 room] w fun e w' => e = .returned (dayV ER ((List.range (m + 1)).find? fun k => (spreadF ol S k).testBit RN)) ∧ Below w.heap.size w w' := by
  refine (callsIn_wide (n := 7)).1 ?_
  refine callsIn_of_wp_marks Try.func17 rfl trivial ?_ rfl
  simp only [Try.ntmps17, List.size_toArray, List.length_cons, List.length_nil, Nat.reduceAdd, Nat.reduceSub, Array.replicate_succ, Array.replicate_zero, List.push_toArray, List.append_toArray, List.nil_append, List.cons_append]
  gi_wp2_with fail
  try simp only [Nat.add_assoc, Nat.reduceAdd]
  obtain ⟨W1, hW1⟩ : ∃ W, (((w.alloc (.cells #[.int .i64 R, .slice g M c, .int .i64 x, .int .i64 y] 24)).alloc (.cells #[.int .i64 room] 3)).alloc (.cells #[.int .i64 0] 3)).alloc (.cells #[.int .i64 0] 28) = W := ⟨_, rfl⟩
  obtain ⟨hb1, hz1, hd1, hall⟩ := day_start hW1
  try rw [hW1]
  obtain ⟨Z, hZ⟩ : ∃ Z, w.heap.size = Z := ⟨_, rfl⟩
  have HZ := Kp.mk hZ
  rw [hZ] at hall hz1 hd1
  have HB1 := Kp.mk hb1
  have HD1 := Kp.mk hd1
  have HZ1 := Kp.mk hz1
  have HALL1 := Kp.mk hall
  obtain ⟨c0, c1, c2, c3, c4⟩ := hall W1 (Below.refl _ _)
  try simp only [hZ]
  clear hW1 hb1 hall hZ hd1 hz1
  have K1 : Kp (∀ d os, _) := ⟨fun d os => HAD.out (grow (redrawn W1 d) os) (HB1.out.trans ((below_regrown W1 d os).mono HB1.out.size))⟩
  have K2 : Kp (∀ d os, _) := ⟨fun d os => HIR.out (grow (redrawn W1 d) os)⟩
  have K3 : Kp (∀ d os, _) := ⟨fun d os => HAS.out (grow (redrawn W1 d) os) (HB1.out.trans ((below_regrown W1 d os).mono HB1.out.size))⟩
  have K4 : Kp (∀ d os, _) := ⟨fun d os => HCK.out (grow (redrawn W1 d) os) (HB1.out.trans ((below_regrown W1 d os).mono HB1.out.size))⟩
  have rg_c0 := fun d os => cell_regrown c0 d os
  have rg_c1 := fun d os => cell_regrown c1 d os
  have rg_c2 := fun d os => cell_regrown c2 d os
  have rg_c3 := fun d os => cell_regrown c3 d os
  have rg_c4 := fun d os => cell_regrown c4 d os
  clear c0 c1 c2 c3 c4 HAD HAS HCK HIR
  refine regionIn_quiet (r := none) (by kernel_rfl) (by kernel_rfl) (by kernel_rfl) ?_
  repeat (any_goals (first | go_big_quiet_step (first | (with_reducible exact Calls.regrown_of (K1.out _ _)) | (with_reducible exact Calls.regrown_of (K2.out _ _)) | (with_reducible exact Calls.regrown_of (K3.out _ _)) | (with_reducible exact Calls.regrown_of (K4.out _ _))) | quiet_step (first | (with_reducible exact Calls.regrown_of (K1.out _ _)) | (with_reducible exact Calls.regrown_of (K2.out _ _)) | (with_reducible exact Calls.regrown_of (K3.out _ _)) | (with_reducible exact Calls.regrown_of (K4.out _ _)))))
  refine wpQuiet_nil ?_
  intro _ hqw
  obtain ⟨⟨dq, osq⟩, hqv⟩ := hqw
  subst hqv
  obtain ⟨wq, hqwq⟩ : ∃ wq, grow (redrawn (W1) dq) osq = wq := ⟨_, rfl⟩
  have hbwq : Below (W1).heap.size (W1) wq := by rw [← hqwq]; exact below_regrown _ dq osq
  rw [hqwq]
  clear hqwq
  have HALL : Kp (∀ w', Below wq.heap.size wq w' → w'.cell? ⟨Z, 0, none⟩ = some (.int .i64 R) ∧ w'.cell? ⟨Z, 1, none⟩ = some (.slice g M c) ∧ w'.cell? ⟨Z, 2, none⟩ = some (.int .i64 x) ∧ w'.cell? ⟨Z, 3, none⟩ = some (.int .i64 y)) := ⟨fun w' h => by
    obtain ⟨a0, a1, a2, a3, -⟩ := HALL1.out w' (hbwq.trans (h.mono hbwq.size))
    exact ⟨a0, a1, a2, a3⟩⟩
  have HBQ := Kp.mk (HB1.out.trans (hbwq.mono HB1.out.size))
  have HDQ := Kp.mk (HD1.out.on hbwq)
  have HZQ : Kp (Z + 4 ≤ wq.heap.size) := ⟨by have := HZ1.out; have := hbwq.size; omega⟩
  clear hbwq rg_c0 rg_c1 rg_c2 rg_c3 rg_c4 K1 K2 K3 K4 HALL1 HD1 HB1 HZ1
  by_cases hE : ER = 0
  · obtain ⟨ox, oroom, oR, oS, ol1, ol2, om, oend, ogo⟩ := HOK.out hE
    have HOL := Kp.mk (And.intro ol1 (And.intro ol2 (And.intro oend ogo)))
    clear HOK ol1 ol2 oend ogo
    have HOX := Kp.mk (And.intro ox oroom)
    clear ox oroom
    subst hE
    gi_wp2_with fail
    refine wpIn_wide.2 ?_
    refine wp_region_noPanic ?_
    refine region_nm ?_
    intro ops Qp hops hQp
    have HQP : Kp (∀ c a d v w, Qp (.panic c) (Act.put a d v) w → Qp (.panic c) a w) := ⟨by subst hQp; intro c a d v w h; exact h⟩
    have HFIN : Kp (∀ (W0 : World) (r : Value) (b1 : Nat) (b2 : Nat), Below wq.heap.size wq W0 → (DS W0 r ol) → (W0.cell? ⟨b1, 0, none⟩ = some (.int .i64 x)) → (W0.cell? ⟨b2, 0, none⟩ = some r) → (wq.heap.size ≤ b2) → Qp .normal { tmps := #[.agg #[.int .i64 R, .slice g M c, .int .i64 x, .int .i64 y], .slice gu nu cu, .int .i64 room, .pointer (some ⟨Z, 0, none⟩), undef, .pointer (some ⟨Z + 1, 0, none⟩), .pointer (some ⟨Z + 2, 0, none⟩), .pointer (some ⟨Z + 3, 0, none⟩), .int .i64 0, undef, undef, .agg #[.int .i64 R, .slice g M c, .int .i64 x, .int .i64 y], .agg #[.int .i64 R, .slice g M c, .int .i64 x, .int .i64 y], .slice gu nu cu, .bool true, .bool true, .agg #[.int .i64 R, .slice g M c, .int .i64 x, .int .i64 y], .int .i64 room, .bool D, .bool D, .slice gu nu cu, .bool A, .int .i64 0, .int .i64 0, .bool false, undef, .agg #[.int .i64 R, .slice g M c, .int .i64 x, .int .i64 y], .slice gu nu cu, r, .pointer (some ⟨Z, 2, none⟩), .int .i64 x, .func (.func 92) #[] #[.pointer (some ⟨b1, 0, none⟩), .pointer (some ⟨b2, 0, none⟩)], undef, undef, undef, undef, undef, undef], defers := [] } W0) := by
      refine ⟨?_⟩
      intro W0 r b1 b2 hw hr hc1 hc2 hlb
      have HBW := Kp.mk (HBQ.out.trans (hw.mono HBQ.out.size))
      have HWB := Kp.mk hw
      clear HQP hops hw
      subst hQp
      refine NoPanic.normal ?_
      obtain ⟨gr, cr, rfl⟩ := hr.shape
      obtain ⟨N, hN⟩ : ∃ N, ol.length = N := ⟨_, rfl⟩
      have HNN := Kp.mk hN
      have HRS := Kp.mk hr
      rw [hN] at HRS hc2
      have HC1 : Kp (W0.cell? ⟨b1, 0, none⟩ = some (.int .i64 (S : Nat))) := ⟨by rw [← HOX.out.1]; exact hc1⟩
      have HC2 := Kp.mk hc2
      have HDW := Kp.mk (HDQ.out.on HWB.out)
      have HZW : Kp (Z + 4 ≤ b2 ∧ b2 < W0.heap.size ∧ Z + 4 ≤ W0.heap.size) := ⟨by have := HZQ.out; have := HWB.out.size; have := World.block_lt_of_cell? _ _ hc2; simp only at this; omega⟩
      have HSK : Kp (∀ k, SK gr b2 N k → k < W0.heap.size) := ⟨fun k hk => by have := SK_lt HRS.out HNN.out hk; have := HZW.out; omega⟩
      have HHB : Kp (∀ k V, Calls Try.prog 61 #[.int .i64 (spreadF ol S k : Nat), .int .i64 room] V fun e w' => e = .returned (.bool ((spreadF ol S k).testBit RN)) ∧ V = w') := ⟨fun k V => by
        rw [HOX.out.2]
        exact has_any _ RN V (by have := spreadF_lt HOL.out.2.1 oS k; omega) (by omega)⟩
      rw [hN]
      clear hN hr hc1 hc2 hlb HDQ HZQ HALL HOP HDY
      gi_wp2
      refine wpIn_yieldsS (k := 0) (enc := encY ol S) (xs := List.range (m + 1)) rfl (by omega) (gf := 92) (lb := #[.pointer (some ⟨b1, 0, none⟩), .pointer (some ⟨b2, 0, none⟩)]) rfl trivial (enters_of Try.func92 (by kernel_rfl) rfl) (fun _ => rfl)
        (days_yields 6 (by omega) b1 b2 gr N cr ol S m W0 HNN.out (by have := HOL.out.1; have := HNN.out; omega) HOL.out.2.1 oS om HOL.out.2.2.1 HOL.out.2.2.2 HC1.out HC2.out HRS.out) Keep.trans (fun V o o' _ _ _ => Keep.putObj (by omega) (by intro e; have := HSK.out _ e; omega))
        (fun pre V => Hd w (DC Z room 0 0) V ∧ ∀ r : Nat, r ∈ pre → (spreadF ol S r).testBit RN = false)
        (fun cd ys V => cd = .ret ∧ ∃ k : Nat, (List.range (m + 1)).find? (fun k => (spreadF ol S k).testBit RN) = some k ∧ Hd w (DC Z room k 0) V)
        (fun q => Turns.abides (C := Z + 4) (fun X Y row hX gr hr => ⟨Hd.turns (k := 0) (B := Z + 4) (by have := HZ.out; omega) (fun p hp => .inl (DC.lt p hp)) X Y row hX.1 gr hr, hX.2⟩) (by have := HZW.out; omega)) (fun cd q => Turns.abides (C := Z + 4) (fun X Y row hX gr hr => by
          obtain ⟨h1, k, h2, h3⟩ := hX
          exact ⟨h1, k, h2, Hd.turns (k := 0) (B := Z + 4) (by have := HZ.out; omega) (fun p hp => .inl (DC.lt p hp)) X Y row h3 gr hr⟩) (by have := HZW.out; omega))
        ⟨HDW.out, fun r hr => by cases hr⟩
        (fun pre k a' V => (Hd w (DC Z room 0 0) V ∧ ∀ r : Nat, r ∈ pre → (spreadF ol S r).testBit RN = false) ∧ a' = { tmps := #[.agg #[.int .i64 R, .slice g M c, .int .i64 x, .int .i64 y], .slice gu nu cu, .int .i64 room, .pointer (some ⟨Z, 0, none⟩), undef, .pointer (some ⟨Z + 1, 0, none⟩), .pointer (some ⟨Z + 2, 0, none⟩), .pointer (some ⟨Z + 3, 0, none⟩), .int .i64 0, .int .i64 (k : Nat), .int .i64 (spreadF ol S k : Nat), .agg #[.int .i64 R, .slice g M c, .int .i64 x, .int .i64 y], .agg #[.int .i64 R, .slice g M c, .int .i64 x, .int .i64 y], .slice gu nu cu, .bool true, .bool true, .agg #[.int .i64 R, .slice g M c, .int .i64 x, .int .i64 y], .int .i64 room, .bool D, .bool D, .slice gu nu cu, .bool A, .int .i64 0, .int .i64 0, .bool false, undef, .agg #[.int .i64 R, .slice g M c, .int .i64 x, .int .i64 y], .slice gu nu cu, .slice gr N cr, .pointer (some ⟨Z, 2, none⟩), .int .i64 x, .func (.func 92) #[] #[.pointer (some ⟨b1, 0, none⟩), .pointer (some ⟨b2, 0, none⟩)], .int .i64 (k : Nat), .int .i64 (spreadF ol S k : Nat), undef, undef, undef, undef], defers := [] })
        ?ax ?assign ?body ?done ?stop
      case ax =>
        rintro pre k a' X V row ⟨⟨hi, hn⟩, ha⟩ gr hr
        exact ⟨⟨Turns.abides (C := Z + 4) (Hd.turns (k := 0) (B := Z + 4) (by have := HZ.out; omega) (fun p hp => .inl (DC.lt p hp))) (by have := HZW.out; omega) X V row hi gr hr, hn⟩, ha⟩
      case assign =>
        rintro l2 pre k V ⟨hi, hn⟩ _ hsz
        have HI := Kp.mk hi
        have HNX := Kp.mk hn
        obtain ⟨F, hF⟩ : ∃ F, spreadF ol S k = F := ⟨_, rfl⟩
        clear hi hn
        have ez : ((#[32, 33] : Array Tmp).zip (encY ol S k)).foldl (fun tmps (q : Tmp × Value) => tmps.setIfInBounds q.1 q.2) #[.agg #[.int .i64 R, .slice g M c, .int .i64 x, .int .i64 y], .slice gu nu cu, .int .i64 room, .pointer (some ⟨Z, 0, none⟩), undef, .pointer (some ⟨Z + 1, 0, none⟩), .pointer (some ⟨Z + 2, 0, none⟩), .pointer (some ⟨Z + 3, 0, none⟩), .int .i64 0, undef, undef, .agg #[.int .i64 R, .slice g M c, .int .i64 x, .int .i64 y], .agg #[.int .i64 R, .slice g M c, .int .i64 x, .int .i64 y], .slice gu nu cu, .bool true, .bool true, .agg #[.int .i64 R, .slice g M c, .int .i64 x, .int .i64 y], .int .i64 room, .bool D, .bool D, .slice gu nu cu, .bool A, .int .i64 0, .int .i64 0, .bool false, undef, .agg #[.int .i64 R, .slice g M c, .int .i64 x, .int .i64 y], .slice gu nu cu, .slice gr N cr, .pointer (some ⟨Z, 2, none⟩), .int .i64 x, .func (.func 92) #[] #[.pointer (some ⟨b1, 0, none⟩), .pointer (some ⟨b2, 0, none⟩)], undef, undef, undef, undef, undef, undef] = #[.agg #[.int .i64 R, .slice g M c, .int .i64 x, .int .i64 y], .slice gu nu cu, .int .i64 room, .pointer (some ⟨Z, 0, none⟩), undef, .pointer (some ⟨Z + 1, 0, none⟩), .pointer (some ⟨Z + 2, 0, none⟩), .pointer (some ⟨Z + 3, 0, none⟩), .int .i64 0, undef, undef, .agg #[.int .i64 R, .slice g M c, .int .i64 x, .int .i64 y], .agg #[.int .i64 R, .slice g M c, .int .i64 x, .int .i64 y], .slice gu nu cu, .bool true, .bool true, .agg #[.int .i64 R, .slice g M c, .int .i64 x, .int .i64 y], .int .i64 room, .bool D, .bool D, .slice gu nu cu, .bool A, .int .i64 0, .int .i64 0, .bool false, undef, .agg #[.int .i64 R, .slice g M c, .int .i64 x, .int .i64 y], .slice gu nu cu, .slice gr N cr, .pointer (some ⟨Z, 2, none⟩), .int .i64 x, .func (.func 92) #[] #[.pointer (some ⟨b1, 0, none⟩), .pointer (some ⟨b2, 0, none⟩)], .int .i64 (k : Nat), .int .i64 (F : Nat), undef, undef, undef, undef] := by simp [encY, hF]
        rw [ez, hF]
        clear ez hF
        gi_wp2
        exact ⟨KeepsFrom.refl _ _, Keep.refl _ _ _ _, ⟨HI.out, HNX.out⟩, trivial⟩
      case body =>
        rintro l2 pre k a' V ⟨⟨hi, hn⟩, rfl⟩ hpre hsz
        obtain ⟨hky, rfl⟩ := range_pre hpre
        have HI := Kp.mk hi
        have HLE : Kp (∀ r : Nat, r < k → (spreadF ol S r).testBit RN = false) := ⟨fun r hr => hn r (List.mem_range.2 hr)⟩
        have HB := Kp.mk (fun V => HHB.out k V)
        obtain ⟨F, hF⟩ : ∃ F, spreadF ol S k = F := ⟨_, rfl⟩
        have HKM : Kp (k < m + 1) := ⟨hky⟩
        have HSZ : Kp (W0.heap.size + 2 ≤ V.heap.size) := ⟨by omega⟩
        have H2 := hi.cells
        simp only [DC, List.mem_cons, List.not_mem_nil, or_false, forall_eq_or_imp, forall_eq] at H2
        obtain ⟨⟨p0, z0⟩, ⟨p1, z1⟩, p2, z2⟩ := H2
        obtain ⟨Bt, hBt⟩ : ∃ B, (spreadF ol S k).testBit RN = B := ⟨_, rfl⟩
        have HBT := Kp.mk hBt
        rw [hBt, hF] at HB
        rw [hF]
        clear hi hn hpre hF hBt hky
        cases Bt with
        | false =>
          have HNX : Kp (∀ r : Nat, r ∈ List.range k ++ [k] → (spreadF ol S r).testBit RN = false) := ⟨fun r hr => by
            rcases List.mem_append.1 hr with hr | hr
            · exact HLE.out r (List.mem_range.1 hr)
            · rw [List.mem_singleton.1 hr]; exact HBT.out⟩
          gi_wp2_with fail
          refine ⟨trivial, (CallsIn.inRound _ (callsIn_wide.2 (HB.out _))).mono ?_⟩
          rintro en W9 ⟨rfl, rfl⟩
          gi_wp2
          exact ⟨KeepsFrom.refl _ _, Keep.refl _ _ _ _, HI.out, HNX.out⟩
        | true =>
          have HW3 : Kp (Hd w (DC Z room k 0) ((V.setCell ⟨Z + 2, 0, none⟩ (.int .i64 (k : Int))).setCell ⟨Z + 3, 0, none⟩ (.int .i64 0))) := ⟨DC.put HZ.out HI.out k 0⟩
          have HKF : Kp (KeepsFrom W0.heap.size V ((V.setCell ⟨Z + 2, 0, none⟩ (.int .i64 (k : Int))).setCell ⟨Z + 3, 0, none⟩ (.int .i64 0))) := ⟨(KeepsFrom.of_grownBy (setCell_grown _ _ _ _) (fun j e => by cases e; have := HZW.out; omega)).trans (KeepsFrom.of_grownBy (setCell_grown _ _ _ _) (fun j e => by cases e; have := HZW.out; omega))⟩
          have HFD : Kp ((List.range (m + 1)).find? (fun k => (spreadF ol S k).testBit RN) = some k) := ⟨by
            rw [List.find?_range_eq_some]
            exact ⟨HBT.out, List.mem_range.2 HKM.out, fun j hj => by rw [HLE.out j hj]; rfl⟩⟩
          gi_wp2_with fail
          refine ⟨trivial, (CallsIn.inRound _ (callsIn_wide.2 (HB.out _))).mono ?_⟩
          rintro en W9 ⟨rfl, rfl⟩
          gi_wp2
          exact ⟨HKF.out, rfl, _, HFD.out, HW3.out⟩
      case done =>
        rintro DD V hD ⟨hi, hn⟩ hd
        have HFD : Kp ((List.range (m + 1)).find? (fun k => (spreadF ol S k).testBit RN) = none) := ⟨by
          rw [List.find?_eq_none]
          intro k hk
          rw [hn k hk]
          exact Bool.false_ne_true⟩
        have hi9 := DC.put HZ.out hi 0 8
        have H2 := hi.cells
        simp only [DC, List.mem_cons, List.not_mem_nil, or_false, forall_eq_or_imp, forall_eq] at H2
        obtain ⟨⟨p0, z0⟩, ⟨p1, z1⟩, p2, z2⟩ := H2
        have hd9 : ((V.setCell ⟨Z + 2, 0, none⟩ (.int .i64 0)).setCell ⟨Z + 3, 0, none⟩ (.int .i64 8)).heap[DD]? = some (.deferred (some [])) := by
          have := HZW.out
          rw [Below.heap_setCell _ _ _ _ (by simp only; omega), Below.heap_setCell _ _ _ _ (by simp only; omega)]
          exact hd
        have HD9 := Kp.mk hd9
        have hi2 := Hd.turns (k := 0) (B := Z + 4) (by have := HZ.out; omega) (fun p hp => .inl (DC.lt p hp)) _ _ (some DD) hi9 (grownBy_putObj' _ DD (.deferred none)) (fun r e => by cases e; exact ⟨by have := HZW.out; omega, .inr ⟨_, hd9, rfl⟩⟩)
        have HI2 := Kp.mk hi2
        clear hi hn hd hi9 hd9 hi2
        gi_wp2
        have H3 := HI2.out.cells
        simp only [DC, List.mem_cons, List.not_mem_nil, or_false, forall_eq_or_imp, forall_eq] at H3
        obtain ⟨-, ⟨r1, -⟩, r2, -⟩ := H3
        refine ⟨by simp, .inl ⟨_, _, rfl, run_takeDeferred HD9.out, ?_⟩⟩
        exact ⟨.tuple #[.int .i64 0, .int .i64 8], by simp [results, Try.results17, go_sem, r1, r2], by rw [HFD.out]; rfl, HI2.out.below⟩
      case stop =>
        rintro DD cd ys V hD hys ⟨rfl, k, hk, hi⟩ hd
        have HFD := Kp.mk hk
        have HD9 := Kp.mk hd
        have hi2 := Hd.turns (k := 0) (B := Z + 4) (by have := HZ.out; omega) (fun p hp => .inl (DC.lt p hp)) _ _ (some DD) hi (grownBy_putObj' _ DD (.deferred none)) (fun r e => by cases e; exact ⟨by have := HZW.out; omega, .inr ⟨_, hd, rfl⟩⟩)
        have HI2 := Kp.mk hi2
        clear hi hd hi2 hk
        gi_wp2
        have H3 := HI2.out.cells
        simp only [DC, List.mem_cons, List.not_mem_nil, or_false, forall_eq_or_imp, forall_eq] at H3
        obtain ⟨-, ⟨r1, -⟩, r2, -⟩ := H3
        refine ⟨by simp, .inl ⟨_, _, rfl, run_takeDeferred HD9.out, ?_⟩⟩
        exact ⟨.tuple #[.int .i64 (k : Int), .int .i64 0], by simp [results, Try.results17, go_sem, r1, r2], by rw [HFD.out]; rfl, HI2.out.below⟩
    have S0_1_2_3_4_5 : Kp (∀ (w' : World) (r : Value) (b1 : Nat) (b2 : Nat), Below wq.heap.size wq w' → (DS w' r ol) → (w'.cell? ⟨b1, 0, none⟩ = some (.int .i64 x)) → (w'.cell? ⟨b2, 0, none⟩ = some r) → (wq.heap.size ≤ b2) → wpAnyH Try.prog .any ops Qp (fun w' => Below wq.heap.size wq w') 0 #[true, true, true, true, true, true] { tmps := #[.agg #[.int .i64 R, .slice g M c, .int .i64 x, .int .i64 y], .slice gu nu cu, .int .i64 room, .pointer (some ⟨Z, 0, none⟩), undef, .pointer (some ⟨Z + 1, 0, none⟩), .pointer (some ⟨Z + 2, 0, none⟩), .pointer (some ⟨Z + 3, 0, none⟩), .int .i64 0, undef, undef, .agg #[.int .i64 R, .slice g M c, .int .i64 x, .int .i64 y], .agg #[.int .i64 R, .slice g M c, .int .i64 x, .int .i64 y], .slice gu nu cu, .bool true, .bool true, .agg #[.int .i64 R, .slice g M c, .int .i64 x, .int .i64 y], .int .i64 room, .bool D, .bool D, .slice gu nu cu, .bool A, .int .i64 0, .int .i64 0, .bool false, undef, .agg #[.int .i64 R, .slice g M c, .int .i64 x, .int .i64 y], .slice gu nu cu, r, .pointer (some ⟨Z, 2, none⟩), .int .i64 x, .func (.func 92) #[] #[.pointer (some ⟨b1, 0, none⟩), .pointer (some ⟨b2, 0, none⟩)], undef, undef, undef, undef, undef, undef], defers := [] } w') := by
      refine ⟨?_⟩
      intro w' r b1 b2 hw hr hc1 hc2 hlb
      refine wpAnyH_done (by rw [hops]; kernel_rfl) ?_ _
      exact HFIN.out w' r b1 b2 hw hr hc1 hc2 hlb
    have S0_1_2_3_4 : Kp (∀ (w' : World) (r : Value), Below wq.heap.size wq w' → (DS w' r ol) → wpAnyH Try.prog .any ops Qp (fun w' => Below wq.heap.size wq w') 1 #[true, true, true, true, true, false] { tmps := #[.agg #[.int .i64 R, .slice g M c, .int .i64 x, .int .i64 y], .slice gu nu cu, .int .i64 room, .pointer (some ⟨Z, 0, none⟩), undef, .pointer (some ⟨Z + 1, 0, none⟩), .pointer (some ⟨Z + 2, 0, none⟩), .pointer (some ⟨Z + 3, 0, none⟩), .int .i64 0, undef, undef, .agg #[.int .i64 R, .slice g M c, .int .i64 x, .int .i64 y], .agg #[.int .i64 R, .slice g M c, .int .i64 x, .int .i64 y], .slice gu nu cu, .bool true, .bool true, .agg #[.int .i64 R, .slice g M c, .int .i64 x, .int .i64 y], .int .i64 room, .bool D, .bool D, .slice gu nu cu, .bool A, .int .i64 0, .int .i64 0, .bool false, undef, .agg #[.int .i64 R, .slice g M c, .int .i64 x, .int .i64 y], .slice gu nu cu, r, .pointer (some ⟨Z, 2, none⟩), .int .i64 x, undef, undef, undef, undef, undef, undef, undef], defers := [] } w') := by
      refine ⟨?_⟩
      intro w' r hw hr
      refine wpAnyH_ready (rs := [5]) (by rw [hops]; kernel_rfl) (by simp) ?_
      refine AllReadyH.cons (o := { dst := some 31, op := Go.Op.call { callee := Go.Callee.value (Go.Operand.func 60), args := #[Go.Operand.tmp 28, Go.Operand.tmp 30], argTypes := #[22, 3] }, type := 75, pos := "spread.go:32", after := #[{ on := 2, ground := Go.Ground.data }, { on := 4, ground := Go.Ground.data }, { on := 2, ground := Go.Ground.chain }], guard := none }) (by rw [hops]; kernel_rfl) (fun K hK => ?_) ?_
      · rw [if_pos (by rw [hops]; kernel_rfl)]
        go_simp
        refine (HDY.out (by simp) _ r hr).mono ?_
        rintro en w5 ⟨b1, b2, rfl, h1, h2, h3, hb5⟩
        exact hK.out _ _ (hw.trans (hb5.mono hw.size)) (fun hwn => S0_1_2_3_4_5.out w5 r b1 b2 hwn (hr.below hb5) h1 h2 (Nat.le_trans hw.size h3) )
      exact AllReadyH.nil
    have S : Kp (∀ (w' : World), Below wq.heap.size wq w' → wpAnyH Try.prog .any ops Qp (fun w' => Below wq.heap.size wq w') 6 #[false, false, false, false, false, false] { tmps := #[.agg #[.int .i64 R, .slice g M c, .int .i64 x, .int .i64 y], .slice gu nu cu, .int .i64 room, .pointer (some ⟨Z, 0, none⟩), undef, .pointer (some ⟨Z + 1, 0, none⟩), .pointer (some ⟨Z + 2, 0, none⟩), .pointer (some ⟨Z + 3, 0, none⟩), .int .i64 0, undef, undef, .agg #[.int .i64 R, .slice g M c, .int .i64 x, .int .i64 y], .agg #[.int .i64 R, .slice g M c, .int .i64 x, .int .i64 y], .slice gu nu cu, .bool true, .bool true, .agg #[.int .i64 R, .slice g M c, .int .i64 x, .int .i64 y], .int .i64 room, .bool D, .bool D, .slice gu nu cu, .bool A, .int .i64 0, .int .i64 0, .bool false, undef, undef, undef, undef, undef, undef, undef, undef, undef, undef, undef, undef, undef], defers := [] } w') := by
      refine ⟨?_⟩
      intro w' hw
      refine wpAnyH_take (i := 0) (oi := { dst := some 26, op := Go.Op.load 24 (Go.Operand.tmp 3), type := 24, pos := "spread.go:32", after := #[], guard := none }) (v := .agg #[.int .i64 R, .slice g M c, .int .i64 x, .int .i64 y]) (by rw [hops]; kernel_rfl) (by rw [hops]; kernel_rfl) (by rw [hops]; kernel_rfl) (by rw [hops]; kernel_rfl) (fun c a w h => HQP.out c a _ _ w h) (Or.inl ⟨by rw [hops]; kernel_rfl, by intro w hwS; obtain ⟨q0, q1, q2, q3⟩ := HALL.out w hwS; go_simp⟩) hw ?_
      simp only [Act.put, List.setIfInBounds_toArray, List.set_cons_zero, List.set_cons_succ]
      refine wpAnyH_take (i := 1) (oi := { dst := some 27, op := Go.Op.move (Go.Operand.tmp 1), type := 25, pos := "spread.go:32", after := #[], guard := none }) (v := .slice gu nu cu) (by rw [hops]; kernel_rfl) (by rw [hops]; kernel_rfl) (by rw [hops]; kernel_rfl) (by rw [hops]; kernel_rfl) (fun c a w h => HQP.out c a _ _ w h) (Or.inl ⟨by rw [hops]; kernel_rfl, by intro w _; go_simp⟩) hw ?_
      simp only [Act.put, List.setIfInBounds_toArray, List.set_cons_zero, List.set_cons_succ]
      refine wpAnyH_take (i := 3) (oi := { dst := some 29, op := Go.Op.fieldAddr 24 (Go.Operand.tmp 3) 2, type := 0, pos := "spread.go:32", after := #[], guard := none }) (v := .pointer (some ⟨Z, 2, none⟩)) (by rw [hops]; kernel_rfl) (by rw [hops]; kernel_rfl) (by rw [hops]; kernel_rfl) (by rw [hops]; kernel_rfl) (fun c a w h => HQP.out c a _ _ w h) (Or.inl ⟨by rw [hops]; kernel_rfl, by intro w _; go_simp⟩) hw ?_
      simp only [Act.put, List.setIfInBounds_toArray, List.set_cons_zero, List.set_cons_succ]
      refine wpAnyH_take (i := 4) (oi := { dst := some 30, op := Go.Op.load 3 (Go.Operand.tmp 29), type := 3, pos := "spread.go:32", after := #[{ on := 3, ground := Go.Ground.data }], guard := none }) (v := .int .i64 x) (by rw [hops]; kernel_rfl) (by rw [hops]; kernel_rfl) (by rw [hops]; kernel_rfl) (by rw [hops]; kernel_rfl) (fun c a w h => HQP.out c a _ _ w h) (Or.inl ⟨by rw [hops]; kernel_rfl, by intro w hwS; obtain ⟨q0, q1, q2, q3⟩ := HALL.out w hwS; go_simp⟩) hw ?_
      simp only [Act.put, List.setIfInBounds_toArray, List.set_cons_zero, List.set_cons_succ]
      refine wpAnyH_ready (rs := [2]) (by rw [hops]; kernel_rfl) (by simp) ?_
      refine AllReadyH.cons (o := { dst := some 28, op := Go.Op.call { callee := Go.Callee.value (Go.Operand.func 53), args := #[Go.Operand.tmp 26, Go.Operand.tmp 27], argTypes := #[24, 25] }, type := 22, pos := "spread.go:32", after := #[{ on := 0, ground := Go.Ground.data }, { on := 1, ground := Go.Ground.data }], guard := none }) (by rw [hops]; kernel_rfl) (fun K hK => ?_) ?_
      · rw [if_pos (by rw [hops]; kernel_rfl)]
        go_simp
        refine (HOP.out (by simp) _ (HBQ.out.trans (hw.mono HBQ.out.size))).mono ?_
        rintro en w5 ⟨r, rfl, hr, hb5⟩
        exact hK.out _ _ (hw.trans (hb5.mono hw.size)) (fun hwn => S0_1_2_3_4.out w5 r hwn hr )
      exact AllReadyH.nil
    have hsz : ops.size = 6 := by rw [hops]; rfl
    refine wp_region_held_drew (S := fun w' => Below wq.heap.size wq w') (by kernel_rfl) (Below.drew (Below.refl _ _)) (fun hw0 => ?_)
    rw [hsz]
    exact S.out _ hw0
  · have i1 : (ER == (0 : Int)) = false := by simp [hE]
    have i2 : (ER != (0 : Int)) = true := by simp [hE]
    have HE := Kp.mk hE
    have H2 := HDQ.out.cells
    simp only [DC, List.mem_cons, List.not_mem_nil, or_false, forall_eq_or_imp, forall_eq] at H2
    obtain ⟨⟨p0, z0⟩, ⟨p1, z1⟩, p2, z2⟩ := H2
    have HD9 := Kp.mk (DC.put HZ.out HDQ.out 0 ER)
    clear hE HOK HOP HDY
    gi_wp2
    have H3 := HD9.out.cells
    simp only [DC, List.mem_cons, List.not_mem_nil, or_false, forall_eq_or_imp, forall_eq] at H3
    obtain ⟨⟨r0, -⟩, ⟨r1, -⟩, r2, -⟩ := H3
    exact ⟨.tuple #[.int .i64 0, .int .i64 ER], by simp [results, Try.results17, go_sem, r1, r2], by unfold dayV; rw [if_neg HE.out], HD9.out.below⟩
set_option maxRecDepth 100000 in
set_option maxHeartbeats 4000000 in
theorem Day_no (R x y room : Int) (g : Option Addr) (M c : Nat) (gu : Option Addr) (nu cu : Nat) (A : Bool) (ER : Int) (S RN m : Nat) (ol : List Dr) (w : World)
    (HAD : Kp (∀ W, Below w.heap.size w W → Calls Try.prog 49 #[.agg #[.int .i64 R, .slice g M c, .int .i64 x, .int .i64 y], .slice gu nu cu] W fun e w' => e = .returned (.bool false) ∧ Below W.heap.size W w'))
    (HAS : Kp (∀ W, Below w.heap.size w W → Calls Try.prog 50 #[.slice gu nu cu] W fun e w' => e = .returned (.bool A) ∧ Below W.heap.size W w'))
    (HCK : Kp (∀ W, Below w.heap.size w W → Calls Try.prog 48 #[.agg #[.int .i64 R, .slice g M c, .int .i64 x, .int .i64 y], .bool false, .bool A] W fun e w' => e = .returned (.int .i64 ER) ∧ Below W.heap.size W w'))
    (HOP : Kp (ER = 0 → ∀ W, Below w.heap.size w W → Calls Try.prog 53 #[.agg #[.int .i64 R, .slice g M c, .int .i64 x, .int .i64 y], .slice gu nu cu] W fun e w' => ∃ r, e = .returned r ∧ DS w' r ol ∧ Below W.heap.size W w'))
    (HDY : Kp (ER = 0 → ∀ W r, DS W r ol → Calls Try.prog 60 #[r, .int .i64 x] W fun e w' => ∃ b1 b2, e = .returned (.func (.func 92) #[] #[.pointer (some ⟨b1, 0, none⟩), .pointer (some ⟨b2, 0, none⟩)]) ∧ w'.cell? ⟨b1, 0, none⟩ = some (.int .i64 x) ∧ w'.cell? ⟨b2, 0, none⟩ = some r ∧ W.heap.size ≤ b2 ∧ Below W.heap.size W w'))
    (HOK : Kp (ER = 0 → x = (S : Int) ∧ room = (RN : Int) ∧ RN ≤ 11 ∧ S < 4096 ∧ ol.length ≤ 1000 ∧ DoorsIn ol ∧ m ≤ 1000 ∧ spreadF ol S (m + 1) = spreadF ol S m ∧ ∀ k, k < m → spreadF ol S (k + 1) ≠ spreadF ol S k)) :
    Calls Try.prog 17 #[.agg #[.int .i64 R, .slice g M c, .int .i64 x, .int .i64 y], .slice gu nu cu, .int .i64 room] w fun e w' => e = .returned (dayV ER ((List.range (m + 1)).find? fun k => (spreadF ol S k).testBit RN)) ∧ Below w.heap.size w w' := by
  refine (callsIn_wide (n := 7)).1 ?_
  refine callsIn_of_wp_marks Try.func17 rfl trivial ?_ rfl
  simp only [Try.ntmps17, List.size_toArray, List.length_cons, List.length_nil, Nat.reduceAdd, Nat.reduceSub, Array.replicate_succ, Array.replicate_zero, List.push_toArray, List.append_toArray, List.nil_append, List.cons_append]
  gi_wp2_with fail
  try simp only [Nat.add_assoc, Nat.reduceAdd]
  obtain ⟨W1, hW1⟩ : ∃ W, (((w.alloc (.cells #[.int .i64 R, .slice g M c, .int .i64 x, .int .i64 y] 24)).alloc (.cells #[.int .i64 room] 3)).alloc (.cells #[.int .i64 0] 3)).alloc (.cells #[.int .i64 0] 28) = W := ⟨_, rfl⟩
  obtain ⟨hb1, hz1, hd1, hall⟩ := day_start hW1
  try rw [hW1]
  obtain ⟨Z, hZ⟩ : ∃ Z, w.heap.size = Z := ⟨_, rfl⟩
  have HZ := Kp.mk hZ
  rw [hZ] at hall hz1 hd1
  have HB1 := Kp.mk hb1
  have HD1 := Kp.mk hd1
  have HZ1 := Kp.mk hz1
  have HALL1 := Kp.mk hall
  obtain ⟨c0, c1, c2, c3, c4⟩ := hall W1 (Below.refl _ _)
  try simp only [hZ]
  clear hW1 hb1 hall hZ hd1 hz1
  have K1 : Kp (∀ d os, _) := ⟨fun d os => HAD.out (grow (redrawn W1 d) os) (HB1.out.trans ((below_regrown W1 d os).mono HB1.out.size))⟩
  have K3 : Kp (∀ d os, _) := ⟨fun d os => HAS.out (grow (redrawn W1 d) os) (HB1.out.trans ((below_regrown W1 d os).mono HB1.out.size))⟩
  have K4 : Kp (∀ d os, _) := ⟨fun d os => HCK.out (grow (redrawn W1 d) os) (HB1.out.trans ((below_regrown W1 d os).mono HB1.out.size))⟩
  have rg_c0 := fun d os => cell_regrown c0 d os
  have rg_c1 := fun d os => cell_regrown c1 d os
  have rg_c2 := fun d os => cell_regrown c2 d os
  have rg_c3 := fun d os => cell_regrown c3 d os
  have rg_c4 := fun d os => cell_regrown c4 d os
  clear c0 c1 c2 c3 c4 HAD HAS HCK
  refine regionIn_quiet (r := none) (by kernel_rfl) (by kernel_rfl) (by kernel_rfl) ?_
  repeat (any_goals (first | go_big_quiet_step (first | (with_reducible exact Calls.regrown_of (K1.out _ _)) | (with_reducible exact Calls.regrown_of (K3.out _ _)) | (with_reducible exact Calls.regrown_of (K4.out _ _))) | quiet_step (first | (with_reducible exact Calls.regrown_of (K1.out _ _)) | (with_reducible exact Calls.regrown_of (K3.out _ _)) | (with_reducible exact Calls.regrown_of (K4.out _ _)))))
  refine wpQuiet_nil ?_
  intro _ hqw
  obtain ⟨⟨dq, osq⟩, hqv⟩ := hqw
  subst hqv
  obtain ⟨wq, hqwq⟩ : ∃ wq, grow (redrawn (W1) dq) osq = wq := ⟨_, rfl⟩
  have hbwq : Below (W1).heap.size (W1) wq := by rw [← hqwq]; exact below_regrown _ dq osq
  rw [hqwq]
  clear hqwq
  have HALL : Kp (∀ w', Below wq.heap.size wq w' → w'.cell? ⟨Z, 0, none⟩ = some (.int .i64 R) ∧ w'.cell? ⟨Z, 1, none⟩ = some (.slice g M c) ∧ w'.cell? ⟨Z, 2, none⟩ = some (.int .i64 x) ∧ w'.cell? ⟨Z, 3, none⟩ = some (.int .i64 y)) := ⟨fun w' h => by
    obtain ⟨a0, a1, a2, a3, -⟩ := HALL1.out w' (hbwq.trans (h.mono hbwq.size))
    exact ⟨a0, a1, a2, a3⟩⟩
  have HBQ := Kp.mk (HB1.out.trans (hbwq.mono HB1.out.size))
  have HDQ := Kp.mk (HD1.out.on hbwq)
  have HZQ : Kp (Z + 4 ≤ wq.heap.size) := ⟨by have := HZ1.out; have := hbwq.size; omega⟩
  clear hbwq rg_c0 rg_c1 rg_c2 rg_c3 rg_c4 K1 K3 K4 HALL1 HD1 HB1 HZ1
  by_cases hE : ER = 0
  · obtain ⟨ox, oroom, oR, oS, ol1, ol2, om, oend, ogo⟩ := HOK.out hE
    have HOL := Kp.mk (And.intro ol1 (And.intro ol2 (And.intro oend ogo)))
    clear HOK ol1 ol2 oend ogo
    have HOX := Kp.mk (And.intro ox oroom)
    clear ox oroom
    subst hE
    gi_wp2_with fail
    refine wpIn_wide.2 ?_
    refine wp_region_noPanic ?_
    refine region_nm ?_
    intro ops Qp hops hQp
    have HQP : Kp (∀ c a d v w, Qp (.panic c) (Act.put a d v) w → Qp (.panic c) a w) := ⟨by subst hQp; intro c a d v w h; exact h⟩
    have HFIN : Kp (∀ (W0 : World) (r : Value) (b1 : Nat) (b2 : Nat), Below wq.heap.size wq W0 → (DS W0 r ol) → (W0.cell? ⟨b1, 0, none⟩ = some (.int .i64 x)) → (W0.cell? ⟨b2, 0, none⟩ = some r) → (wq.heap.size ≤ b2) → Qp .normal { tmps := #[.agg #[.int .i64 R, .slice g M c, .int .i64 x, .int .i64 y], .slice gu nu cu, .int .i64 room, .pointer (some ⟨Z, 0, none⟩), undef, .pointer (some ⟨Z + 1, 0, none⟩), .pointer (some ⟨Z + 2, 0, none⟩), .pointer (some ⟨Z + 3, 0, none⟩), .int .i64 0, undef, undef, .agg #[.int .i64 R, .slice g M c, .int .i64 x, .int .i64 y], .agg #[.int .i64 R, .slice g M c, .int .i64 x, .int .i64 y], .slice gu nu cu, .bool false, .bool false, undef, undef, undef, .bool false, .slice gu nu cu, .bool A, .int .i64 0, .int .i64 0, .bool false, undef, .agg #[.int .i64 R, .slice g M c, .int .i64 x, .int .i64 y], .slice gu nu cu, r, .pointer (some ⟨Z, 2, none⟩), .int .i64 x, .func (.func 92) #[] #[.pointer (some ⟨b1, 0, none⟩), .pointer (some ⟨b2, 0, none⟩)], undef, undef, undef, undef, undef, undef], defers := [] } W0) := by
      refine ⟨?_⟩
      intro W0 r b1 b2 hw hr hc1 hc2 hlb
      have HBW := Kp.mk (HBQ.out.trans (hw.mono HBQ.out.size))
      have HWB := Kp.mk hw
      clear HQP hops hw
      subst hQp
      refine NoPanic.normal ?_
      obtain ⟨gr, cr, rfl⟩ := hr.shape
      obtain ⟨N, hN⟩ : ∃ N, ol.length = N := ⟨_, rfl⟩
      have HNN := Kp.mk hN
      have HRS := Kp.mk hr
      rw [hN] at HRS hc2
      have HC1 : Kp (W0.cell? ⟨b1, 0, none⟩ = some (.int .i64 (S : Nat))) := ⟨by rw [← HOX.out.1]; exact hc1⟩
      have HC2 := Kp.mk hc2
      have HDW := Kp.mk (HDQ.out.on HWB.out)
      have HZW : Kp (Z + 4 ≤ b2 ∧ b2 < W0.heap.size ∧ Z + 4 ≤ W0.heap.size) := ⟨by have := HZQ.out; have := HWB.out.size; have := World.block_lt_of_cell? _ _ hc2; simp only at this; omega⟩
      have HSK : Kp (∀ k, SK gr b2 N k → k < W0.heap.size) := ⟨fun k hk => by have := SK_lt HRS.out HNN.out hk; have := HZW.out; omega⟩
      have HHB : Kp (∀ k V, Calls Try.prog 61 #[.int .i64 (spreadF ol S k : Nat), .int .i64 room] V fun e w' => e = .returned (.bool ((spreadF ol S k).testBit RN)) ∧ V = w') := ⟨fun k V => by
        rw [HOX.out.2]
        exact has_any _ RN V (by have := spreadF_lt HOL.out.2.1 oS k; omega) (by omega)⟩
      rw [hN]
      clear hN hr hc1 hc2 hlb HDQ HZQ HALL HOP HDY
      gi_wp2
      refine wpIn_yieldsS (k := 0) (enc := encY ol S) (xs := List.range (m + 1)) rfl (by omega) (gf := 92) (lb := #[.pointer (some ⟨b1, 0, none⟩), .pointer (some ⟨b2, 0, none⟩)]) rfl trivial (enters_of Try.func92 (by kernel_rfl) rfl) (fun _ => rfl)
        (days_yields 6 (by omega) b1 b2 gr N cr ol S m W0 HNN.out (by have := HOL.out.1; have := HNN.out; omega) HOL.out.2.1 oS om HOL.out.2.2.1 HOL.out.2.2.2 HC1.out HC2.out HRS.out) Keep.trans (fun V o o' _ _ _ => Keep.putObj (by omega) (by intro e; have := HSK.out _ e; omega))
        (fun pre V => Hd w (DC Z room 0 0) V ∧ ∀ r : Nat, r ∈ pre → (spreadF ol S r).testBit RN = false)
        (fun cd ys V => cd = .ret ∧ ∃ k : Nat, (List.range (m + 1)).find? (fun k => (spreadF ol S k).testBit RN) = some k ∧ Hd w (DC Z room k 0) V)
        (fun q => Turns.abides (C := Z + 4) (fun X Y row hX gr hr => ⟨Hd.turns (k := 0) (B := Z + 4) (by have := HZ.out; omega) (fun p hp => .inl (DC.lt p hp)) X Y row hX.1 gr hr, hX.2⟩) (by have := HZW.out; omega)) (fun cd q => Turns.abides (C := Z + 4) (fun X Y row hX gr hr => by
          obtain ⟨h1, k, h2, h3⟩ := hX
          exact ⟨h1, k, h2, Hd.turns (k := 0) (B := Z + 4) (by have := HZ.out; omega) (fun p hp => .inl (DC.lt p hp)) X Y row h3 gr hr⟩) (by have := HZW.out; omega))
        ⟨HDW.out, fun r hr => by cases hr⟩
        (fun pre k a' V => (Hd w (DC Z room 0 0) V ∧ ∀ r : Nat, r ∈ pre → (spreadF ol S r).testBit RN = false) ∧ a' = { tmps := #[.agg #[.int .i64 R, .slice g M c, .int .i64 x, .int .i64 y], .slice gu nu cu, .int .i64 room, .pointer (some ⟨Z, 0, none⟩), undef, .pointer (some ⟨Z + 1, 0, none⟩), .pointer (some ⟨Z + 2, 0, none⟩), .pointer (some ⟨Z + 3, 0, none⟩), .int .i64 0, .int .i64 (k : Nat), .int .i64 (spreadF ol S k : Nat), .agg #[.int .i64 R, .slice g M c, .int .i64 x, .int .i64 y], .agg #[.int .i64 R, .slice g M c, .int .i64 x, .int .i64 y], .slice gu nu cu, .bool false, .bool false, undef, undef, undef, .bool false, .slice gu nu cu, .bool A, .int .i64 0, .int .i64 0, .bool false, undef, .agg #[.int .i64 R, .slice g M c, .int .i64 x, .int .i64 y], .slice gu nu cu, .slice gr N cr, .pointer (some ⟨Z, 2, none⟩), .int .i64 x, .func (.func 92) #[] #[.pointer (some ⟨b1, 0, none⟩), .pointer (some ⟨b2, 0, none⟩)], .int .i64 (k : Nat), .int .i64 (spreadF ol S k : Nat), undef, undef, undef, undef], defers := [] })
        ?ax ?assign ?body ?done ?stop
      case ax =>
        rintro pre k a' X V row ⟨⟨hi, hn⟩, ha⟩ gr hr
        exact ⟨⟨Turns.abides (C := Z + 4) (Hd.turns (k := 0) (B := Z + 4) (by have := HZ.out; omega) (fun p hp => .inl (DC.lt p hp))) (by have := HZW.out; omega) X V row hi gr hr, hn⟩, ha⟩
      case assign =>
        rintro l2 pre k V ⟨hi, hn⟩ _ hsz
        have HI := Kp.mk hi
        have HNX := Kp.mk hn
        obtain ⟨F, hF⟩ : ∃ F, spreadF ol S k = F := ⟨_, rfl⟩
        clear hi hn
        have ez : ((#[32, 33] : Array Tmp).zip (encY ol S k)).foldl (fun tmps (q : Tmp × Value) => tmps.setIfInBounds q.1 q.2) #[.agg #[.int .i64 R, .slice g M c, .int .i64 x, .int .i64 y], .slice gu nu cu, .int .i64 room, .pointer (some ⟨Z, 0, none⟩), undef, .pointer (some ⟨Z + 1, 0, none⟩), .pointer (some ⟨Z + 2, 0, none⟩), .pointer (some ⟨Z + 3, 0, none⟩), .int .i64 0, undef, undef, .agg #[.int .i64 R, .slice g M c, .int .i64 x, .int .i64 y], .agg #[.int .i64 R, .slice g M c, .int .i64 x, .int .i64 y], .slice gu nu cu, .bool false, .bool false, undef, undef, undef, .bool false, .slice gu nu cu, .bool A, .int .i64 0, .int .i64 0, .bool false, undef, .agg #[.int .i64 R, .slice g M c, .int .i64 x, .int .i64 y], .slice gu nu cu, .slice gr N cr, .pointer (some ⟨Z, 2, none⟩), .int .i64 x, .func (.func 92) #[] #[.pointer (some ⟨b1, 0, none⟩), .pointer (some ⟨b2, 0, none⟩)], undef, undef, undef, undef, undef, undef] = #[.agg #[.int .i64 R, .slice g M c, .int .i64 x, .int .i64 y], .slice gu nu cu, .int .i64 room, .pointer (some ⟨Z, 0, none⟩), undef, .pointer (some ⟨Z + 1, 0, none⟩), .pointer (some ⟨Z + 2, 0, none⟩), .pointer (some ⟨Z + 3, 0, none⟩), .int .i64 0, undef, undef, .agg #[.int .i64 R, .slice g M c, .int .i64 x, .int .i64 y], .agg #[.int .i64 R, .slice g M c, .int .i64 x, .int .i64 y], .slice gu nu cu, .bool false, .bool false, undef, undef, undef, .bool false, .slice gu nu cu, .bool A, .int .i64 0, .int .i64 0, .bool false, undef, .agg #[.int .i64 R, .slice g M c, .int .i64 x, .int .i64 y], .slice gu nu cu, .slice gr N cr, .pointer (some ⟨Z, 2, none⟩), .int .i64 x, .func (.func 92) #[] #[.pointer (some ⟨b1, 0, none⟩), .pointer (some ⟨b2, 0, none⟩)], .int .i64 (k : Nat), .int .i64 (F : Nat), undef, undef, undef, undef] := by simp [encY, hF]
        rw [ez, hF]
        clear ez hF
        gi_wp2
        exact ⟨KeepsFrom.refl _ _, Keep.refl _ _ _ _, ⟨HI.out, HNX.out⟩, trivial⟩
      case body =>
        rintro l2 pre k a' V ⟨⟨hi, hn⟩, rfl⟩ hpre hsz
        obtain ⟨hky, rfl⟩ := range_pre hpre
        have HI := Kp.mk hi
        have HLE : Kp (∀ r : Nat, r < k → (spreadF ol S r).testBit RN = false) := ⟨fun r hr => hn r (List.mem_range.2 hr)⟩
        have HB := Kp.mk (fun V => HHB.out k V)
        obtain ⟨F, hF⟩ : ∃ F, spreadF ol S k = F := ⟨_, rfl⟩
        have HKM : Kp (k < m + 1) := ⟨hky⟩
        have HSZ : Kp (W0.heap.size + 2 ≤ V.heap.size) := ⟨by omega⟩
        have H2 := hi.cells
        simp only [DC, List.mem_cons, List.not_mem_nil, or_false, forall_eq_or_imp, forall_eq] at H2
        obtain ⟨⟨p0, z0⟩, ⟨p1, z1⟩, p2, z2⟩ := H2
        obtain ⟨Bt, hBt⟩ : ∃ B, (spreadF ol S k).testBit RN = B := ⟨_, rfl⟩
        have HBT := Kp.mk hBt
        rw [hBt, hF] at HB
        rw [hF]
        clear hi hn hpre hF hBt hky
        cases Bt with
        | false =>
          have HNX : Kp (∀ r : Nat, r ∈ List.range k ++ [k] → (spreadF ol S r).testBit RN = false) := ⟨fun r hr => by
            rcases List.mem_append.1 hr with hr | hr
            · exact HLE.out r (List.mem_range.1 hr)
            · rw [List.mem_singleton.1 hr]; exact HBT.out⟩
          gi_wp2_with fail
          refine ⟨trivial, (CallsIn.inRound _ (callsIn_wide.2 (HB.out _))).mono ?_⟩
          rintro en W9 ⟨rfl, rfl⟩
          gi_wp2
          exact ⟨KeepsFrom.refl _ _, Keep.refl _ _ _ _, HI.out, HNX.out⟩
        | true =>
          have HW3 : Kp (Hd w (DC Z room k 0) ((V.setCell ⟨Z + 2, 0, none⟩ (.int .i64 (k : Int))).setCell ⟨Z + 3, 0, none⟩ (.int .i64 0))) := ⟨DC.put HZ.out HI.out k 0⟩
          have HKF : Kp (KeepsFrom W0.heap.size V ((V.setCell ⟨Z + 2, 0, none⟩ (.int .i64 (k : Int))).setCell ⟨Z + 3, 0, none⟩ (.int .i64 0))) := ⟨(KeepsFrom.of_grownBy (setCell_grown _ _ _ _) (fun j e => by cases e; have := HZW.out; omega)).trans (KeepsFrom.of_grownBy (setCell_grown _ _ _ _) (fun j e => by cases e; have := HZW.out; omega))⟩
          have HFD : Kp ((List.range (m + 1)).find? (fun k => (spreadF ol S k).testBit RN) = some k) := ⟨by
            rw [List.find?_range_eq_some]
            exact ⟨HBT.out, List.mem_range.2 HKM.out, fun j hj => by rw [HLE.out j hj]; rfl⟩⟩
          gi_wp2_with fail
          refine ⟨trivial, (CallsIn.inRound _ (callsIn_wide.2 (HB.out _))).mono ?_⟩
          rintro en W9 ⟨rfl, rfl⟩
          gi_wp2
          exact ⟨HKF.out, rfl, _, HFD.out, HW3.out⟩
      case done =>
        rintro DD V hD ⟨hi, hn⟩ hd
        have HFD : Kp ((List.range (m + 1)).find? (fun k => (spreadF ol S k).testBit RN) = none) := ⟨by
          rw [List.find?_eq_none]
          intro k hk
          rw [hn k hk]
          exact Bool.false_ne_true⟩
        have hi9 := DC.put HZ.out hi 0 8
        have H2 := hi.cells
        simp only [DC, List.mem_cons, List.not_mem_nil, or_false, forall_eq_or_imp, forall_eq] at H2
        obtain ⟨⟨p0, z0⟩, ⟨p1, z1⟩, p2, z2⟩ := H2
        have hd9 : ((V.setCell ⟨Z + 2, 0, none⟩ (.int .i64 0)).setCell ⟨Z + 3, 0, none⟩ (.int .i64 8)).heap[DD]? = some (.deferred (some [])) := by
          have := HZW.out
          rw [Below.heap_setCell _ _ _ _ (by simp only; omega), Below.heap_setCell _ _ _ _ (by simp only; omega)]
          exact hd
        have HD9 := Kp.mk hd9
        have hi2 := Hd.turns (k := 0) (B := Z + 4) (by have := HZ.out; omega) (fun p hp => .inl (DC.lt p hp)) _ _ (some DD) hi9 (grownBy_putObj' _ DD (.deferred none)) (fun r e => by cases e; exact ⟨by have := HZW.out; omega, .inr ⟨_, hd9, rfl⟩⟩)
        have HI2 := Kp.mk hi2
        clear hi hn hd hi9 hd9 hi2
        gi_wp2
        have H3 := HI2.out.cells
        simp only [DC, List.mem_cons, List.not_mem_nil, or_false, forall_eq_or_imp, forall_eq] at H3
        obtain ⟨-, ⟨r1, -⟩, r2, -⟩ := H3
        refine ⟨by simp, .inl ⟨_, _, rfl, run_takeDeferred HD9.out, ?_⟩⟩
        exact ⟨.tuple #[.int .i64 0, .int .i64 8], by simp [results, Try.results17, go_sem, r1, r2], by rw [HFD.out]; rfl, HI2.out.below⟩
      case stop =>
        rintro DD cd ys V hD hys ⟨rfl, k, hk, hi⟩ hd
        have HFD := Kp.mk hk
        have HD9 := Kp.mk hd
        have hi2 := Hd.turns (k := 0) (B := Z + 4) (by have := HZ.out; omega) (fun p hp => .inl (DC.lt p hp)) _ _ (some DD) hi (grownBy_putObj' _ DD (.deferred none)) (fun r e => by cases e; exact ⟨by have := HZW.out; omega, .inr ⟨_, hd, rfl⟩⟩)
        have HI2 := Kp.mk hi2
        clear hi hd hi2 hk
        gi_wp2
        have H3 := HI2.out.cells
        simp only [DC, List.mem_cons, List.not_mem_nil, or_false, forall_eq_or_imp, forall_eq] at H3
        obtain ⟨-, ⟨r1, -⟩, r2, -⟩ := H3
        refine ⟨by simp, .inl ⟨_, _, rfl, run_takeDeferred HD9.out, ?_⟩⟩
        exact ⟨.tuple #[.int .i64 (k : Int), .int .i64 0], by simp [results, Try.results17, go_sem, r1, r2], by rw [HFD.out]; rfl, HI2.out.below⟩
    have S0_1_2_3_4_5 : Kp (∀ (w' : World) (r : Value) (b1 : Nat) (b2 : Nat), Below wq.heap.size wq w' → (DS w' r ol) → (w'.cell? ⟨b1, 0, none⟩ = some (.int .i64 x)) → (w'.cell? ⟨b2, 0, none⟩ = some r) → (wq.heap.size ≤ b2) → wpAnyH Try.prog .any ops Qp (fun w' => Below wq.heap.size wq w') 0 #[true, true, true, true, true, true] { tmps := #[.agg #[.int .i64 R, .slice g M c, .int .i64 x, .int .i64 y], .slice gu nu cu, .int .i64 room, .pointer (some ⟨Z, 0, none⟩), undef, .pointer (some ⟨Z + 1, 0, none⟩), .pointer (some ⟨Z + 2, 0, none⟩), .pointer (some ⟨Z + 3, 0, none⟩), .int .i64 0, undef, undef, .agg #[.int .i64 R, .slice g M c, .int .i64 x, .int .i64 y], .agg #[.int .i64 R, .slice g M c, .int .i64 x, .int .i64 y], .slice gu nu cu, .bool false, .bool false, undef, undef, undef, .bool false, .slice gu nu cu, .bool A, .int .i64 0, .int .i64 0, .bool false, undef, .agg #[.int .i64 R, .slice g M c, .int .i64 x, .int .i64 y], .slice gu nu cu, r, .pointer (some ⟨Z, 2, none⟩), .int .i64 x, .func (.func 92) #[] #[.pointer (some ⟨b1, 0, none⟩), .pointer (some ⟨b2, 0, none⟩)], undef, undef, undef, undef, undef, undef], defers := [] } w') := by
      refine ⟨?_⟩
      intro w' r b1 b2 hw hr hc1 hc2 hlb
      refine wpAnyH_done (by rw [hops]; kernel_rfl) ?_ _
      exact HFIN.out w' r b1 b2 hw hr hc1 hc2 hlb
    have S0_1_2_3_4 : Kp (∀ (w' : World) (r : Value), Below wq.heap.size wq w' → (DS w' r ol) → wpAnyH Try.prog .any ops Qp (fun w' => Below wq.heap.size wq w') 1 #[true, true, true, true, true, false] { tmps := #[.agg #[.int .i64 R, .slice g M c, .int .i64 x, .int .i64 y], .slice gu nu cu, .int .i64 room, .pointer (some ⟨Z, 0, none⟩), undef, .pointer (some ⟨Z + 1, 0, none⟩), .pointer (some ⟨Z + 2, 0, none⟩), .pointer (some ⟨Z + 3, 0, none⟩), .int .i64 0, undef, undef, .agg #[.int .i64 R, .slice g M c, .int .i64 x, .int .i64 y], .agg #[.int .i64 R, .slice g M c, .int .i64 x, .int .i64 y], .slice gu nu cu, .bool false, .bool false, undef, undef, undef, .bool false, .slice gu nu cu, .bool A, .int .i64 0, .int .i64 0, .bool false, undef, .agg #[.int .i64 R, .slice g M c, .int .i64 x, .int .i64 y], .slice gu nu cu, r, .pointer (some ⟨Z, 2, none⟩), .int .i64 x, undef, undef, undef, undef, undef, undef, undef], defers := [] } w') := by
      refine ⟨?_⟩
      intro w' r hw hr
      refine wpAnyH_ready (rs := [5]) (by rw [hops]; kernel_rfl) (by simp) ?_
      refine AllReadyH.cons (o := { dst := some 31, op := Go.Op.call { callee := Go.Callee.value (Go.Operand.func 60), args := #[Go.Operand.tmp 28, Go.Operand.tmp 30], argTypes := #[22, 3] }, type := 75, pos := "spread.go:32", after := #[{ on := 2, ground := Go.Ground.data }, { on := 4, ground := Go.Ground.data }, { on := 2, ground := Go.Ground.chain }], guard := none }) (by rw [hops]; kernel_rfl) (fun K hK => ?_) ?_
      · rw [if_pos (by rw [hops]; kernel_rfl)]
        go_simp
        refine (HDY.out (by simp) _ r hr).mono ?_
        rintro en w5 ⟨b1, b2, rfl, h1, h2, h3, hb5⟩
        exact hK.out _ _ (hw.trans (hb5.mono hw.size)) (fun hwn => S0_1_2_3_4_5.out w5 r b1 b2 hwn (hr.below hb5) h1 h2 (Nat.le_trans hw.size h3) )
      exact AllReadyH.nil
    have S : Kp (∀ (w' : World), Below wq.heap.size wq w' → wpAnyH Try.prog .any ops Qp (fun w' => Below wq.heap.size wq w') 6 #[false, false, false, false, false, false] { tmps := #[.agg #[.int .i64 R, .slice g M c, .int .i64 x, .int .i64 y], .slice gu nu cu, .int .i64 room, .pointer (some ⟨Z, 0, none⟩), undef, .pointer (some ⟨Z + 1, 0, none⟩), .pointer (some ⟨Z + 2, 0, none⟩), .pointer (some ⟨Z + 3, 0, none⟩), .int .i64 0, undef, undef, .agg #[.int .i64 R, .slice g M c, .int .i64 x, .int .i64 y], .agg #[.int .i64 R, .slice g M c, .int .i64 x, .int .i64 y], .slice gu nu cu, .bool false, .bool false, undef, undef, undef, .bool false, .slice gu nu cu, .bool A, .int .i64 0, .int .i64 0, .bool false, undef, undef, undef, undef, undef, undef, undef, undef, undef, undef, undef, undef, undef], defers := [] } w') := by
      refine ⟨?_⟩
      intro w' hw
      refine wpAnyH_take (i := 0) (oi := { dst := some 26, op := Go.Op.load 24 (Go.Operand.tmp 3), type := 24, pos := "spread.go:32", after := #[], guard := none }) (v := .agg #[.int .i64 R, .slice g M c, .int .i64 x, .int .i64 y]) (by rw [hops]; kernel_rfl) (by rw [hops]; kernel_rfl) (by rw [hops]; kernel_rfl) (by rw [hops]; kernel_rfl) (fun c a w h => HQP.out c a _ _ w h) (Or.inl ⟨by rw [hops]; kernel_rfl, by intro w hwS; obtain ⟨q0, q1, q2, q3⟩ := HALL.out w hwS; go_simp⟩) hw ?_
      simp only [Act.put, List.setIfInBounds_toArray, List.set_cons_zero, List.set_cons_succ]
      refine wpAnyH_take (i := 1) (oi := { dst := some 27, op := Go.Op.move (Go.Operand.tmp 1), type := 25, pos := "spread.go:32", after := #[], guard := none }) (v := .slice gu nu cu) (by rw [hops]; kernel_rfl) (by rw [hops]; kernel_rfl) (by rw [hops]; kernel_rfl) (by rw [hops]; kernel_rfl) (fun c a w h => HQP.out c a _ _ w h) (Or.inl ⟨by rw [hops]; kernel_rfl, by intro w _; go_simp⟩) hw ?_
      simp only [Act.put, List.setIfInBounds_toArray, List.set_cons_zero, List.set_cons_succ]
      refine wpAnyH_take (i := 3) (oi := { dst := some 29, op := Go.Op.fieldAddr 24 (Go.Operand.tmp 3) 2, type := 0, pos := "spread.go:32", after := #[], guard := none }) (v := .pointer (some ⟨Z, 2, none⟩)) (by rw [hops]; kernel_rfl) (by rw [hops]; kernel_rfl) (by rw [hops]; kernel_rfl) (by rw [hops]; kernel_rfl) (fun c a w h => HQP.out c a _ _ w h) (Or.inl ⟨by rw [hops]; kernel_rfl, by intro w _; go_simp⟩) hw ?_
      simp only [Act.put, List.setIfInBounds_toArray, List.set_cons_zero, List.set_cons_succ]
      refine wpAnyH_take (i := 4) (oi := { dst := some 30, op := Go.Op.load 3 (Go.Operand.tmp 29), type := 3, pos := "spread.go:32", after := #[{ on := 3, ground := Go.Ground.data }], guard := none }) (v := .int .i64 x) (by rw [hops]; kernel_rfl) (by rw [hops]; kernel_rfl) (by rw [hops]; kernel_rfl) (by rw [hops]; kernel_rfl) (fun c a w h => HQP.out c a _ _ w h) (Or.inl ⟨by rw [hops]; kernel_rfl, by intro w hwS; obtain ⟨q0, q1, q2, q3⟩ := HALL.out w hwS; go_simp⟩) hw ?_
      simp only [Act.put, List.setIfInBounds_toArray, List.set_cons_zero, List.set_cons_succ]
      refine wpAnyH_ready (rs := [2]) (by rw [hops]; kernel_rfl) (by simp) ?_
      refine AllReadyH.cons (o := { dst := some 28, op := Go.Op.call { callee := Go.Callee.value (Go.Operand.func 53), args := #[Go.Operand.tmp 26, Go.Operand.tmp 27], argTypes := #[24, 25] }, type := 22, pos := "spread.go:32", after := #[{ on := 0, ground := Go.Ground.data }, { on := 1, ground := Go.Ground.data }], guard := none }) (by rw [hops]; kernel_rfl) (fun K hK => ?_) ?_
      · rw [if_pos (by rw [hops]; kernel_rfl)]
        go_simp
        refine (HOP.out (by simp) _ (HBQ.out.trans (hw.mono HBQ.out.size))).mono ?_
        rintro en w5 ⟨r, rfl, hr, hb5⟩
        exact hK.out _ _ (hw.trans (hb5.mono hw.size)) (fun hwn => S0_1_2_3_4.out w5 r hwn hr )
      exact AllReadyH.nil
    have hsz : ops.size = 6 := by rw [hops]; rfl
    refine wp_region_held_drew (S := fun w' => Below wq.heap.size wq w') (by kernel_rfl) (Below.drew (Below.refl _ _)) (fun hw0 => ?_)
    rw [hsz]
    exact S.out _ hw0
  · have i1 : (ER == (0 : Int)) = false := by simp [hE]
    have i2 : (ER != (0 : Int)) = true := by simp [hE]
    have HE := Kp.mk hE
    have H2 := HDQ.out.cells
    simp only [DC, List.mem_cons, List.not_mem_nil, or_false, forall_eq_or_imp, forall_eq] at H2
    obtain ⟨⟨p0, z0⟩, ⟨p1, z1⟩, p2, z2⟩ := H2
    have HD9 := Kp.mk (DC.put HZ.out HDQ.out 0 ER)
    clear hE HOK HOP HDY
    gi_wp2
    have H3 := HD9.out.cells
    simp only [DC, List.mem_cons, List.not_mem_nil, or_false, forall_eq_or_imp, forall_eq] at H3
    obtain ⟨⟨r0, -⟩, ⟨r1, -⟩, r2, -⟩ := H3
    exact ⟨.tuple #[.int .i64 0, .int .i64 ER], by simp [results, Try.results17, go_sem, r1, r2], by unfold dayV; rw [if_neg HE.out], HD9.out.below⟩
end Go.Proofs.Ythkamfjjfkpekaa.Pe
