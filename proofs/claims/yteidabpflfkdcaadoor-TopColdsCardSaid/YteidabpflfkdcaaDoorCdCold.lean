/-
  WALKS (layer 4, cold): the hours that are cold, by the program.
-/
import Derived.Test.YteidabpflfkdcaaDoorCdHours
namespace Go.Proofs.YteidabpflfkdcaaDoor.Cd
open Go Go.RowKit Go.Sort
attribute [local go_sem] Oper.semAt_some

/-- How many hours have at most a temperature. -/
def foldC (temp : Int) (xs : List Sg) : Int := xs.foldl (fun n x => if x.c ≤ temp then n + (x.t - x.f) else n) 0
theorem foldC_snoc (temp : Int) (xs : List Sg) (x : Sg) : foldC temp (xs ++ [x]) = if x.c ≤ temp then foldC temp xs + (x.t - x.f) else foldC temp xs := by
  unfold foldC; rw [List.foldl_append]; rfl
def coldN (l : List Rd) (e temp : Int) : Int := if chkE l e [temp] = 0 then foldC temp (strs l e l.length) else 0
theorem foldC_bd {l : List Rd} {e temp : Int} (h : Good l e) {k : Nat} (hk : k < l.length) : 0 ≤ foldC temp (strs l e k) ∧ foldC temp (strs l e k) ≤ (sgAt l e k).f := by
  induction k with
  | zero => exact ⟨Int.le_refl _, (h.sg hk).1.1⟩
  | succ k ih =>
    have h1 := ih (by omega)
    have h2 := h.sg (show k < l.length by omega)
    have h3 := sg_next (l := l) (e := e) hk
    rw [strs_succ, foldC_snoc, h3]
    split <;> omega
theorem Cold_bad (v : Value) (l : List Rd) (e temp r : Int) (w : World) (hs : RS w v l) (h : chkE l e [temp] = r) (hr : (r != 0) = true) :
    Calls Tryd.prog 14 #[v, .int .i64 e, .int .i64 temp] w fun en w' => en = .returned (.tuple #[.int .i64 0, .int .i64 r]) ∧ Below w.heap.size w w' := by
  have HQ : Kp (∀ W tv, Below w.heap.size w W → NS W tv [temp] → Calls Tryd.prog 39 #[v, .int .i64 e, tv] W fun en w' => en = .returned (.int .i64 r) ∧ Below W.heap.size W w') := ⟨fun W tv hW ht => h ▸ check_any v l e tv [temp] W (hs.below hW) ht (by simp)⟩
  obtain ⟨g, c, rfl⟩ := hs.shape
  clear hs h
  go_enter Tryd.func14, Tryd.ntmps14
  go_wp2_with fail
  refine (HQ.out _ _ (by repeat (first | exact Below.refl _ _ | refine Below.alloc ?_ (by simp <;> omega) _ | refine bDrewN ?_ _ | refine Below.drew ?_)) (NS.one (by go_simp))).mono ?_
  rintro en w1 ⟨rfl, hb1⟩
  have HB1 : Kp (Below w.heap.size w w1) := ⟨Below.trans (by repeat (first | exact Below.refl _ _ | refine Below.alloc ?_ (by simp <;> omega) _ | refine bDrewN ?_ _ | refine Below.drew ?_)) (hb1.mono (by simp; omega))⟩
  clear hb1
  go_wp2
  go_ret2
  exact ⟨rfl, HB1.out⟩
set_option maxRecDepth 100000 in
set_option maxHeartbeats 4000000 in
theorem Cold_in (v : Value) (l : List Rd) (e temp : Int) (w : World) (hs : RS w v l) (h : Good l e) (ht : allB (-1000) 1000 [temp] = true) :
    Calls Tryd.prog 14 #[v, .int .i64 e, .int .i64 temp] w fun en w' => en = .returned (.tuple #[.int .i64 (foldC temp (strs l e l.length)), .int .i64 0]) ∧ Below w.heap.size w w' := by
  have HG := Kp.mk h
  have HQ : Kp (∀ W tv, Below w.heap.size w W → NS W tv [temp] → Calls Tryd.prog 39 #[v, .int .i64 e, tv] W fun en w' => en = .returned (.int .i64 0) ∧ Below W.heap.size W w') := ⟨fun W tv hW htv => good_chk h ht ▸ check_any v l e tv [temp] W (hs.below hW) htv (by simp)⟩
  obtain ⟨b, o, m, c, y, rfl, hm, hm9, hb, -, -, -⟩ := last_of hs h.read
  have HS := Kp.mk hs
  have HM := Kp.mk (And.intro hm hb)
  obtain ⟨Z, hZ⟩ : ∃ Z, w.heap.size = Z := ⟨_, rfl⟩
  have HZ : Kp (w.heap.size = Z) := ⟨hZ⟩
  clear hs h hm hb ht hZ
  refine (callsIn_wide (n := 6)).1 ?_
  refine callsIn_of_wp_marks Tryd.func14 rfl trivial ?_ rfl
  simp only [Tryd.ntmps14, List.size_toArray, List.length_cons, List.length_nil, Nat.reduceAdd, Nat.reduceSub, Array.replicate_succ, Array.replicate_zero, List.push_toArray, List.append_toArray, List.nil_append, List.cons_append]
  gi_wp2_with fail
  refine ⟨trivial, (callsIn_wide.2 (HQ.out _ _ (by repeat (first | exact Below.refl _ _ | refine Below.alloc ?_ (by simp <;> omega) _ | refine bDrewN ?_ _ | refine Below.drew ?_)) (NS.one (by go_simp)))).mono ?_⟩
  rintro en w1 ⟨rfl, hb1⟩
  have HB1 : Kp (Below w.heap.size w w1) := ⟨Below.trans (by repeat (first | refine Below.alloc ?_ (by (try simp) <;> omega) _ | refine bDrewN ?_ _ | refine Below.drew ?_ | exact Below.refl _ _)) (hb1.mono (by (try simp) <;> omega))⟩
  have hz1_0 : w.heap.size < w1.heap.size := by have := hb1.size; (try simp at this); omega
  obtain ⟨hc, hf⟩ := bcell hb1
  have c1_0_0 : w1.cell? ⟨w.heap.size, 0, none⟩ = some (.int .i64 temp) := (hc _ _ (by (try simp) <;> omega)).trans (by go_simp)
  have z1_0 : ∀ j, w1.frozen? ⟨w.heap.size, j, none⟩ = false := fun j => (hf _ _ (by (try simp) <;> omega)).trans (by go_simp)
  clear hc hf hb1
  gi_wp2_with fail
  refine ⟨trivial, (callsIn_wide.2 (stretches_any _ _ _ e _)).mono ?_⟩
  rintro en W0 ⟨rfl, hW0⟩
  obtain ⟨Y, hY⟩ : ∃ Y, w1.heap.size = Y := ⟨_, rfl⟩
  have hzy : Z < Y := by have := HZ.out; omega
  have HX := Lib.hid ((Hd.one HB1.out c1_0_0 z1_0).box (.int .i64 0) 3 hY (by have := HZ.out; omega))
  have HW := Lib.hid (str_start (Y := Y + 1) (by rw [World.size_alloc, hY]) hW0)
  rw [HZ.out] at HX
  have HH : Kp (Hd w [(Z, 0, .int .i64 temp), (Y, 0, .int .i64 0)] W0) := ⟨HX.out.on HW.out.2.1⟩
  have HSW : Kp (RS W0 (.slice (some ⟨b, o, none⟩) l.length c) l) := ⟨by rw [HM.out.1]; exact HS.out.below HH.out.below⟩
  have HBW : Kp (b < W0.heap.size) := ⟨Nat.lt_of_lt_of_le HM.out.2 HH.out.below.size⟩
  have HY : Kp (w1.heap.size = Y) := ⟨hY⟩
  clear hW0 HX HB1 c1_0_0 z1_0 hz1_0 hY HQ
  gi_wp2
  simp only [HY.out, HZ.out]
  refine wpIn_yieldsS (enc := encS) (xs := strs l e l.length) rfl (by omega) (gf := 72) (lb := #[.pointer (some ⟨Y + 1, 0, none⟩), .pointer (some ⟨Y + 1 + 1, 0, none⟩)]) rfl trivial (enters_of Tryd.func72 (by kernel_rfl) rfl) (fun _ => rfl)
    (stretches_yields 5 (by omega) (Y + 1) (Y + 1 + 1) b o c l e W0 (by have := HM.out.1; omega) HSW.out HBW.out (by rw [HM.out.1]; exact HW.out.2.2.1) HW.out.2.2.2) Keep3.trans (fun W lq ob ob' hl _ _ _ => Keep3.putObj (B := W0.heap.size) (fun k hk => by have := HW.out.1; have := HBW.out; rcases hk with rfl | rfl | rfl <;> omega) W lq ob' hl)
    (fun pre W => Hd w [(Z, 0, .int .i64 temp), (Y, 0, .int .i64 (foldC temp pre))] W)
    (fun _ _ _ => False)
    (fun s => Hd.abide (by have := HZ.out; have := HW.out.1; omega) (fun p hp => by have := HW.out.1; simp only [List.mem_cons, List.not_mem_nil, or_false] at hp; rcases hp with rfl | rfl <;> simp only <;> omega)) (fun _ _ => abide_const) HH.out
    (fun pre x a' W => Hd w [(Z, 0, .int .i64 temp), (Y, 0, .int .i64 (foldC temp pre))] W ∧ ∃ Nb, Y + 5 < Nb ∧ SgAt W Nb x ∧ a' = { tmps := #[.slice (some ⟨b, o, none⟩) (m + 1) c, .int .i64 e, .int .i64 temp, undef, undef, .pointer (some ⟨Z, 0, none⟩), .int .i64 0, .int .i64 0, .int .i64 0, .pointer (some ⟨Y, 0, none⟩), .pointer (some ⟨Nb, 0, none⟩), .int .i64 x.c, .slice (some ⟨b, o, none⟩) (m + 1) c, .int .i64 e, .int .i64 temp, .slice (some ⟨Z + 1, 0, none⟩) 1 1, .int .i64 0, .int .i64 0, .bool false, undef, .slice (some ⟨b, o, none⟩) (m + 1) c, .int .i64 e, .func (.func 72) #[] #[.pointer (some ⟨Y + 1, 0, none⟩), .pointer (some ⟨Y + 1 + 1, 0, none⟩)], .agg #[.int .i64 x.f, .int .i64 x.t], .int .i64 x.c, undef, undef, undef, undef, undef, undef, undef, undef, undef, undef, undef], defers := [] })
    ?ax ?assign ?body ?done ?stop
  case ax =>
    rintro pre x a' X V row ⟨hi, Nb, hNb, hx, ha⟩ g hr
    exact ⟨Hd.abide (by have := HZ.out; have := HW.out.1; omega) (fun p hp => by have := HW.out.1; simp only [List.mem_cons, List.not_mem_nil, or_false] at hp; rcases hp with rfl | rfl <;> simp only <;> omega) X V row hi g hr, Nb, hNb, hx.abide g hr (by have := HW.out.1; omega), ha⟩
  case assign =>
    rintro lp pre ⟨f, t, cc⟩ W hi _ hsz
    have HI := Kp.mk hi
    have hsz' : Y + 5 < W.heap.size := by have := HW.out.1; omega
    clear hi
    have ez : ((#[23, 24] : Array Tmp).zip (encS ⟨f, t, cc⟩)).foldl (fun tmps (q : Tmp × Value) => tmps.setIfInBounds q.1 q.2) #[.slice (some ⟨b, o, none⟩) (m + 1) c, .int .i64 e, .int .i64 temp, undef, undef, .pointer (some ⟨Z, 0, none⟩), .int .i64 0, .int .i64 0, .int .i64 0, .pointer (some ⟨Y, 0, none⟩), undef, undef, .slice (some ⟨b, o, none⟩) (m + 1) c, .int .i64 e, .int .i64 temp, .slice (some ⟨Z + 1, 0, none⟩) 1 1, .int .i64 0, .int .i64 0, .bool false, undef, .slice (some ⟨b, o, none⟩) (m + 1) c, .int .i64 e, .func (.func 72) #[] #[.pointer (some ⟨Y + 1, 0, none⟩), .pointer (some ⟨Y + 1 + 1, 0, none⟩)], undef, undef, undef, undef, undef, undef, undef, undef, undef, undef, undef, undef, undef] = #[.slice (some ⟨b, o, none⟩) (m + 1) c, .int .i64 e, .int .i64 temp, undef, undef, .pointer (some ⟨Z, 0, none⟩), .int .i64 0, .int .i64 0, .int .i64 0, .pointer (some ⟨Y, 0, none⟩), undef, undef, .slice (some ⟨b, o, none⟩) (m + 1) c, .int .i64 e, .int .i64 temp, .slice (some ⟨Z + 1, 0, none⟩) 1 1, .int .i64 0, .int .i64 0, .bool false, undef, .slice (some ⟨b, o, none⟩) (m + 1) c, .int .i64 e, .func (.func 72) #[] #[.pointer (some ⟨Y + 1, 0, none⟩), .pointer (some ⟨Y + 1 + 1, 0, none⟩)], .agg #[.int .i64 f, .int .i64 t], .int .i64 cc, undef, undef, undef, undef, undef, undef, undef, undef, undef, undef, undef] := by simp [encS]
    rw [ez]
    clear ez
    gi_wp2
    refine ⟨alloc_keeps _ _ _, alloc_keep3 _ _ (fun k hk => by have := HW.out.1; have := HBW.out; rcases hk with rfl | rfl | rfl <;> omega), HI.out.on ((Below.refl _ _).alloc (Nat.le_refl _) _), W.heap.size, hsz', ?_, rfl⟩
    constructor <;> go_simp
  case body =>
    rintro lp pre x a' W ⟨hi, Nb, hNb, hx, rfl⟩ hpre hsz
    obtain ⟨hp1, hp2, hp3⟩ := strs_pre hpre
    have hbd := HG.out.sg (e := e) hp1
    rw [← hp3] at hbd
    have hsum := foldC_bd (temp := temp) HG.out hp1
    rw [← hp2, ← hp3] at hsum
    have hsn := foldC_snoc temp pre x
    have HI := Kp.mk hi
    obtain ⟨h7, z7⟩ := hi.cells (Z, 0, .int .i64 temp) (by simp)
    obtain ⟨h8, z8⟩ := hi.cells (Y, 0, .int .i64 (foldC temp pre)) (by simp)
    simp only at h7 z7 h8 z8
    have l8 := World.block_lt_of_cell? _ _ h8
    obtain ⟨f, t, cc⟩ := x
    obtain ⟨s0, s1⟩ := hx
    simp only at s0 s1 hbd hsum
    obtain ⟨N, hN⟩ : ∃ N, foldC temp pre = N := ⟨_, rfl⟩
    rw [hN] at hsn hsum h8
    by_cases hle : cc ≤ temp
    · rw [if_pos hle] at hsn
      have HSN : Kp (foldC temp (pre ++ [⟨f, t, cc⟩]) = N + (t - f)) := ⟨hsn⟩
      have HK : Kp (Hd w [(Z, 0, .int .i64 temp), (Y, 0, .int .i64 (N + (t - f)))] (W.setCell ⟨Y, 0, none⟩ (.int .i64 (N + (t - f))))) := ⟨⟨hi.below.setCell (by have := HZ.out; simp; omega) _, by
        intro p hp
        simp only [List.mem_cons, List.not_mem_nil, or_false] at hp
        rcases hp with rfl | rfl <;> constructor <;> simp [go_sem, h7, z7, h8, z8]⟩⟩
      have HF : Kp (KeepsFrom W0.heap.size W (W.setCell ⟨Y, 0, none⟩ (.int .i64 (N + (t - f))))) := ⟨KeepsFrom.of_grownBy (setCell_grown W Y 0 _) (fun j e => by simp only [Option.some.injEq] at e; have := HW.out.1; omega)⟩
      have H3 : Kp (Keep3 (S3 (Y + 1) (Y + 1 + 1) b) (W0.heap.size + 2) W (W.setCell ⟨Y, 0, none⟩ (.int .i64 (N + (t - f))))) := ⟨Keep3.of_grown (setCell_grown W Y 0 _) (fun k hk => by have := HW.out.1; have := HBW.out; rcases hk with rfl | rfl | rfl <;> omega) (fun k hk e => by have := HM.out.2; have := HZ.out; simp only [Option.some.injEq] at e; rcases hk with rfl | rfl | rfl <;> omega)⟩
      clear hsn hi hN hp1 hp2 hp3 hpre
      gi_wp2
      exact ⟨HF.out, H3.out, by show Hd w [(Z, 0, .int .i64 temp), (Y, 0, .int .i64 (foldC temp (pre ++ [⟨f, t, cc⟩])))] _; rw [HSN.out]; exact HK.out⟩
    · rw [if_neg hle, ← hN] at hsn
      have HSN : Kp (foldC temp (pre ++ [⟨f, t, cc⟩]) = foldC temp pre) := ⟨hsn⟩
      clear hsn hi hN hp1 hp2 hp3 hpre
      gi_wp2
      exact ⟨KeepsFrom.refl _ _, Keep3.refl _ _ _, by show Hd w [(Z, 0, .int .i64 temp), (Y, 0, .int .i64 (foldC temp (pre ++ [⟨f, t, cc⟩])))] _; rw [HSN.out]; exact HI.out⟩
  case done =>
    rintro D W hD hi hd
    have HI := Kp.mk (Hd.abide (B := W0.heap.size) (by have := HZ.out; have := HW.out.1; omega) (fun p hp => by have := HW.out.1; simp only [List.mem_cons, List.not_mem_nil, or_false] at hp; rcases hp with rfl | rfl <;> simp only <;> omega) _ _ (some D) hi (grownBy_putObj' _ D (.deferred none)) (fun r e => by cases e; exact .inr ⟨hD, _, hd, rfl⟩))
    have HD2 := Kp.mk hd
    obtain ⟨h8, z8⟩ := hi.cells (Y, 0, .int .i64 (foldC temp (strs l e l.length))) (by simp)
    simp only at h8 z8
    obtain ⟨N, hN⟩ : ∃ N, foldC temp (strs l e l.length) = N := ⟨_, rfl⟩
    have HN : Kp (foldC temp (strs l e l.length) = N) := ⟨hN⟩
    rw [hN] at h8
    clear hi hd hN
    gi_wp2
    refine ⟨by simp, .inl ⟨_, _, rfl, run_takeDeferred HD2.out, ?_⟩⟩
    exact ⟨.tuple #[.int .i64 N, .int .i64 0], by simp [results, Tryd.results14, go_sem], by rw [HN.out], HI.out.below⟩
  case stop =>
    rintro D cd ys W hD hys hi hd
    exact hi.elim
theorem Cold_any (v : Value) (l : List Rd) (e temp : Int) (w : World) (hs : RS w v l) :
    Calls Tryd.prog 14 #[v, .int .i64 e, .int .i64 temp] w fun en w' => en = .returned (.tuple #[.int .i64 (coldN l e temp), .int .i64 (chkE l e [temp])]) ∧ Below w.heap.size w w' := by
  by_cases h : chkE l e [temp] = 0
  · obtain ⟨hg, ht⟩ := chk_good h
    have e1 : coldN l e temp = foldC temp (strs l e l.length) := by unfold coldN; rw [if_pos h]
    rw [e1, h]
    exact Cold_in v l e temp w hs hg ht
  · have e1 : coldN l e temp = 0 := by unfold coldN; rw [if_neg h]
    rw [e1]
    exact Cold_bad v l e temp _ w hs rfl (by rw [bne_iff_ne]; exact h)
end Go.Proofs.YteidabpflfkdcaaDoor.Cd
