/-
  WALKS (layer 4, cold): the temperature in an hour, by the program.
-/
import Derived.Test.YtbbbnfodjkpiaaaCdHours
import Derived.Deep.RegionHeld3
namespace Go.Proofs.Ytbbbnfodjkpiaaa.Cd
open Go Go.RowKit Go.Sort
attribute [local go_sem] Oper.semAt_some

/-- The temperature of the last stretch that has begun. -/
def nowC (hour : Int) (xs : List Sg) : Int := xs.foldl (fun n x => if x.f ≤ hour then x.c else n) 0
theorem nowC_snoc (hour : Int) (xs : List Sg) (x : Sg) : nowC hour (xs ++ [x]) = if x.f ≤ hour then x.c else nowC hour xs := by
  unfold nowC; rw [List.foldl_append]; rfl
theorem nowC_late {hour : Int} {xs ys : List Sg} (h : ∀ y ∈ ys, hour < y.f) : nowC hour (xs ++ ys) = nowC hour xs := by
  unfold nowC
  rw [List.foldl_append]
  generalize xs.foldl (fun n x => if x.f ≤ hour then x.c else n) (0 : Int) = n
  induction ys generalizing n with
  | nil => rfl
  | cons y ys ih =>
    have := h y (by simp)
    rw [List.foldl_cons, if_neg (by omega)]
    exact ih (fun z hz => h z (by simp [hz])) n
theorem sg_mono {l : List Rd} {e : Int} (h : Good l e) {i j : Nat} (hij : i ≤ j) (hj : j < l.length) : (sgAt l e i).f ≤ (sgAt l e j).f := by
  by_cases e1 : i = j
  · subst e1; exact Int.le_refl _
  · have hx : l[i]? = some l[i] := List.getElem?_eq_getElem (by omega)
    have hy : l[j]? = some l[j] := List.getElem?_eq_getElem hj
    rw [sgAt_at hx, sgAt_at hy]
    exact Int.le_of_lt (read_asc' h.read (by omega) hx hy)
theorem strs_split (l : List Rd) (e : Int) {k m : Nat} (h : k ≤ m) : ∃ ys, strs l e m = strs l e k ++ ys ∧ ∀ y ∈ ys, ∃ j, k ≤ j ∧ j < m ∧ y = sgAt l e j := by
  induction m with
  | zero =>
    obtain rfl : k = 0 := by omega
    exact ⟨[], by simp, fun y hy => by cases hy⟩
  | succ m ih =>
    by_cases hk : k = m + 1
    · subst hk
      exact ⟨[], by simp, fun y hy => by cases hy⟩
    · obtain ⟨ys, h1, h2⟩ := ih (by omega)
      refine ⟨ys ++ [sgAt l e m], by rw [strs_succ, h1, List.append_assoc], fun y hy => ?_⟩
      rcases List.mem_append.1 hy with h3 | h3
      · obtain ⟨j, a, b, c⟩ := h2 y h3
        exact ⟨j, a, by omega, c⟩
      · exact ⟨m, by omega, by omega, List.mem_singleton.1 h3⟩
/-- Behind a stretch that begins too late nothing counts. -/
theorem now_at {l : List Rd} {e hour : Int} (h : Good l e) {k : Nat} (hk : k < l.length) (hx : hour < (sgAt l e k).f) : nowC hour (strs l e l.length) = nowC hour (strs l e k) := by
  obtain ⟨ys, h1, h2⟩ := strs_split l e (Nat.le_of_lt hk)
  rw [h1]
  refine nowC_late fun y hy => ?_
  obtain ⟨j, a, b, rfl⟩ := h2 y hy
  have := sg_mono h a b
  omega
def firstH (l : List Rd) : Int := (l.getD 0 ⟨0, 0⟩).h
def atE (l : List Rd) (e hour : Int) : Int := if chkE l e [] = 0 then if inB (firstH l) (e - 1) hour then 0 else 7 else chkE l e []
def atV (l : List Rd) (e hour : Int) : Int := if atE l e hour = 0 then nowC hour (strs l e l.length) else 0
/-- How the search is left early. -/
def AtX (w : World) (Z V : Nat) (hour : Int) (cd : Code) (ys : List Sg) (W : World) : Prop := ∃ pre x, Hd w [(Z, 0, .int .i64 hour), (V + 1, 0, .int .i64 (nowC hour pre))] W ∧ cd = .exit 0 ∧ ys = pre ++ [x] ∧ hour < x.f
theorem At_bad (v : Value) (l : List Rd) (e hour r : Int) (w : World) (hs : RS w v l) (h : chkE l e [] = r) (hr : (r != 0) = true) :
    Calls Try.prog 13 #[v, .int .i64 e, .int .i64 hour] w fun en w' => en = .returned (.tuple #[.int .i64 0, .int .i64 r]) ∧ Below w.heap.size w w' := by
  have HQ : Kp (∀ W, Below w.heap.size w W → Calls Try.prog 52 #[v, .int .i64 e, .slice none 0 0] W fun en w' => en = .returned (.int .i64 r) ∧ Below W.heap.size W w') := ⟨fun W hW => h ▸ check_any v l e _ [] W (hs.below hW) (NS.nil W) (by simp)⟩
  obtain ⟨g, c, rfl⟩ := hs.shape
  clear hs h
  go_enter Try.func13, Try.ntmps13
  go_wp2_with fail
  refine (HQ.out _ (by repeat (first | exact Below.refl _ _ | refine Below.alloc ?_ (by simp <;> omega) _ | refine bDrewN ?_ _ | refine Below.drew ?_))).mono ?_
  rintro en w1 ⟨rfl, hb1⟩
  have HB1 : Kp (Below w.heap.size w w1) := ⟨Below.trans (by repeat (first | exact Below.refl _ _ | refine Below.alloc ?_ (by simp <;> omega) _ | refine bDrewN ?_ _ | refine Below.drew ?_)) (hb1.mono (by simp))⟩
  clear hb1
  go_wp2
  go_ret2
  exact ⟨rfl, HB1.out⟩
set_option maxRecDepth 100000 in
set_option maxHeartbeats 4000000 in
theorem At_in (v : Value) (l : List Rd) (e hour : Int) (w : World) (hs : RS w v l) (h : Good l e) (hin : inB (firstH l) (e - 1) hour = true) :
    Calls Try.prog 13 #[v, .int .i64 e, .int .i64 hour] w fun en w' => en = .returned (.tuple #[.int .i64 (nowC hour (strs l e l.length)), .int .i64 0]) ∧ Below w.heap.size w w' := by
  have HG := Kp.mk h
  have HQ : Kp (∀ W, Below w.heap.size w W → Calls Try.prog 52 #[v, .int .i64 e, .slice none 0 0] W fun en w' => en = .returned (.int .i64 0) ∧ Below W.heap.size W w') := ⟨fun W hW => good_chk h (ts := []) rfl ▸ check_any v l e _ [] W (hs.below hW) (NS.nil W) (by simp)⟩
  obtain ⟨b, o, m, c, y, rfl, hm, hm9, hb, -, -, -⟩ := last_of hs h.read
  have hx0 : l[0]? = some l[0] := List.getElem?_eq_getElem (by omega)
  obtain ⟨y0, hy0⟩ : ∃ y0, (l[0]'(by omega)).h = y0 := ⟨_, rfl⟩
  have HF : Kp (firstH l = y0 ∧ 0 ≤ y0 ∧ y0 ≤ e ∧ e ≤ 1000000) := ⟨by
    have h1 := read_bd h.read hx0
    have h2 := h.end_ hx0
    refine ⟨?_, by omega, by omega, by omega⟩
    unfold firstH
    rw [List.getD_eq_getElem?_getD, hx0, ← hy0]
    rfl⟩
  have HC0 : Kp (∀ W, Below w.heap.size w W → W.cell? ⟨b, o, none⟩ = some (.int .i64 y0)) := ⟨by
    intro W hW
    obtain ⟨g', c', e', -, hi⟩ := hs
    simp only [Value.slice.injEq] at e'
    obtain ⟨rfl, -, rfl⟩ := e'
    obtain ⟨b', o', hg, hb', h1, h2⟩ := hi 0 _ hx0
    simp only [Option.some.injEq, Addr.mk.injEq, and_true] at hg
    obtain ⟨rfl, rfl⟩ := hg
    rw [hy0] at h1
    have := (hW.cell (p := ⟨b, _, none⟩) hb).trans h1
    simpa using this⟩
  have HIN : Kp (allB y0 (e - 1) [hour] = true) := ⟨by rw [allB1, ← HF.out.1]; exact hin⟩
  have HS := Kp.mk hs
  have HM := Kp.mk (And.intro hm hb)
  obtain ⟨Z, hZ⟩ : ∃ Z, w.heap.size = Z := ⟨_, rfl⟩
  have HZ : Kp (w.heap.size = Z) := ⟨hZ⟩
  clear hs h hm hb hin hZ hx0 hy0
  refine (callsIn_wide (n := 6)).1 ?_
  refine callsIn_of_wp_marks Try.func13 rfl trivial ?_ rfl
  simp only [Try.ntmps13, List.size_toArray, List.length_cons, List.length_nil, Nat.reduceAdd, Nat.reduceSub, Array.replicate_succ, Array.replicate_zero, List.push_toArray, List.append_toArray, List.nil_append, List.cons_append]
  gi_wp2_with fail
  refine ⟨trivial, (callsIn_wide.2 (HQ.out _ (by repeat (first | exact Below.refl _ _ | refine Below.alloc ?_ (by simp <;> omega) _ | refine bDrewN ?_ _ | refine Below.drew ?_)))).mono ?_⟩
  rintro en w1 ⟨rfl, hb1⟩
  have HB1 : Kp (Below w.heap.size w w1) := ⟨Below.trans (by repeat (first | refine Below.alloc ?_ (by (try simp) <;> omega) _ | refine bDrewN ?_ _ | refine Below.drew ?_ | exact Below.refl _ _)) (hb1.mono (by (try simp) <;> omega))⟩
  have hz1_0 : w.heap.size < w1.heap.size := by have := hb1.size; (try simp at this); omega
  obtain ⟨hc, hf⟩ := bcell hb1
  have c1_0_0 : w1.cell? ⟨w.heap.size, 0, none⟩ = some (.int .i64 hour) := (hc _ _ (by (try simp) <;> omega)).trans (by go_simp)
  have z1_0 : ∀ j, w1.frozen? ⟨w.heap.size, j, none⟩ = false := fun j => (hf _ _ (by (try simp) <;> omega)).trans (by go_simp)
  clear hc hf hb1
  have q0 := HC0.out w1 HB1.out
  have lb0 := World.block_lt_of_cell? _ _ q0
  have i1 : IntKind.i64.wrap (e - 1) = e - 1 := IntWalk.i64_in _ (by have := HF.out; omega)
  gi_wp2
  refine wpIn_wide.2 ?_
  refine wp_region_noPanic ?_
  go_region_held3 (fun w' => w'.cell? ⟨b, o, none⟩ = some (.int .i64 y0) ∧ w'.cell? ⟨w.heap.size, 0, none⟩ = some (.int .i64 hour)) (repeat (first | assumption | refine ⟨?_, ?_⟩ | refine cell_drew_some ?_ | refine Lib.cell?_alloc_some _ ?_))
    (first | (go_at_call 53; refine (within_any y0 (e - 1) _ [hour] _ (NS.one (by go_simp)) (by simp)).mono ?_; rw [HIN.out]; rintro e w' ⟨rfl, rfl⟩))
  refine NoPanic.normal ?_
  gi_wp2_with fail
  refine ⟨trivial, (callsIn_wide.2 (stretches_any _ _ _ e _)).mono ?_⟩
  rintro en W0 ⟨rfl, hW0⟩
  obtain ⟨V, hV⟩ : ∃ V, w1.heap.size = V := ⟨_, rfl⟩
  have hzy : Z < V := by have := HZ.out; omega
  have HX := Lib.hid (((Hd.one HB1.out c1_0_0 z1_0).on ((Below.refl _ w1).alloc (Nat.le_refl _) (.cells #[.int .i64 hour] 3))).box (.int .i64 0) 3 (by rw [World.size_alloc, hV]) (by have := HZ.out; omega)).drew
  have HW := Lib.hid (str_start (Y := V + 1 + 1) (by rw [World.size_drew, World.size_alloc, World.size_alloc, hV]) hW0)
  rw [HZ.out] at HX
  have HH : Kp (Hd w [(Z, 0, .int .i64 hour), (V + 1, 0, .int .i64 0)] W0) := ⟨HX.out.on HW.out.2.1⟩
  have HSW : Kp (RS W0 (.slice (some ⟨b, o, none⟩) l.length c) l) := ⟨by rw [HM.out.1]; exact HS.out.below HH.out.below⟩
  have HBW : Kp (b < W0.heap.size) := ⟨Nat.lt_of_lt_of_le HM.out.2 HH.out.below.size⟩
  have HV : Kp (w1.heap.size = V) := ⟨hV⟩
  clear hW0 HX HB1 c1_0_0 z1_0 hz1_0 hV HQ q0 lb0 i1
  gi_wp2
  simp only [HV.out, HZ.out]
  refine wpIn_yieldsS (enc := encS) (xs := strs l e l.length) rfl (by omega) (gf := 77) (lb := #[.pointer (some ⟨V + 1 + 1, 0, none⟩), .pointer (some ⟨V + 1 + 1 + 1, 0, none⟩)]) rfl trivial (enters_of Try.func77 (by kernel_rfl) rfl) (fun _ => rfl)
    (stretches_yields 5 (by omega) (V + 1 + 1) (V + 1 + 1 + 1) b o c l e W0 (by have := HM.out.1; omega) HSW.out HBW.out (by rw [HM.out.1]; exact HW.out.2.2.1) HW.out.2.2.2) Keep3.trans (fun W lq ob ob' hl _ _ _ => Keep3.putObj (B := W0.heap.size) (fun k hk => by have := HW.out.1; have := HBW.out; rcases hk with rfl | rfl | rfl <;> omega) W lq ob' hl)
    (fun pre W => Hd w [(Z, 0, .int .i64 hour), (V + 1, 0, .int .i64 (nowC hour pre))] W ∧ Kp (∀ y ∈ pre, y.f ≤ hour))
    (fun cd ys W => AtX w Z V hour cd ys W)
    (fun s => abide_and (Hd.abide (by have := HZ.out; have := HW.out.1; omega) (fun p hp => by have := HW.out.1; simp only [List.mem_cons, List.not_mem_nil, or_false] at hp; rcases hp with rfl | rfl <;> simp only <;> omega)) abide_const) ?ix ⟨HH.out, ⟨fun y hy => by cases hy⟩⟩
    (fun pre x a' W => Hd w [(Z, 0, .int .i64 hour), (V + 1, 0, .int .i64 (nowC hour pre))] W ∧ Kp (∀ y ∈ pre, y.f ≤ hour) ∧ ∃ Nb, V + 6 < Nb ∧ SgAt W Nb x ∧ a' = { tmps := #[.slice (some ⟨b, o, none⟩) (m + 1) c, .int .i64 e, .int .i64 hour, undef, undef, .pointer (some ⟨Z, 0, none⟩), .int .i64 0, .int .i64 0, .int .i64 0, .pointer (some ⟨V + 1, 0, none⟩), .pointer (some ⟨Nb, 0, none⟩), .int .i64 x.c, .slice (some ⟨b, o, none⟩) (m + 1) c, .int .i64 e, .int .i64 0, .int .i64 0, .bool false, undef, .slice (some ⟨b, o, none⟩) (m + 1) c, .pointer (some ⟨b, o, none⟩), .pointer (some ⟨b, o, none⟩), .int .i64 y0, .int .i64 e, .int .i64 (e - 1), .int .i64 hour, .slice (some ⟨V, 0, none⟩) 1 1, .bool true, .bool false, .slice (some ⟨b, o, none⟩) (m + 1) c, .int .i64 e, .func (.func 77) #[] #[.pointer (some ⟨V + 1 + 1, 0, none⟩), .pointer (some ⟨V + 1 + 1 + 1, 0, none⟩)], .agg #[.int .i64 x.f, .int .i64 x.t], .int .i64 x.c, undef, undef, undef, undef, undef, undef], defers := [] })
    ?ax ?assign ?body ?done ?stop
  case ix =>
    rintro cd s X V' row ⟨pre, x, hi, h1, h2, h3⟩ g hr
    exact ⟨pre, x, Hd.abide (by have := HZ.out; have := HW.out.1; omega) (fun p hp => by have := HW.out.1; simp only [List.mem_cons, List.not_mem_nil, or_false] at hp; rcases hp with rfl | rfl <;> simp only <;> omega) X V' row hi g hr, h1, h2, h3⟩
  case ax =>
    rintro pre x a' X V' row ⟨hi, hp, Nb, hNb, hx, ha⟩ g hr
    exact ⟨Hd.abide (by have := HZ.out; have := HW.out.1; omega) (fun p hp => by have := HW.out.1; simp only [List.mem_cons, List.not_mem_nil, or_false] at hp; rcases hp with rfl | rfl <;> simp only <;> omega) X V' row hi g hr, hp, Nb, hNb, hx.abide g hr (by have := HW.out.1; omega), ha⟩
  case assign =>
    rintro lp pre ⟨f, t, cc⟩ W ⟨hi, hp⟩ _ hsz
    have HI := Kp.mk hi
    have hsz' : V + 6 < W.heap.size := by have := HW.out.1; omega
    clear hi
    have ez : ((#[31, 32] : Array Tmp).zip (encS ⟨f, t, cc⟩)).foldl (fun tmps (q : Tmp × Value) => tmps.setIfInBounds q.1 q.2) #[.slice (some ⟨b, o, none⟩) (m + 1) c, .int .i64 e, .int .i64 hour, undef, undef, .pointer (some ⟨Z, 0, none⟩), .int .i64 0, .int .i64 0, .int .i64 0, .pointer (some ⟨V + 1, 0, none⟩), undef, undef, .slice (some ⟨b, o, none⟩) (m + 1) c, .int .i64 e, .int .i64 0, .int .i64 0, .bool false, undef, .slice (some ⟨b, o, none⟩) (m + 1) c, .pointer (some ⟨b, o, none⟩), .pointer (some ⟨b, o, none⟩), .int .i64 y0, .int .i64 e, .int .i64 (e - 1), .int .i64 hour, .slice (some ⟨V, 0, none⟩) 1 1, .bool true, .bool false, .slice (some ⟨b, o, none⟩) (m + 1) c, .int .i64 e, .func (.func 77) #[] #[.pointer (some ⟨V + 1 + 1, 0, none⟩), .pointer (some ⟨V + 1 + 1 + 1, 0, none⟩)], undef, undef, undef, undef, undef, undef, undef, undef] = #[.slice (some ⟨b, o, none⟩) (m + 1) c, .int .i64 e, .int .i64 hour, undef, undef, .pointer (some ⟨Z, 0, none⟩), .int .i64 0, .int .i64 0, .int .i64 0, .pointer (some ⟨V + 1, 0, none⟩), undef, undef, .slice (some ⟨b, o, none⟩) (m + 1) c, .int .i64 e, .int .i64 0, .int .i64 0, .bool false, undef, .slice (some ⟨b, o, none⟩) (m + 1) c, .pointer (some ⟨b, o, none⟩), .pointer (some ⟨b, o, none⟩), .int .i64 y0, .int .i64 e, .int .i64 (e - 1), .int .i64 hour, .slice (some ⟨V, 0, none⟩) 1 1, .bool true, .bool false, .slice (some ⟨b, o, none⟩) (m + 1) c, .int .i64 e, .func (.func 77) #[] #[.pointer (some ⟨V + 1 + 1, 0, none⟩), .pointer (some ⟨V + 1 + 1 + 1, 0, none⟩)], .agg #[.int .i64 f, .int .i64 t], .int .i64 cc, undef, undef, undef, undef, undef, undef] := by simp [encS]
    rw [ez]
    clear ez
    gi_wp2
    refine ⟨alloc_keeps _ _ _, alloc_keep3 _ _ (fun k hk => by have := HW.out.1; have := HBW.out; rcases hk with rfl | rfl | rfl <;> omega), HI.out.on ((Below.refl _ _).alloc (Nat.le_refl _) _), hp, W.heap.size, hsz', ?_, rfl⟩
    constructor <;> go_simp
  case body =>
    rintro lp pre x a' W ⟨hi, hq, Nb, hNb, hx, rfl⟩ hpre hsz
    have hsn := nowC_snoc hour pre x
    have HI := Kp.mk hi
    obtain ⟨h7, z7⟩ := hi.cells (Z, 0, .int .i64 hour) (by simp)
    obtain ⟨h8, z8⟩ := hi.cells (V + 1, 0, .int .i64 (nowC hour pre)) (by simp)
    simp only at h7 z7 h8 z8
    have l8 := World.block_lt_of_cell? _ _ h8
    obtain ⟨f, t, cc⟩ := x
    obtain ⟨s0, s1⟩ := hx
    simp only at s0 s1 hsn
    by_cases hlt : hour < f
    · clear hsn hpre
      gi_wp2
      exact ⟨KeepsFrom.refl _ _, ⟨pre, ⟨f, t, cc⟩, HI.out, rfl, rfl, hlt⟩⟩
    · rw [if_pos (show f ≤ hour by omega)] at hsn
      have HSN : Kp (nowC hour (pre ++ [⟨f, t, cc⟩]) = cc) := ⟨hsn⟩
      have HQ2 : Kp (∀ y ∈ pre ++ [⟨f, t, cc⟩], y.f ≤ hour) := ⟨fun y hy => by
        rcases List.mem_append.1 hy with h1 | h1
        · exact hq.out y h1
        · rw [List.mem_singleton.1 h1]; simp only; omega⟩
      have HK : Kp (Hd w [(Z, 0, .int .i64 hour), (V + 1, 0, .int .i64 cc)] (W.setCell ⟨V + 1, 0, none⟩ (.int .i64 cc))) := ⟨⟨hi.below.setCell (by have := HZ.out; simp; omega) _, by
        intro p hp
        simp only [List.mem_cons, List.not_mem_nil, or_false] at hp
        rcases hp with rfl | rfl <;> constructor <;> simp [go_sem, h7, z7, h8, z8]⟩⟩
      have HF2 : Kp (KeepsFrom W0.heap.size W (W.setCell ⟨V + 1, 0, none⟩ (.int .i64 cc))) := ⟨KeepsFrom.of_grownBy (setCell_grown W (V + 1) 0 _) (fun j e => by simp only [Option.some.injEq] at e; have := HW.out.1; omega)⟩
      have H3 : Kp (Keep3 (S3 (V + 1 + 1) (V + 1 + 1 + 1) b) (W0.heap.size + 2) W (W.setCell ⟨V + 1, 0, none⟩ (.int .i64 cc))) := ⟨Keep3.of_grown (setCell_grown W (V + 1) 0 _) (fun k hk => by have := HW.out.1; have := HBW.out; rcases hk with rfl | rfl | rfl <;> omega) (fun k hk e => by have := HM.out.2; have := HZ.out; simp only [Option.some.injEq] at e; rcases hk with rfl | rfl | rfl <;> omega)⟩
      clear hsn hi hpre hq
      gi_wp2
      exact ⟨HF2.out, H3.out, by show Hd w [(Z, 0, .int .i64 hour), (V + 1, 0, .int .i64 (nowC hour (pre ++ [⟨f, t, cc⟩])))] _; rw [HSN.out]; exact HK.out, HQ2⟩
  case done =>
    rintro D W hD ⟨hi, -⟩ hd
    have HI := Kp.mk (Hd.abide (B := W0.heap.size) (by have := HZ.out; have := HW.out.1; omega) (fun p hp => by have := HW.out.1; simp only [List.mem_cons, List.not_mem_nil, or_false] at hp; rcases hp with rfl | rfl <;> simp only <;> omega) _ _ (some D) hi (grownBy_putObj' _ D (.deferred none)) (fun r e => by cases e; exact .inr ⟨hD, _, hd, rfl⟩))
    have HD2 := Kp.mk hd
    obtain ⟨h8, z8⟩ := hi.cells (V + 1, 0, .int .i64 (nowC hour (strs l e l.length))) (by simp)
    simp only at h8 z8
    obtain ⟨N, hN⟩ : ∃ N, nowC hour (strs l e l.length) = N := ⟨_, rfl⟩
    have HN : Kp (nowC hour (strs l e l.length) = N) := ⟨hN⟩
    rw [hN] at h8
    clear hi hd hN
    gi_wp2
    refine ⟨by simp, .inl ⟨_, _, rfl, run_takeDeferred HD2.out, ?_⟩⟩
    exact ⟨.tuple #[.int .i64 N, .int .i64 0], by simp [results, Try.results13, go_sem], by rw [HN.out], HI.out.below⟩
  case stop =>
    rintro D cd ys W hD hys ⟨pre, x, hi, rfl, rfl, hlt⟩ hd
    have HI := Kp.mk (Hd.abide (B := W0.heap.size) (by have := HZ.out; have := HW.out.1; omega) (fun p hp => by have := HW.out.1; simp only [List.mem_cons, List.not_mem_nil, or_false] at hp; rcases hp with rfl | rfl <;> simp only <;> omega) _ _ (some D) hi (grownBy_putObj' _ D (.deferred none)) (fun r e => by cases e; exact .inr ⟨hD, _, hd, rfl⟩))
    have HD2 := Kp.mk hd
    obtain ⟨hp1, hp2, hp3⟩ := strs_pre hys
    obtain ⟨h8, z8⟩ := hi.cells (V + 1, 0, .int .i64 (nowC hour pre)) (by simp)
    simp only at h8 z8
    obtain ⟨N, hN⟩ : ∃ N, nowC hour pre = N := ⟨_, rfl⟩
    have HN : Kp (nowC hour (strs l e l.length) = N) := ⟨by rw [now_at HG.out hp1 (by rw [← hp3]; exact hlt), ← hp2]; exact hN⟩
    rw [hN] at h8
    clear hi hd hN hp1 hp2 hp3 hys
    gi_wp2
    refine ⟨by simp, .inl ⟨_, _, rfl, run_takeDeferred HD2.out, ?_⟩⟩
    exact ⟨.tuple #[.int .i64 N, .int .i64 0], by simp [results, Try.results13, go_sem], by rw [HN.out], HI.out.below⟩
set_option maxRecDepth 100000 in
set_option maxHeartbeats 4000000 in
theorem At_rng (v : Value) (l : List Rd) (e hour : Int) (w : World) (hs : RS w v l) (h : Good l e) (hin : inB (firstH l) (e - 1) hour = false) :
    Calls Try.prog 13 #[v, .int .i64 e, .int .i64 hour] w fun en w' => en = .returned (.tuple #[.int .i64 0, .int .i64 7]) ∧ Below w.heap.size w w' := by
  have HG := Kp.mk h
  have HQ : Kp (∀ W, Below w.heap.size w W → Calls Try.prog 52 #[v, .int .i64 e, .slice none 0 0] W fun en w' => en = .returned (.int .i64 0) ∧ Below W.heap.size W w') := ⟨fun W hW => good_chk h (ts := []) rfl ▸ check_any v l e _ [] W (hs.below hW) (NS.nil W) (by simp)⟩
  obtain ⟨b, o, m, c, y, rfl, hm, hm9, hb, -, -, -⟩ := last_of hs h.read
  have hx0 : l[0]? = some l[0] := List.getElem?_eq_getElem (by omega)
  obtain ⟨y0, hy0⟩ : ∃ y0, (l[0]'(by omega)).h = y0 := ⟨_, rfl⟩
  have HF : Kp (firstH l = y0 ∧ 0 ≤ y0 ∧ y0 ≤ e ∧ e ≤ 1000000) := ⟨by
    have h1 := read_bd h.read hx0
    have h2 := h.end_ hx0
    refine ⟨?_, by omega, by omega, by omega⟩
    unfold firstH
    rw [List.getD_eq_getElem?_getD, hx0, ← hy0]
    rfl⟩
  have HC0 : Kp (∀ W, Below w.heap.size w W → W.cell? ⟨b, o, none⟩ = some (.int .i64 y0)) := ⟨by
    intro W hW
    obtain ⟨g', c', e', -, hi⟩ := hs
    simp only [Value.slice.injEq] at e'
    obtain ⟨rfl, -, rfl⟩ := e'
    obtain ⟨b', o', hg, hb', h1, h2⟩ := hi 0 _ hx0
    simp only [Option.some.injEq, Addr.mk.injEq, and_true] at hg
    obtain ⟨rfl, rfl⟩ := hg
    rw [hy0] at h1
    have := (hW.cell (p := ⟨b, _, none⟩) hb).trans h1
    simpa using this⟩
  have HIN : Kp (allB y0 (e - 1) [hour] = false) := ⟨by rw [allB1, ← HF.out.1]; exact hin⟩
  have HS := Kp.mk hs
  have HM := Kp.mk (And.intro hm hb)
  obtain ⟨Z, hZ⟩ : ∃ Z, w.heap.size = Z := ⟨_, rfl⟩
  have HZ : Kp (w.heap.size = Z) := ⟨hZ⟩
  clear hs h hm hb hin hZ hx0 hy0
  go_enter Try.func13, Try.ntmps13
  go_wp2_with fail
  refine (HQ.out _ (by repeat (first | exact Below.refl _ _ | refine Below.alloc ?_ (by simp <;> omega) _ | refine bDrewN ?_ _ | refine Below.drew ?_))).mono ?_
  rintro en w1 ⟨rfl, hb1⟩
  have HB1 : Kp (Below w.heap.size w w1) := ⟨Below.trans (by repeat (first | refine Below.alloc ?_ (by (try simp) <;> omega) _ | refine bDrewN ?_ _ | refine Below.drew ?_ | exact Below.refl _ _)) (hb1.mono (by (try simp) <;> omega))⟩
  have hz1_0 : w.heap.size < w1.heap.size := by have := hb1.size; (try simp at this); omega
  obtain ⟨hc, hf⟩ := bcell hb1
  have c1_0_0 : w1.cell? ⟨w.heap.size, 0, none⟩ = some (.int .i64 hour) := (hc _ _ (by (try simp) <;> omega)).trans (by go_simp)
  have z1_0 : ∀ j, w1.frozen? ⟨w.heap.size, j, none⟩ = false := fun j => (hf _ _ (by (try simp) <;> omega)).trans (by go_simp)
  clear hc hf hb1
  have q0 := HC0.out w1 HB1.out
  have lb0 := World.block_lt_of_cell? _ _ q0
  have i1 : IntKind.i64.wrap (e - 1) = e - 1 := IntWalk.i64_in _ (by have := HF.out; omega)
  go_wp2
  go_region_held3 (fun w' => w'.cell? ⟨b, o, none⟩ = some (.int .i64 y0) ∧ w'.cell? ⟨w.heap.size, 0, none⟩ = some (.int .i64 hour)) (repeat (first | assumption | refine ⟨?_, ?_⟩ | refine cell_drew_some ?_ | refine Lib.cell?_alloc_some _ ?_))
    (first | (go_at_call 53; refine (within_any y0 (e - 1) _ [hour] _ (NS.one (by go_simp)) (by simp)).mono ?_; rw [HIN.out]; rintro e w' ⟨rfl, rfl⟩))
  clear i1 q0 lb0
  go_wp2
  go_ret2
  exact ⟨rfl, bDrewN (HB1.out.alloc HB1.out.size _) 1⟩
theorem At_any (v : Value) (l : List Rd) (e hour : Int) (w : World) (hs : RS w v l) :
    Calls Try.prog 13 #[v, .int .i64 e, .int .i64 hour] w fun en w' => en = .returned (.tuple #[.int .i64 (atV l e hour), .int .i64 (atE l e hour)]) ∧ Below w.heap.size w w' := by
  by_cases h : chkE l e [] = 0
  · obtain ⟨hg, -⟩ := chk_good h
    cases hin : inB (firstH l) (e - 1) hour with
    | true =>
      have e1 : atE l e hour = 0 := by unfold atE; rw [if_pos h, hin]; rfl
      have e2 : atV l e hour = nowC hour (strs l e l.length) := by unfold atV; rw [if_pos e1]
      rw [e1, e2]
      exact At_in v l e hour w hs hg hin
    | false =>
      have e1 : atE l e hour = 7 := by unfold atE; rw [if_pos h, hin]; rfl
      have e2 : atV l e hour = 0 := by unfold atV; rw [e1]; rfl
      rw [e1, e2]
      exact At_rng v l e hour w hs hg hin
  · have e1 : atE l e hour = chkE l e [] := by unfold atE; rw [if_neg h]
    have e2 : atV l e hour = 0 := by unfold atV; rw [e1, if_neg h]
    rw [e1, e2]
    exact At_bad v l e hour _ w hs rfl (by rw [bne_iff_ne]; exact h)
end Go.Proofs.Ytbbbnfodjkpiaaa.Cd
