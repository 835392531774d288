/-
  WALKS (layer 4, cold): rows of hours that pass, by the program.
-/
import Derived.Test.YteidabpflfkdcaaDoorCdEat
import Derived.Laws.EntriesVeiled
namespace Go.Proofs.YteidabpflfkdcaaDoor.Cd
open Go Go.RowKit Go.Sort
attribute [local go_sem] Oper.semAt_some

def rowV (r : Rw) : Value := .func (.func r.f) #[] #[.pointer (some ⟨r.B, 0, none⟩)]
theorem SgAt.same {X Y : World} {U : Nat} {x : Sg} (h : SgAt X U x) (hb : Y.heap[U]? = X.heap[U]?) : SgAt Y U x :=
  ⟨(World.cell?_of_block (a := ⟨U, 0, none⟩) hb).trans h.c0, (World.cell?_of_block (a := ⟨U, 1, none⟩) hb).trans h.c1⟩
/-- The rows that are left, and where the next one can begin. -/
def Left (w : World) (Z : Nat) (q : Int × List Rw) (W : World) : Prop := ∃ rv, RowsAt w rv q.2 ∧ Hd w [(Z, 0, rv), (Z + 1, 0, .int .i64 q.1)] W
theorem Left.abide {w : World} {Z B : Nat} {q : Int × List Rw} (hB : w.heap.size ≤ B) (hZ : Z + 1 < B) : Abides B (Left w Z q) := by
  rintro X Y row ⟨rv, h1, h2⟩ g hr
  exact ⟨rv, h1, Hd.abide hB (fun p hp => by simp only [List.mem_cons, List.not_mem_nil, or_false] at hp; rcases hp with rfl | rfl <;> simp only <;> omega) X Y row h2 g hr⟩
def LeftX (w : World) (Z : Nat) (b : Int) (rs : List Rw) (cd : Code) (ys : List Sg) (W : World) : Prop := cd = .exit 0 ∧ ∃ n, runP b rs ys = (n, []) ∧ Left w Z (n, []) W
theorem LeftX.abide {w : World} {Z B : Nat} {b : Int} {rs : List Rw} {cd : Code} {ys : List Sg} (hB : w.heap.size ≤ B) (hZ : Z + 1 < B) : Abides B (LeftX w Z b rs cd ys) := by
  rintro X Y row ⟨h1, n, h2, h3⟩ g hr
  exact ⟨h1, n, h2, Left.abide hB hZ X Y row h3 g hr⟩
theorem run_bd {l : List Rd} {e b : Int} {rs : List Rw} (h : Good l e) (hr : ∀ r ∈ rs, 1 ≤ r.hours ∧ r.hours ≤ 10000) (hb : 0 ≤ b ∧ b ≤ 1000000) {k : Nat} (hk : k ≤ l.length) :
    (0 ≤ (runP b rs (strs l e k)).1 ∧ (runP b rs (strs l e k)).1 ≤ 1000000) ∧ ∀ r ∈ (runP b rs (strs l e k)).2, r ∈ rs := by
  induction k with
  | zero => exact ⟨hb, fun r hr => hr⟩
  | succ k ih =>
    obtain ⟨h1, h2⟩ := ih (by omega)
    have h3 := h.sg (show k < l.length by omega)
    rw [strs_succ, runP_snoc]
    exact ⟨eat_bd (fun r hr' => hr r (h2 r hr')) h1 (by omega), fun r hr' => h2 r (eat_sub r hr')⟩
/-- How many rows are left, read off the world. -/
def rowsN (Z : Nat) (W : World) : Nat := match W.cell? ⟨Z, 0, none⟩ with
  | some (.slice _ n _) => n
  | _ => 0
theorem rowsN_of {Z : Nat} {W : World} {g : Option Addr} {n c : Nat} (h : W.cell? ⟨Z, 0, none⟩ = some (.slice g n c)) : rowsN Z W = n := by
  unfold rowsN; rw [h]
theorem rowsN_moved {Z : Nat} {W : World} {v0 v2 : Value} {g : Option Addr} {n c : Nat} {o : Obj} (h : W.cell? ⟨Z, 0, none⟩ = some v0) : rowsN Z (((W.setCell ⟨Z + 1, 0, none⟩ v2).setCell ⟨Z, 0, none⟩ (.slice g n c)).alloc o) = n := by
  have l7 := World.block_lt_of_cell? _ _ h
  exact rowsN_of (g := g) (c := c) (by simp [go_sem, h, l7])
/-- What the walk over the rows keeps within a stretch. -/
structure In (w W0 W : World) (Z Nb : Nat) (S : Nat → Prop) (x : Sg) (q0 : Int × List Rw) (q : Int × List Rw) (wr : World) : Prop where
  left : Left w Z q wr
  same : eat x.t x.c q0.1 q0.2 = eat x.t x.c q.1 q.2
  keeps : KeepsFrom W0.heap.size W wr
  keep3 : Keep3 S (W0.heap.size + 2) W wr
  sg : SgAt wr Nb x
  bd : 0 ≤ q.1 ∧ q.1 ≤ 1000000
  rows : ∀ r ∈ q.2, r ∈ q0.2
theorem In.alloc {w W0 W wr : World} {Z Nb : Nat} {S : Nat → Prop} {x : Sg} {q0 q : Int × List Rw} (h : In w W0 W Z Nb S x q0 q wr) (hS : ∀ k, S k → k < wr.heap.size) (o : Obj) : In w W0 W Z Nb S x q0 q (wr.alloc o) := by
  obtain ⟨rv, h1, h2⟩ := h.left
  have hb : Below wr.heap.size wr (wr.alloc o) := (Below.refl _ _).alloc (Nat.le_refl _) _
  exact ⟨⟨rv, h1, h2.on hb⟩, h.same, h.keeps.trans (alloc_keeps _ _ _), h.keep3.trans (alloc_keep3 _ _ hS), h.sg.same (hb.block _ (World.block_lt_of_cell? _ _ h.sg.c0)), h.bd, h.rows⟩
theorem In.noted {w W0 W X : World} {Z Nb : Nat} {S : Nat → Prop} {x : Sg} {q0 q : Int × List Rw} (h : In w W0 W Z Nb S x q0 q X) (hw : w.heap.size = Z) (hZ : Z + 1 < W0.heap.size) (hS : ∀ k, S k → k < X.heap.size ∧ k ≠ Z ∧ k ≠ Z + 1) (v : Int) :
    KeepsFrom W0.heap.size W (X.setCell ⟨Z + 1, 0, none⟩ (.int .i64 v)) ∧ Keep3 S (W0.heap.size + 2) W (X.setCell ⟨Z + 1, 0, none⟩ (.int .i64 v)) ∧ Left w Z (v, q.2) (X.setCell ⟨Z + 1, 0, none⟩ (.int .i64 v)) := by
  obtain ⟨rv, h1, h2⟩ := h.left
  obtain ⟨h7, z7⟩ := h2.cells (Z, 0, rv) (by simp)
  obtain ⟨h8, z8⟩ := h2.cells (Z + 1, 0, .int .i64 q.1) (by simp)
  simp only at h7 z7 h8 z8
  refine ⟨h.keeps.trans (KeepsFrom.of_grownBy (setCell_grown X (Z + 1) 0 _) (fun j e => by simp only [Option.some.injEq] at e; omega)), h.keep3.trans (Keep3.of_grown (setCell_grown X (Z + 1) 0 _) (fun k hk => (hS k hk).1) (fun k hk e => by simp only [Option.some.injEq] at e; exact (hS k hk).2.2 e)), rv, h1, h2.below.setCell (by simp; omega) _, ?_⟩
  intro p hp
  simp only [List.mem_cons, List.not_mem_nil, or_false] at hp
  rcases hp with rfl | rfl <;> constructor <;> simp [go_sem, h7, z7, h8, z8]
theorem In.moved {w W0 W X : World} {Z Nb : Nat} {S : Nat → Prop} {x : Sg} {q0 q : Int × List Rw} (h : In w W0 W Z Nb S x q0 q X) (hw : w.heap.size = Z) (hZ : Z + 1 < W0.heap.size) (hN : Z + 1 < Nb) (hS : ∀ k, S k → k < X.heap.size ∧ k ≠ Z ∧ k ≠ Z + 1) (v : Int) (rv' : Value) (rs' : List Rw)
    (hR : RowsAt w rv' rs') (he : eat x.t x.c q.1 q.2 = eat x.t x.c v rs') (hv : 0 ≤ v ∧ v ≤ 1000000) (hsub : ∀ r ∈ rs', r ∈ q.2) : In w W0 W Z Nb S x q0 (v, rs') ((X.setCell ⟨Z + 1, 0, none⟩ (.int .i64 v)).setCell ⟨Z, 0, none⟩ rv') := by
  obtain ⟨g1, g2, rv, g3, g4⟩ := h.noted hw hZ hS v
  obtain ⟨Y, hY⟩ : ∃ Y, X.setCell ⟨Z + 1, 0, none⟩ (.int .i64 v) = Y := ⟨_, rfl⟩
  have hsz : Y.heap.size = X.heap.size := by rw [← hY]; simp
  have hnb : Y.heap[Nb]? = X.heap[Nb]? := by rw [← hY]; exact Below.heap_setCell X ⟨Z + 1, 0, none⟩ _ Nb (by simp only; omega)
  rw [hY] at g1 g2 g4 ⊢
  obtain ⟨h7, z7⟩ := g4.cells (Z, 0, rv) (by simp)
  obtain ⟨h8, z8⟩ := g4.cells (Z + 1, 0, .int .i64 v) (by simp)
  simp only at h7 z7 h8 z8
  refine ⟨⟨rv', hR, g4.below.setCell (by simp; omega) _, ?_⟩, h.same.trans he, g1.trans (KeepsFrom.of_grownBy (setCell_grown Y Z 0 _) (fun j e => by simp only [Option.some.injEq] at e; omega)), g2.trans (Keep3.of_grown (setCell_grown Y Z 0 _) (fun k hk => by have := (hS k hk).1; omega) (fun k hk e => by simp only [Option.some.injEq] at e; exact (hS k hk).2.1 e)), ?_, hv, fun r hr => h.rows r (hsub r hr)⟩
  · intro p hp
    simp only [List.mem_cons, List.not_mem_nil, or_false] at hp
    rcases hp with rfl | rfl <;> constructor <;> simp [go_sem, h7, z7, h8, z8]
  · exact h.sg.same ((Below.heap_setCell Y ⟨Z, 0, none⟩ _ Nb (by simp only; omega)).trans hnb)
theorem In.ends {w W0 W X : World} {Z Nb : Nat} {S : Nat → Prop} {x : Sg} {q0 q : Int × List Rw} (h : In w W0 W Z Nb S x q0 q X) (hw : w.heap.size = Z) (hZ : Z + 1 < W0.heap.size) (hS : ∀ k, S k → k < X.heap.size ∧ k ≠ Z ∧ k ≠ Z + 1) (v : Int) (o : Obj) :
    KeepsFrom W0.heap.size W ((X.setCell ⟨Z + 1, 0, none⟩ (.int .i64 v)).alloc o) ∧ Keep3 S (W0.heap.size + 2) W ((X.setCell ⟨Z + 1, 0, none⟩ (.int .i64 v)).alloc o) ∧ Left w Z (v, q.2) ((X.setCell ⟨Z + 1, 0, none⟩ (.int .i64 v)).alloc o) := by
  obtain ⟨g1, g2, rv, g3, g4⟩ := h.noted hw hZ hS v
  exact ⟨g1.trans (alloc_keeps _ _ _), g2.trans (alloc_keep3 _ _ (fun k hk => by have := (hS k hk).1; simp; omega)), rv, g3, g4.on ((Below.refl _ _).alloc (Nat.le_refl _) _)⟩
theorem pass_start {Z : Nat} (w : World) (rv : Value) (fr : Int) (hZ : w.heap.size = Z) : Hd w [(Z, 0, rv), (Z + 1, 0, .int .i64 fr)] ((w.alloc (.cells #[rv] 91)).alloc (.cells #[.int .i64 fr] 3)) := by
  subst hZ
  refine ⟨((Below.refl _ _).alloc (Nat.le_refl _) _).alloc (by simp) _, fun p hp => ?_⟩
  simp only [List.mem_cons, List.not_mem_nil, or_false] at hp
  rcases hp with rfl | rfl <;> constructor <;> go_simp
set_option maxRecDepth 100000 in
set_option maxHeartbeats 4000000 in
theorem passed_in (v : Value) (l : List Rd) (e fr : Int) (rv : Value) (rs : List Rw) (w : World) (hs : RS w v l) (h : Good l e) (hfr : 0 ≤ fr ∧ fr ≤ 1000000) (hr : RowsAt w rv rs) (hok : ∀ r ∈ rs, RowOk w r) :
    Calls Tryd.prog 38 #[v, .int .i64 e, .int .i64 fr, rv] w fun en w' => en = .returned (.tuple #[.int .i64 (endV (strs l e l.length) fr rs), .int .i64 (endE (strs l e l.length) fr rs)]) ∧ Below w.heap.size w w' := by
  have HG := Kp.mk h
  have HOK := Lib.hid hok
  have HR := Lib.hid hr
  have HFR := Lib.hid hfr
  have HRH : Kp (∀ r ∈ rs, 1 ≤ r.hours ∧ r.hours ≤ 10000) := ⟨fun r h => (hok r h).hours⟩
  obtain ⟨b, o, m, c, y, rfl, hm, hm9, hb, -, -, -⟩ := last_of hs h.read
  obtain ⟨rg, rc, rfl, -⟩ := hr
  have HS := Kp.mk hs
  have HM := Kp.mk (And.intro hm hb)
  obtain ⟨Z, hZ⟩ : ∃ Z, w.heap.size = Z := ⟨_, rfl⟩
  have HZ : Kp (w.heap.size = Z) := ⟨hZ⟩
  clear hs h hm hb hok hfr hZ
  refine (callsIn_wide (n := 6)).1 ?_
  refine callsIn_of_wp_marks Tryd.func38 rfl trivial ?_ rfl
  simp only [Tryd.ntmps38, List.size_toArray, List.length_cons, List.length_nil, Nat.reduceAdd, Nat.reduceSub, Array.replicate_succ, Array.replicate_zero, List.push_toArray, List.append_toArray, List.nil_append, List.cons_append]
  gi_wp2
  refine wpIn_wide.2 ?_
  refine wp_scope_straight ?_
  refine (wpIn_wide (n := 6)).1 ?_
  gi_wp2
  refine wpIn_label ?_
  gi_wp2_with fail
  refine ⟨trivial, (callsIn_wide.2 (stretches_any _ _ _ e _)).mono ?_⟩
  rintro en W0 ⟨rfl, hW0⟩
  have HW := Lib.hid (str_start (Y := Z + 1 + 1) (by rw [World.size_alloc, World.size_alloc, HZ.out]) hW0)
  have HX := Lib.hid (((pass_start w (.slice rg rs.length rc) fr HZ.out).on HW.out.2.1))
  have HH : Kp (Left w Z (fr, rs) W0) := ⟨_, HR.out, HX.out⟩
  have HSW : Kp (RS W0 (.slice (some ⟨b, o, none⟩) l.length c) l) := ⟨by rw [HM.out.1]; exact HS.out.below HX.out.below⟩
  have HBW : Kp (b < Z) := ⟨by have := HZ.out; have := HM.out.2; omega⟩
  have HS3 : Kp (∀ k, S3 (Z + 1 + 1) (Z + 1 + 1 + 1) b k → k < W0.heap.size ∧ k ≠ Z ∧ k ≠ Z + 1) := ⟨fun k hk => by have := HW.out.1; have := HBW.out; rcases hk with rfl | rfl | rfl <;> omega⟩
  clear hW0 HX
  gi_wp2
  simp only [HZ.out]
  refine wpIn_yieldsS (enc := encS) (xs := strs l e l.length) rfl (by omega) (gf := 72) (lb := #[.pointer (some ⟨Z + 1 + 1, 0, none⟩), .pointer (some ⟨Z + 1 + 1 + 1, 0, none⟩)]) rfl trivial (enters_of Tryd.func72 (by kernel_rfl) rfl) (fun _ => rfl)
    (stretches_yields 5 (by omega) (Z + 1 + 1) (Z + 1 + 1 + 1) b o c l e W0 (by have := HM.out.1; omega) HSW.out (HS3.out b (.inr (.inr rfl))).1 (by rw [HM.out.1]; exact HW.out.2.2.1) HW.out.2.2.2) Keep3.trans (fun W lq ob ob' hl _ _ _ => Keep3.putObj (B := W0.heap.size) (fun k hk => (HS3.out k hk).1) W lq ob' hl)
    (fun pre W => Left w Z (runP fr rs pre) W) (LeftX w Z fr rs)
    (fun s => Left.abide (by have := HZ.out; have := HW.out.1; omega) (by have := HW.out.1; omega)) (fun _ _ => LeftX.abide (by have := HZ.out; have := HW.out.1; omega) (by have := HW.out.1; omega)) HH.out
    (fun pre x a' W => Left w Z (runP fr rs pre) W ∧ ∃ Nb, Z + 6 < Nb ∧ SgAt W Nb x ∧ a' = { tmps := #[.slice (some ⟨b, o, none⟩) (m + 1) c, .int .i64 e, .int .i64 fr, .slice rg rs.length rc, undef, undef, undef, .pointer (some ⟨Z, 0, none⟩), .int .i64 0, .int .i64 0, .pointer (some ⟨Z + 1, 0, none⟩), .pointer (some ⟨Nb, 0, none⟩), .int .i64 x.c, undef, .int .i64 fr, .slice (some ⟨b, o, none⟩) (m + 1) c, .int .i64 e, .func (.func 72) #[] #[.pointer (some ⟨Z + 1 + 1, 0, none⟩), .pointer (some ⟨Z + 1 + 1 + 1, 0, none⟩)], .agg #[.int .i64 x.f, .int .i64 x.t], .int .i64 x.c, undef, undef, undef, undef, undef, undef, undef, undef, undef, undef, undef, undef, undef, undef, undef, undef, undef, undef, undef, undef, undef, undef, undef, undef, undef, undef, undef, undef, undef, undef, undef, undef], defers := [] })
    ?ax ?assign ?body ?done ?stop
  case ax =>
    rintro pre x a' X V row ⟨hi, Nb, hNb, hx, ha⟩ g hr
    exact ⟨Left.abide (by have := HZ.out; have := HW.out.1; omega) (by have := HW.out.1; omega) X V row hi g hr, Nb, hNb, hx.abide g hr (by have := HW.out.1; omega), ha⟩
  case assign =>
    rintro lp pre ⟨f, t, cc⟩ W hi _ hsz
    have HI := Kp.mk hi
    have hsz' : Z + 6 < W.heap.size := by have := HW.out.1; omega
    clear hi
    have ez : ((#[18, 19] : Array Tmp).zip (encS ⟨f, t, cc⟩)).foldl (fun tmps (q : Tmp × Value) => tmps.setIfInBounds q.1 q.2) #[.slice (some ⟨b, o, none⟩) (m + 1) c, .int .i64 e, .int .i64 fr, .slice rg rs.length rc, undef, undef, undef, .pointer (some ⟨Z, 0, none⟩), .int .i64 0, .int .i64 0, .pointer (some ⟨Z + 1, 0, none⟩), undef, undef, undef, .int .i64 fr, .slice (some ⟨b, o, none⟩) (m + 1) c, .int .i64 e, .func (.func 72) #[] #[.pointer (some ⟨Z + 1 + 1, 0, none⟩), .pointer (some ⟨Z + 1 + 1 + 1, 0, none⟩)], undef, undef, undef, undef, undef, undef, undef, undef, undef, undef, undef, undef, undef, undef, undef, undef, undef, undef, undef, undef, undef, undef, undef, undef, undef, undef, undef, undef, undef, undef, undef, undef, undef, undef] = #[.slice (some ⟨b, o, none⟩) (m + 1) c, .int .i64 e, .int .i64 fr, .slice rg rs.length rc, undef, undef, undef, .pointer (some ⟨Z, 0, none⟩), .int .i64 0, .int .i64 0, .pointer (some ⟨Z + 1, 0, none⟩), undef, undef, undef, .int .i64 fr, .slice (some ⟨b, o, none⟩) (m + 1) c, .int .i64 e, .func (.func 72) #[] #[.pointer (some ⟨Z + 1 + 1, 0, none⟩), .pointer (some ⟨Z + 1 + 1 + 1, 0, none⟩)], .agg #[.int .i64 f, .int .i64 t], .int .i64 cc, undef, undef, undef, undef, undef, undef, undef, undef, undef, undef, undef, undef, undef, undef, undef, undef, undef, undef, undef, undef, undef, undef, undef, undef, undef, undef, undef, undef, undef, undef, undef, undef] := by simp [encS]
    rw [ez]
    clear ez
    gi_wp2
    refine ⟨alloc_keeps _ _ _, alloc_keep3 _ _ (fun k hk => by have := (HS3.out k hk).1; have := HW.out.1; omega), ?_, W.heap.size, hsz', ?_, rfl⟩
    · obtain ⟨rv, h1, h2⟩ := HI.out
      exact ⟨rv, h1, h2.on ((Below.refl _ _).alloc (Nat.le_refl _) _)⟩
    · constructor <;> go_simp
  case body =>
    rintro lp pre x a' W ⟨hi, Nb, hNb, hx, rfl⟩ hpre hsz
    obtain ⟨hp1, hp2, hp3⟩ := strs_pre hpre
    have hbd := HG.out.sg (e := e) hp1
    rw [← hp3] at hbd
    have hrun := run_bd HG.out HRH.out HFR.out (Nat.le_of_lt hp1)
    rw [← hp2] at hrun
    have hsn := runP_snoc fr rs pre x
    obtain ⟨q0, hq0⟩ : ∃ q0, runP fr rs pre = q0 := ⟨_, rfl⟩
    rw [hq0] at hsn hrun hi
    have HSN := Lib.hid hsn
    have HRUN := Lib.hid hrun
    have HBD := Lib.hid hbd
    have HI0 : Kp (∃ q, In w W0 W Z Nb (S3 (Z + 1 + 1) (Z + 1 + 1 + 1) b) x q0 q W) := ⟨q0, hi, rfl, KeepsFrom.refl _ _, Keep3.refl _ _ _, hx, hrun.1, fun r h => h⟩
    have HNB : Kp (Z + 6 < Nb) := ⟨hNb⟩
    clear hsn hrun hbd hq0 hi hpre hp1 hp2 hp3 hx hNb
    gi_wp2
    gi_loopw [] (fun wr => ∃ q, In w W0 W Z Nb (S3 (Z + 1 + 1) (Z + 1 + 1 + 1) b) x q0 q wr) (fun wr => rowsN Z wr)
    case atStart => exact HI0.out
    case round =>
      clear HI0
      obtain ⟨⟨b0, rs0⟩, HI⟩ := hrel
      have HIN := Lib.hid HI
      obtain ⟨⟨rv0, hra, hh⟩, -, -, -, hsg, hbd, -⟩ := HI
      have HRA := Lib.hid hra
      have HH0 := Lib.hid hh
      obtain ⟨c7, z7⟩ := hh.cells (Z, 0, rv0) (by simp)
      obtain ⟨c8, z8⟩ := hh.cells (Z + 1, 0, .int .i64 b0) (by simp)
      obtain ⟨s0, s1⟩ := hsg
      simp only at c7 z7 c8 z8 hbd hra
      have l7 := World.block_lt_of_cell? _ _ c7
      have l8 := World.block_lt_of_cell? _ _ c8
      have ls := World.block_lt_of_cell? _ _ s0
      obtain ⟨f, t, cc⟩ := x
      simp only at s0 s1
      cases rs0 with
      | nil =>
        obtain ⟨g, cp, rfl, -⟩ := hra
        simp only [List.length_nil] at c7 hh
        clear hh
        gi_wp2
        refine ⟨HIN.out.keeps, rfl, b0, ?_, HIN.out.left⟩
        rw [HSN.out]
        exact HIN.out.same
      | cons r rs1 =>
        obtain ⟨rb, ro, rcp, rfl, hcp, hrb, hc0, hc1, hne, heq⟩ := hra.head
        clear hh hra
        have HBEL := Lib.hid HH0.out.below
        have k0 := (HBEL.out.cell (p := ⟨rb, _, none⟩) hrb).trans hc0
        have k1 := (HBEL.out.cell (p := ⟨rb, _, none⟩) hrb).trans hc1
        have lrb : rb < wr.heap.size := Nat.lt_of_lt_of_le hrb HBEL.out.size
        have HNE := Lib.hid hne
        have HEQ := Lib.hid heq
        have HCP := Lib.hid hcp
        clear hne heq hcp hc0 hc1 hrb
        have h1 : (0 : Int) < (rs1.length : Int) + 1 := by omega
        have hmem : r ∈ rs := HRUN.out.2 r (HIN.out.rows r (by simp))
        have hro := HOK.out r hmem
        have hfe := hro.enters
        have hrh := hro.hours
        obtain ⟨pv, hpv⟩ : ∃ pv, r.p cc = pv := ⟨_, rfl⟩
        have HS4 : Kp (∀ k, S3 (Z + 1 + 1) (Z + 1 + 1 + 1) b k → k < wr.heap.size ∧ k ≠ Z ∧ k ≠ Z + 1) := ⟨fun k hk => ⟨by
          have := (HS3.out k hk).1
          have := HIN.out.keep3.size
          omega, (HS3.out k hk).2⟩⟩
        have HQ : Kp (Calls Tryd.prog r.f #[.int .i64 cc, .pointer (some ⟨r.B, 0, none⟩)] (wr.alloc (.cells #[.int .i64 r.hours, .func (.func r.f) #[] #[.pointer (some ⟨r.B, 0, none⟩)]] 89)) fun en w' => en = .returned (.bool pv) ∧ (wr.alloc (.cells #[.int .i64 r.hours, .func (.func r.f) #[] #[.pointer (some ⟨r.B, 0, none⟩)]] 89)) = w') := ⟨hpv ▸ hro.asks cc _ (HBEL.out.alloc HBEL.out.size _)⟩
        have HX := Lib.hid (HIN.out.alloc (fun k hk => (HS4.out k hk).1) (.cells #[.int .i64 r.hours, .func (.func r.f) #[] #[.pointer (some ⟨r.B, 0, none⟩)]] 89))
        have HPV := Lib.hid hpv
        have HZW : Kp (Z + 1 < W0.heap.size) := ⟨by have := HW.out.1; omega⟩
        have HTB : Kp (0 ≤ t ∧ t ≤ 1000000) := ⟨by have := HBD.out; simp only at this; omega⟩
        have HS5 : Kp (∀ (o : Obj) k, S3 (Z + 1 + 1) (Z + 1 + 1 + 1) b k → k < (wr.alloc o).heap.size ∧ k ≠ Z ∧ k ≠ Z + 1) := ⟨fun o k hk => ⟨by have := (HS4.out k hk).1; simp; omega, (HS4.out k hk).2⟩⟩
        obtain ⟨hb0, hb1⟩ := hbd
        have i1 : IntKind.i64.wrap (t - b0) = t - b0 := IntWalk.i64_in _ (by have := HTB.out; omega)
        have i2 : IntKind.i64.wrap (b0 + r.hours) = b0 + r.hours := IntWalk.i64_in _ (by omega)
        clear hro hpv hmem
        gi_wp2_with fail
        refine ⟨trivial, (callsIn_wide.2 HQ.out).mono ?_⟩
        clear HQ
        cases pv with
        | false =>
          have HE : Kp (runP fr rs (pre ++ [⟨f, t, cc⟩]) = (max b0 t, r :: rs1)) := ⟨by rw [HSN.out, HIN.out.same]; exact eat_no HPV.out⟩
          rintro en w1 ⟨rfl, rfl⟩
          gi_wp2
          · obtain ⟨g1, g2, g3⟩ := HIN.out.ends HZ.out HZW.out HS4.out t (.cells #[.int .i64 r.hours, .func (.func r.f) #[] #[.pointer (some ⟨r.B, 0, none⟩)]] 89)
            refine ⟨g1, g2, ?_⟩
            show Left w Z (runP fr rs (pre ++ [⟨f, t, cc⟩])) _
            rw [HE.out, show max b0 t = t by omega]
            exact g3
          · obtain ⟨g1, g2, g3⟩ := HIN.out.ends HZ.out HZW.out HS4.out b0 (.cells #[.int .i64 r.hours, .func (.func r.f) #[] #[.pointer (some ⟨r.B, 0, none⟩)]] 89)
            refine ⟨g1, g2, ?_⟩
            show Left w Z (runP fr rs (pre ++ [⟨f, t, cc⟩])) _
            rw [HE.out, show max b0 t = b0 by omega]
            exact g3
        | true =>
          rintro en w1 ⟨rfl, rfl⟩
          by_cases hg : t - b0 < r.hours
          · have HE : Kp (runP fr rs (pre ++ [⟨f, t, cc⟩]) = (b0, r :: rs1)) := ⟨by rw [HSN.out, HIN.out.same]; exact eat_short HPV.out hg⟩
            gi_wp2
            refine ⟨HX.out.keeps, HX.out.keep3, ?_⟩
            show Left w Z (runP fr rs (pre ++ [⟨f, t, cc⟩])) _
            rw [HE.out]
            exact HX.out.left
          · have HG2 := Lib.hid hg
            by_cases hcap : rcp = 1
            · obtain ⟨hnil, hra⟩ := HEQ.out hcap
              subst hnil
              have HM2 := Lib.hid (HIN.out.moved HZ.out HZW.out (by have := HNB.out; omega) HS4.out (b0 + r.hours) _ _ hra (eat_on HPV.out HG2.out) (by have := HTB.out; omega) (fun q hq => by cases hq))
              gi_wp2
              refine ⟨⟨_, HM2.out.alloc (fun k hk => by have := (HS4.out k hk).1; simp; omega) _⟩, ?_⟩
              rw [rowsN_of c7, rowsN_moved c7]
              simp
            · have hra := HNE.out hcap
              have HM2 := Lib.hid (HIN.out.moved HZ.out HZW.out (by have := HNB.out; omega) HS4.out (b0 + r.hours) _ _ hra (eat_on HPV.out HG2.out) (by have := HTB.out; omega) (fun q hq => by simp [hq]))
              clear hra
              gi_wp2
              refine ⟨⟨_, HM2.out.alloc (fun k hk => by have := (HS4.out k hk).1; simp; omega) _⟩, ?_⟩
              rw [rowsN_of c7, rowsN_moved c7]
              simp
  case done =>
    rintro D W hD hi hd
    have hi2 := Left.abide (B := W0.heap.size) (by have := HZ.out; have := HW.out.1; omega) (by have := HW.out.1; omega) _ _ (some D) hi (grownBy_putObj' _ D (.deferred none)) (fun r e => by cases e; exact .inr ⟨hD, _, hd, rfl⟩)
    have HD2 := Kp.mk hd
    obtain ⟨⟨n, qs⟩, hq⟩ : ∃ q, runP fr rs (strs l e l.length) = q := ⟨_, rfl⟩
    rw [hq] at hi hi2
    obtain ⟨rv2, h1, h2⟩ := hi
    have HI := Lib.hid hi2
    obtain ⟨h7, z7⟩ := h2.cells (Z, 0, rv2) (by simp)
    obtain ⟨h8, z8⟩ := h2.cells (Z + 1, 0, .int .i64 n) (by simp)
    simp only at h7 z7 h8 z8 h1
    cases qs with
    | nil =>
      have HE := Lib.hid (end_done (strs_asc HG.out) (a := fr) (fun r hr => (HRH.out r hr).1) (by rw [hq]))
      rw [hq] at HE
      obtain ⟨g2, c2, rfl, -⟩ := h1
      simp only [List.length_nil] at h7
      clear hi2 hd hq h2
      gi_wp2
      refine ⟨by simp, .inl ⟨_, _, rfl, run_takeDeferred HD2.out, ?_⟩⟩
      refine ⟨.tuple #[.int .i64 n, .int .i64 0], by simp [results, Tryd.results38, go_sem], by rw [HE.out.1, HE.out.2], ?_⟩
      obtain ⟨_, -, h3⟩ := HI.out
      exact h3.below
    | cons r qs =>
      have HE := Lib.hid (end_open (strs_asc HG.out) (a := fr) (fun r hr => (HRH.out r hr).1) (by rw [hq]; simp))
      obtain ⟨g2, c2, rfl, -⟩ := h1
      simp only [List.length_cons] at h7
      have h0 : (0 : Int) < (qs.length : Int) + 1 := by omega
      clear hi2 hd hq h2
      gi_wp2
      refine ⟨by simp, .inl ⟨_, _, rfl, run_takeDeferred HD2.out, ?_⟩⟩
      refine ⟨.tuple #[.int .i64 0, .int .i64 8], by simp [results, Tryd.results38, go_sem], by rw [HE.out.1, HE.out.2], ?_⟩
      obtain ⟨_, -, h3⟩ := HI.out
      exact h3.below
  case stop =>
    rintro D cd ys W hD hys ⟨rfl, n, hn, hi⟩ hd
    have hi2 := Left.abide (B := W0.heap.size) (by have := HZ.out; have := HW.out.1; omega) (by have := HW.out.1; omega) _ _ (some D) hi (grownBy_putObj' _ D (.deferred none)) (fun r e => by cases e; exact .inr ⟨hD, _, hd, rfl⟩)
    have HD2 := Kp.mk hd
    have hq : runP fr rs (strs l e l.length) = (n, []) := by
      obtain ⟨zs, hz⟩ := hys
      rw [← hz, runP_append, hn]
      exact runP_nil n zs
    have HE := Lib.hid (end_done (strs_asc HG.out) (a := fr) (fun r hr => (HRH.out r hr).1) (by rw [hq]))
    rw [hq] at HE
    obtain ⟨rv2, h1, h2⟩ := hi
    have HI := Lib.hid hi2
    obtain ⟨h7, z7⟩ := h2.cells (Z, 0, rv2) (by simp)
    obtain ⟨h8, z8⟩ := h2.cells (Z + 1, 0, .int .i64 n) (by simp)
    simp only at h7 z7 h8 z8 h1
    obtain ⟨g2, c2, rfl, -⟩ := h1
    simp only [List.length_nil] at h7
    clear hi2 hd hq h2 hn hys
    gi_wp2
    refine ⟨by simp, .inl ⟨_, _, rfl, run_takeDeferred HD2.out, ?_⟩⟩
    refine ⟨.tuple #[.int .i64 n, .int .i64 0], by simp [results, Tryd.results38, go_sem], by rw [HE.out.1, HE.out.2], ?_⟩
    obtain ⟨_, -, h3⟩ := HI.out
    exact h3.below
end Go.Proofs.YteidabpflfkdcaaDoor.Cd
