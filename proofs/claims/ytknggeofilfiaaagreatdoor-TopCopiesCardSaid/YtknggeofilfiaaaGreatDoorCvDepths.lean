/-
  WALKS (layer 5, carve): how many grains are there behind each square of a view.
-/
import Derived.Test.YtknggeofilfiaaaGreatDoorCvMade
import Derived.Laws.EntriesVeiled
import Derived.Deep.OwnRows
namespace Go.Proofs.YtknggeofilfiaaaGreatDoor.Cv
open Go Go.RowKit Go.Sort
attribute [local go_sem] Oper.semAt_some

/-- A row of numbers of the call's own. -/
structure IR (U : Nat) (W : World) (xs : List Int) : Prop where
  heap : W.heap[U]? = some (.cells (xs.map (Value.int .i64)).toArray 3 (0, 0))
theorem IR.cell {U : Nat} {W : World} {xs : List Int} (h : IR U W xs) {k : Nat} {x : Int} (hk : xs[k]? = some x) : W.cell? ⟨U, k, none⟩ = some (.int .i64 x) := by
  rw [cell_of_row W U k _ _ (0, 0) h.heap]
  simp [hk]
theorem IR.froz {U : Nat} {W : World} {xs : List Int} (h : IR U W xs) (k : Nat) : W.frozen? ⟨U, k, none⟩ = false := frozen_of_row W U k _ _ h.heap
theorem IR.set_ {U : Nat} {W : World} {xs : List Int} (h : IR U W xs) (k : Nat) (x : Int) : IR U (W.setCell ⟨U, k, none⟩ (.int .i64 x)) (xs.set k x) := by
  refine ⟨(heap_setCell_same W U k _ _ (.int .i64 x) h.heap).trans ?_⟩
  simp
theorem IR.same {U : Nat} {W W' : World} {xs : List Int} (h : IR U W xs) (hb : W'.heap[U]? = W.heap[U]?) : IR U W' xs := ⟨hb.trans h.heap⟩
theorem IR.lt {U : Nat} {W : World} {xs : List Int} (h : IR U W xs) : U < W.heap.size := (Array.getElem?_eq_some_iff.1 h.heap).1
theorem IR.on {U : Nat} {W W' : World} {xs : List Int} (h : IR U W xs) (hb : Below W.heap.size W W') : IR U W' xs := h.same (hb.block _ h.lt)
theorem info_int : (Tryz.prog.info? 3).map (fun i => (i.zero, i.size, i.bytes)) = some (some (.int .i64 0), 1, 8) := by kernel_rfl
/-- A row of noughts is made. -/
theorem run_zeros (W : World) (n : Nat) (hn : n ≤ 100000) : ∃ W', (Instr.makeSlice 82 (.int .i64 (n : Int)) (.int .i64 (n : Int))).run Tryz.prog W = .ok (.slice (some ⟨W.heap.size, 0, none⟩) n n) W' ∧ IR W.heap.size W' (List.replicate n 0) ∧ Below W.heap.size W W' ∧ W'.heap.size = W.heap.size + 1 := by
  obtain ⟨i0, hi0, hz0, hz1, hz2⟩ := info_parts info_int
  have hr := run_make (P := Tryz.prog) W 82 3 i0 (.int .i64 0) Tryz.underlying82 hi0 hz0 .i64 .i64 n n (by omega) (Int.le_refl _) (by rw [hz2]; omega) (by omega)
  simp only [Int.toNat_natCast] at hr
  refine ⟨_, hr, ⟨?_⟩, (Below.refl _ _).alloc (Nat.le_refl _) _, by simp⟩
  have e : madeCells (Value.int .i64 0).cells (n * i0.size) = ((List.replicate n (0 : Int)).map (Value.int .i64)).toArray := by
    rw [hz1, Nat.mul_one]
    apply Array.ext'
    rw [List.map_replicate]
    exact toList_madeCells_one (.int .i64 0) n
  rw [e]
  exact World.alloc_heap_new W _
def sqs : Value := .agg #[.func (.func 61) #[] #[], .func (.func 62) #[] #[], .func (.func 63) #[] #[]]
theorem squares_any (w : World) : Calls Tryz.prog 47 #[] w fun e w' => e = .returned (.agg #[.func (.func 61) #[] #[], .func (.func 62) #[] #[], .func (.func 63) #[] #[]]) ∧ Below w.heap.size w w' := by
  go_enter Tryz.func47, Tryz.ntmps47
  go_wp2
  exact bodyPost_ret (v := .agg #[.func (.func 61) #[] #[], .func (.func 62) #[] #[], .func (.func 63) #[] #[]]) (by simp [results, Tryz.results47, go_sem]) rfl ⟨rfl, by repeat (first | exact Below.refl _ _ | refine Below.alloc ?_ (by simp <;> omega) _ | refine bDrewN ?_ _ | refine Below.drew ?_)⟩
theorem sq1_any (x y z : Int) (w : World) : Calls Tryz.prog 61 #[.agg #[.int .i64 x, .int .i64 y, .int .i64 z]] w fun e w' => e = .returned (.tuple #[.int .i64 y, .int .i64 z]) ∧ Below w.heap.size w w' := by
  go_enter Tryz.func61, Tryz.ntmps61
  go_wp2
  go_region
  all_goals go_wp2
  all_goals (go_ret2; exact ⟨rfl, by repeat (first | exact Below.refl _ _ | refine Below.alloc ?_ (by simp <;> omega) _ | refine bDrewN ?_ _ | refine Below.drew ?_)⟩)
theorem sq2_any (x y z : Int) (w : World) : Calls Tryz.prog 62 #[.agg #[.int .i64 x, .int .i64 y, .int .i64 z]] w fun e w' => e = .returned (.tuple #[.int .i64 x, .int .i64 z]) ∧ Below w.heap.size w w' := by
  go_enter Tryz.func62, Tryz.ntmps62
  go_wp2
  go_region
  all_goals go_wp2
  all_goals (go_ret2; exact ⟨rfl, by repeat (first | exact Below.refl _ _ | refine Below.alloc ?_ (by simp <;> omega) _ | refine bDrewN ?_ _ | refine Below.drew ?_)⟩)
theorem sq3_any (x y z : Int) (w : World) : Calls Tryz.prog 63 #[.agg #[.int .i64 x, .int .i64 y, .int .i64 z]] w fun e w' => e = .returned (.tuple #[.int .i64 x, .int .i64 y]) ∧ Below w.heap.size w w' := by
  go_enter Tryz.func63, Tryz.ntmps63
  go_wp2
  go_region
  all_goals go_wp2
  all_goals (go_ret2; exact ⟨rfl, by repeat (first | exact Below.refl _ _ | refine Below.alloc ?_ (by simp <;> omega) _ | refine bDrewN ?_ _ | refine Below.drew ?_)⟩)
/-- A function that tells a grain's square. -/
structure SqF (f : Nat) (sq : Gr → Int × Int) : Prop where
  enter : ∀ args W, (callFunc f args).run Tryz.prog W = .ok (.enter f args) W
  calls : ∀ g W, Calls Tryz.prog f #[.agg #[.int .i64 g.x, .int .i64 g.y, .int .i64 g.z]] W fun e w' => e = .returned (.tuple #[.int .i64 (sq g).1, .int .i64 (sq g).2]) ∧ Below W.heap.size W w'
  ins : ∀ s g, insB s g = true → (0 ≤ (sq g).1 ∧ (sq g).1 < s) ∧ 0 ≤ (sq g).2 ∧ (sq g).2 < s
theorem sqF1 : SqF 61 (fun g => (g.y, g.z)) := ⟨enters_of Tryz.func61 (by kernel_rfl) rfl, fun g W => sq1_any g.x g.y g.z W, fun s g h => by have := ins_iff.1 h; exact ⟨this.2.1, this.2.2⟩⟩
theorem sqF2 : SqF 62 (fun g => (g.x, g.z)) := ⟨enters_of Tryz.func62 (by kernel_rfl) rfl, fun g W => sq2_any g.x g.y g.z W, fun s g h => by have := ins_iff.1 h; exact ⟨this.1, this.2.2⟩⟩
theorem sqF3 : SqF 63 (fun g => (g.x, g.y)) := ⟨enters_of Tryz.func63 (by kernel_rfl) rfl, fun g W => sq3_any g.x g.y g.z W, fun s g h => by have := ins_iff.1 h; exact ⟨this.1, this.2.1⟩⟩
/-- What the walk keeps: the block, the function that tells squares, the counts so far. -/
structure DI (w : World) (Z Q s : Nat) (g : Option Addr) (n c M f : Nat) (xs : List Int) (V : World) : Prop where
  below : Below w.heap.size w V
  side : V.cell? ⟨Z, 0, none⟩ = some (.int .i64 s)
  has : V.cell? ⟨Z, 1, none⟩ = some (.slice g n c)
  cnt : V.cell? ⟨Z + 2, 0, none⟩ = some (.slice (some ⟨Z + 1, 0, none⟩) M M)
  sq : V.cell? ⟨Q, 0, none⟩ = some (.func (.func f) #[] #[])
  row : IR (Z + 1) V xs
theorem DI.same {w V X : World} {Z Q s n c M f : Nat} {g : Option Addr} {xs : List Int} (h : DI w Z Q s g n c M f xs V) (hb : Below w.heap.size w X) (h0 : X.heap[Z]? = V.heap[Z]?) (h1 : X.heap[Z + 1]? = V.heap[Z + 1]?) (h2 : X.heap[Z + 2]? = V.heap[Z + 2]?) (h3 : X.heap[Q]? = V.heap[Q]?) : DI w Z Q s g n c M f xs X :=
  ⟨hb, (World.cell?_of_block (a := ⟨Z, 0, none⟩) h0).trans h.side, (World.cell?_of_block (a := ⟨Z, 1, none⟩) h0).trans h.has, (World.cell?_of_block (a := ⟨Z + 2, 0, none⟩) h2).trans h.cnt, (World.cell?_of_block (a := ⟨Q, 0, none⟩) h3).trans h.sq, h.row.same h1⟩
theorem DI.on {w V X : World} {Z Q s n c M f : Nat} {g : Option Addr} {xs : List Int} (h : DI w Z Q s g n c M f xs V) (hb : Below V.heap.size V X) : DI w Z Q s g n c M f xs X :=
  h.same (h.below.trans (hb.mono h.below.size)) (hb.block _ (World.block_lt_of_cell? _ _ h.side)) (hb.block _ h.row.lt) (hb.block _ (World.block_lt_of_cell? _ _ h.cnt)) (hb.block _ (World.block_lt_of_cell? _ _ h.sq))
theorem DI.turns {w : World} {Z Q s n c M f C : Nat} {g : Option Addr} {xs : List Int} (hC : w.heap.size ≤ C) : Turns 0 C (DI w Z Q s g n c M f xs) := by
  intro X Y row h g hr
  have key : ∀ b j v, X.cell? ⟨b, j, none⟩ = some v → Y.heap[b]? = X.heap[b]? := fun b j v hv => g.block b (World.block_lt_of_cell? _ _ hv) (fun e => by
    obtain ⟨h1, h2 | ⟨p, hp, hc⟩⟩ := hr b e.symm
    · omega
    · rw [cells_of hv p hp] at hc; cases hc)
  refine h.same ⟨g.os.trans h.below.os, g.tape.trans h.below.tape, g.output.trans h.below.output, Nat.le_trans h.below.size g.size, fun j hj => ?_⟩ (key _ _ _ h.side) (g.block _ h.row.lt (fun e => ?_)) (key _ _ _ h.cnt) (key _ _ _ h.sq)
  · exact (g.block j (Nat.lt_of_lt_of_le hj h.below.size) (fun e => by have := (hr j e.symm).1; omega)).trans (h.below.block j hj)
  · obtain ⟨h1, h2 | ⟨p, hp, hc⟩⟩ := hr _ e.symm
    · omega
    · rw [h.row.heap] at hp; cases hp; cases hc
theorem di_start {w Wm W1 : World} {Z s n c M f : Nat} {g : Option Addr} (hZ : w.heap.size = Z) (hb : Below (w.alloc (.cells #[.int .i64 s, .slice g n c] 40)).heap.size (w.alloc (.cells #[.int .i64 s, .slice g n c] 40)) Wm) (hz : Wm.heap.size = Z + 1 + 1) (ho : IR (Z + 1) Wm (List.replicate M 0))
    (hb1 : Below (Wm.alloc (.cells #[.slice (some ⟨Z + 1, 0, none⟩) M M] 82)).heap.size (Wm.alloc (.cells #[.slice (some ⟨Z + 1, 0, none⟩) M M] 82)) W1) :
    DI w Z W1.heap.size s g n c M f (List.replicate M 0) (W1.alloc (.cells #[.func (.func f) #[] #[]] 84)) := by
  have b0 : Below w.heap.size w (w.alloc (.cells #[.int .i64 s, .slice g n c] 40)) := (Below.refl _ _).alloc (Nat.le_refl _) _
  have b2 : Below Wm.heap.size Wm (Wm.alloc (.cells #[.slice (some ⟨Z + 1, 0, none⟩) M M] 82)) := (Below.refl _ _).alloc (Nat.le_refl _) _
  have b3 : Below W1.heap.size W1 (W1.alloc (.cells #[.func (.func f) #[] #[]] 84)) := (Below.refl _ _).alloc (Nat.le_refl _) _
  have z1 := hb1.size
  rw [World.size_alloc] at z1
  subst hZ
  have c0 : (w.alloc (.cells #[.int .i64 s, .slice g n c] 40)).cell? ⟨w.heap.size, 0, none⟩ = some (.int .i64 s) := by go_simp
  have c1 : (w.alloc (.cells #[.int .i64 s, .slice g n c] 40)).cell? ⟨w.heap.size, 1, none⟩ = some (.slice g n c) := by go_simp
  have c2 : (Wm.alloc (.cells #[.slice (some ⟨w.heap.size + 1, 0, none⟩) M M] 82)).cell? ⟨w.heap.size + 2, 0, none⟩ = some (.slice (some ⟨w.heap.size + 1, 0, none⟩) M M) := by rw [show w.heap.size + 2 = Wm.heap.size by omega]; go_simp
  have c3 : (W1.alloc (.cells #[.func (.func f) #[] #[]] 84)).cell? ⟨W1.heap.size, 0, none⟩ = some (.func (.func f) #[] #[]) := by go_simp
  have k : ∀ j v, (w.alloc (.cells #[.int .i64 s, .slice g n c] 40)).cell? ⟨w.heap.size, j, none⟩ = some v → (W1.alloc (.cells #[.func (.func f) #[] #[]] 84)).cell? ⟨w.heap.size, j, none⟩ = some v := fun j v hv =>
    (b3.cell (p := ⟨w.heap.size, j, none⟩) (by simp only; omega)).trans ((hb1.cell (p := ⟨w.heap.size, j, none⟩) (by simp; omega)).trans ((b2.cell (p := ⟨w.heap.size, j, none⟩) (by simp; omega)).trans ((hb.cell (p := ⟨w.heap.size, j, none⟩) (by simp)).trans hv)))
  refine ⟨?_, k _ _ c0, k _ _ c1, ?_, c3, ?_⟩
  · exact (((b0.trans (hb.mono (by simp))).trans (b2.mono (by omega))).trans (hb1.mono (by simp; omega))).trans (b3.mono (by omega))
  · exact (b3.cell (p := ⟨w.heap.size + 2, 0, none⟩) (by simp only; omega)).trans ((hb1.cell (p := ⟨w.heap.size + 2, 0, none⟩) (by simp; omega)).trans c2)
  · exact ((ho.on b2).on hb1).on b3
/-- The place of a grain's square in a view. -/
def sqIx (s : Nat) (sq : Gr → Int × Int) (x : Gr) : Nat := ((sq x).1 + s * (sq x).2).toNat
theorem sqIx_int {s : Nat} {sq : Gr → Int × Int} {x : Gr} (h : (0 ≤ (sq x).1 ∧ (sq x).1 < s) ∧ 0 ≤ (sq x).2 ∧ (sq x).2 < s) : (sq x).1 + (s : Int) * (sq x).2 = ((sqIx s sq x : Nat) : Int) := by
  unfold sqIx
  have : 0 ≤ (s : Int) * (sq x).2 := Int.mul_nonneg (by omega) h.2.1
  omega
theorem sqIx_lt {s : Nat} {sq : Gr → Int × Int} {x : Gr} (h : (0 ≤ (sq x).1 ∧ (sq x).1 < s) ∧ 0 ≤ (sq x).2 ∧ (sq x).2 < s) : sqIx s sq x < s * s := by
  have h1 := sqIx_int h
  have h2 : (s : Int) * ((sq x).2 + 1) ≤ s * s := Int.mul_le_mul_of_nonneg_left (by omega) (by omega)
  rw [Int.mul_add, Int.mul_one] at h2
  have h3 : ((sqIx s sq x : Nat) : Int) < ((s * s : Nat) : Int) := by rw [← h1, Int.natCast_mul]; omega
  omega
/-- How many of some grains are behind each square. -/
def cnts (s M : Nat) (sq : Gr → Int × Int) (l : List Gr) : List Int := l.foldl (fun xs x => xs.set (sqIx s sq x) (xs.getD (sqIx s sq x) 0 + 1)) (List.replicate M 0)
theorem cnts_snoc (s M : Nat) (sq : Gr → Int × Int) (l : List Gr) (x : Gr) : cnts s M sq (l ++ [x]) = (cnts s M sq l).set (sqIx s sq x) ((cnts s M sq l).getD (sqIx s sq x) 0 + 1) := by
  unfold cnts; rw [List.foldl_append]; rfl
theorem cnts_len (s M : Nat) (sq : Gr → Int × Int) (l : List Gr) : (cnts s M sq l).length = M := by
  have : ∀ (l : List Gr) (xs : List Int), (l.foldl (fun xs x => xs.set (sqIx s sq x) (xs.getD (sqIx s sq x) 0 + 1)) xs).length = xs.length := by
    intro l
    induction l with
    | nil => intro xs; rfl
    | cons x l ih => intro xs; rw [List.foldl_cons, ih, List.length_set]
  unfold cnts
  rw [this, List.length_replicate]
theorem cnts_bd (s M : Nat) (sq : Gr → Int × Int) (l : List Gr) : ∀ (j : Nat) (y : Int), (cnts s M sq l)[j]? = some y → 0 ≤ y ∧ y ≤ l.length := by
  have : ∀ (l : List Gr) (xs : List Int) (n : Nat), (∀ (j : Nat) (y : Int), xs[j]? = some y → 0 ≤ y ∧ y ≤ n) → ∀ (j : Nat) (y : Int), (l.foldl (fun xs x => xs.set (sqIx s sq x) (xs.getD (sqIx s sq x) 0 + 1)) xs)[j]? = some y → 0 ≤ y ∧ y ≤ (n + l.length : Nat) := by
    intro l
    induction l with
    | nil => intro xs n h j y hy; have := h j y hy; simp; omega
    | cons x l ih =>
      intro xs n h j y hy
      rw [List.foldl_cons] at hy
      have := ih _ (n + 1) (fun j y hy => ?_) j y hy
      · rw [List.length_cons]; omega
      · rw [List.getElem?_set] at hy
        split at hy
        · split at hy
          · simp only [Option.some.injEq] at hy
            rename_i hlt
            rw [List.getD_eq_getElem?_getD, List.getElem?_eq_getElem hlt] at hy
            have := h _ _ (List.getElem?_eq_getElem hlt)
            simp only [Option.getD_some] at hy
            omega
          · cases hy
        · have := h j y hy; omega
  intro j y hy
  have h := this l (List.replicate M 0) 0 (fun j y hy => by
    rw [List.getElem?_replicate] at hy
    split at hy
    · cases hy; omega
    · cases hy) j y hy
  omega
theorem cnts_next {s M : Nat} {sq : Gr → Int × Int} {h : List Bool} {pre : List Gr} {x : Gr} (hs2 : s ≤ 10) (hM : s * s = M) (hp : pre ++ [x] <+: grainsL s h) (hI : ∀ s g, insB s g = true → (0 ≤ (sq g).1 ∧ (sq g).1 < s) ∧ 0 ≤ (sq g).2 ∧ (sq g).2 < s) :
    insB s x = true ∧ sqIx s sq x < M ∧ (cnts s M sq pre).length = M ∧ (∀ y, (cnts s M sq pre)[sqIx s sq x]? = some y → 0 ≤ y ∧ y ≤ 1000) ∧ cnts s M sq (pre ++ [x]) = (cnts s M sq pre).set (sqIx s sq x) (((cnts s M sq pre)[sqIx s sq x]?).getD 0 + 1) := by
  have hm : x ∈ grainsL s h := hp.subset (by simp)
  have hin : insB s x = true := by
    have := (List.mem_filter.1 hm).2
    unfold hasB at this
    rw [Bool.and_eq_true] at this
    exact this.1
  have hlen : pre.length ≤ 1000 := by
    have h1 := hp.length_le
    have h2 : (grainsL s h).length ≤ (placesL s).length := List.length_filter_le _ _
    rw [places_len] at h2
    have := (cube_bd hs2).2
    rw [List.length_append] at h1
    omega
  refine ⟨hin, hM ▸ sqIx_lt (hI s x hin), cnts_len .., fun y hy => ?_, ?_⟩
  · have := cnts_bd s M sq pre _ y hy; omega
  · rw [cnts_snoc, List.getD_eq_getElem?_getD]
theorem grains_start {w W : World} {s : Int} {v : Value} {Y : Nat} (hY : w.heap.size = Y) (h : w.alloc (.cells #[.int .i64 s, v] 40) = W) : W.heap.size = Y + 1 ∧ Below w.heap.size w W ∧ W.cell? ⟨Y, 0, none⟩ = some (.int .i64 s) ∧ W.cell? ⟨Y, 1, none⟩ = some v := by
  subst h
  subst hY
  exact ⟨by simp, (Below.refl _ _).alloc (Nat.le_refl _) _, by go_simp, by go_simp⟩
/-- An axis, with the function that tells its squares. -/
structure AxF (ax : Int) (f : Nat) (sq : Gr → Int × Int) : Prop extends SqF f sq where
  index : ∀ W, (Instr.index 85 (.agg #[.func (.func 61) #[] #[], .func (.func 62) #[] #[], .func (.func 63) #[] #[]]) (.int .i64 ax)).run Tryz.prog W = .ok (.func (.func f) #[] #[]) W
theorem axF0 : AxF 0 61 (fun g => (g.y, g.z)) := ⟨sqF1, fun _ => by kernel_rfl⟩
theorem axF1 : AxF 1 62 (fun g => (g.x, g.z)) := ⟨sqF2, fun _ => by kernel_rfl⟩
theorem axF2 : AxF 2 63 (fun g => (g.x, g.y)) := ⟨sqF3, fun _ => by kernel_rfl⟩
set_option maxRecDepth 100000 in
set_option maxHeartbeats 2000000 in
theorem depths_any (s : Nat) (v : Value) (h : List Bool) (ax : Int) (f : Nat) (sq : Gr → Int × Int) (hax : AxF ax f sq) (w : World) (hs : 1 ≤ s) (hs2 : s ≤ 10) (hl : h.length = s * s * s) (hv : LB w v h) :
    Calls Tryz.prog 46 #[.agg #[.int .i64 s, v], .int .i64 ax] w fun en w' => ∃ U, en = .returned (.slice (some ⟨U, 0, none⟩) (s * s) (s * s)) ∧ w.heap.size ≤ U ∧ IR U w' (cnts s (s * s) sq (grainsL s h)) ∧ Below w.heap.size w w' := by
  obtain ⟨g, c, rfl⟩ := hv.shape
  refine (callsIn_wide (n := 6)).1 ?_
  refine callsIn_of_wp_marks Tryz.func46 rfl trivial ?_ rfl
  simp only [Tryz.ntmps46, List.size_toArray, List.length_cons, List.length_nil, Nat.reduceAdd, Nat.reduceSub, Array.replicate_succ, Array.replicate_zero, List.push_toArray, List.append_toArray, List.nil_append, List.cons_append]
  have hcb := cube_bd hs2
  obtain ⟨M, hM⟩ : ∃ M, s * s = M := ⟨_, rfl⟩
  have e1 : IntKind.i64.wrap ((s : Int) * s) = (M : Int) := by rw [← Int.natCast_mul, hM]; exact wrap_nat (by omega)
  obtain ⟨Wm, hrun, hir, hbm, hzm⟩ := run_zeros (w.alloc (.cells #[.int .i64 s, .slice g h.length c] 40)) M (by omega)
  obtain ⟨Z, hZ⟩ : ∃ Z, w.heap.size = Z := ⟨_, rfl⟩
  have HZ := Kp.mk hZ
  have HB0 := Kp.mk hbm
  rw [World.size_alloc, hZ] at hrun hir hzm
  have HV := Kp.mk hv
  have HIR := Kp.mk hir
  have HZM := Kp.mk hzm
  have HL : Kp (h.length = s * s * s) := ⟨hl⟩
  have HMM : Kp (s * s = M) := ⟨hM⟩
  clear hl hM hcb hv hir
  gi_wp2
  refine ⟨trivial, (callsIn_wide.2 (squares_any _)).mono ?_⟩
  rintro en W1 ⟨rfl, hb1⟩
  have hix := hax.index W1
  have HD1 : Kp (DI w Z W1.heap.size s g h.length c M f (List.replicate M 0) (W1.alloc (.cells #[.func (.func f) #[] #[]] 84))) := ⟨di_start HZ.out HB0.out HZM.out HIR.out hb1⟩
  have d0 := HD1.out.side
  have d1 := HD1.out.has
  have HQ1 : Kp (Z + 3 ≤ W1.heap.size) := ⟨by have := hb1.size; rw [World.size_alloc, HZM.out] at this; omega⟩
  clear hrun hb1 hbm hzm
  gi_wp2
  refine ⟨trivial, (callsIn_wide.2 (grains_any _ _ _)).mono ?_⟩
  rintro en W2 ⟨rfl, hW2⟩
  obtain ⟨Q, hQ⟩ : ∃ Q, W1.heap.size = Q := ⟨_, rfl⟩
  have HQ := Kp.mk hQ
  have HW := Lib.hid (grains_start (Y := Q + 1) (by rw [World.size_alloc, hQ]) hW2)
  rw [hQ] at HD1 HQ1
  have HD2 : Kp (DI w Z Q s g h.length c M f (List.replicate M 0) W2) := ⟨HD1.out.on HW.out.2.1⟩
  obtain ⟨H, o, rfl, HHZ, HBK⟩ : ∃ H o, g = some ⟨H, o, none⟩ ∧ H < Z ∧ Kp (BK (Q + 1) H o c s h W2) := by
    have hl := HL.out
    have hpos : 0 < h.length := by rw [hl]; exact Nat.mul_pos (Nat.mul_pos hs hs) hs
    obtain ⟨x0, hx0⟩ : ∃ x, h[0]? = some x := ⟨_, List.getElem?_eq_getElem hpos⟩
    have hH0 : ∃ H o, g = some ⟨H, o, none⟩ ∧ H < Z := by
      obtain ⟨g', c', e', hc', hi'⟩ := HV.out
      cases e'
      obtain ⟨H, o, hg, hlt, -⟩ := hi' 0 x0 hx0
      exact ⟨H, o, hg, by have := HZ.out; omega⟩
    obtain ⟨H0, o0, rfl, hlt0⟩ := hH0
    have hrow := HV.out.below HD2.out.below
    have hrow' := hrow
    obtain ⟨g', c', e', hc', hi'⟩ := hrow
    cases e'
    obtain ⟨H, o, hg, hlt, hcell⟩ := hi' 0 x0 hx0
    simp only [Option.some.injEq, Addr.mk.injEq, and_true] at hg
    obtain ⟨rfl, rfl⟩ := hg
    exact ⟨H0, o0, rfl, hlt0, ⟨⟨HW.out.2.2.1, HW.out.2.2.2, hrow', x0, hcell⟩⟩⟩
  have HH0 : Kp (H < Z) := ⟨HHZ⟩
  clear hix d0 d1 hW2 hQ HHZ
  gi_wp2
  simp only [HQ.out]
  refine wpIn_yieldsS (k := 0) (enc := encG) (xs := grainsL s h) rfl (by omega) (gf := 75) (lb := #[.pointer (some ⟨Q + 1, 0, none⟩)]) rfl trivial (enters_of Tryz.func75 (by kernel_rfl) rfl) (fun _ => rfl)
    (grains_yields 5 (by omega) (Q + 1) H o c s h hs hs2 HL.out W2 HBK.out) Keep.trans (fun V o o' _ _ _ => Keep.putObj (by omega) (fun hk => by have := HBK.out.ltB; have := HBK.out.ltH; rcases hk with e | e <;> omega))
    (fun pre V => DI w Z Q s (some ⟨H, o, none⟩) h.length c M f (cnts s M sq pre) V)
    (fun _ _ _ => False)
    (fun p => Turns.abides (C := Z) (DI.turns (by have := HZ.out; omega)) (by have := HW.out.1; have := HQ1.out; omega)) (fun _ _ => Turns.abides (C := Z) turns_const (by have := HW.out.1; have := HQ1.out; omega))
    HD2.out
    (fun pre x a' V => DI w Z Q s (some ⟨H, o, none⟩) h.length c M f (cnts s M sq pre) V ∧ ∃ G, Q + 3 < G ∧ GrAt V G x ∧ a' = { tmps := #[ .agg #[.int .i64 s, .slice (some ⟨H, o, none⟩) h.length c], .int .i64 ax, .pointer (some ⟨Z, 0, none⟩), undef, .slice none 0 0, .pointer (some ⟨Z + 2, 0, none⟩), .pointer (some ⟨Q, 0, none⟩), .pointer (some ⟨G, 0, none⟩), undef, undef, .pointer (some ⟨Z, 0, none⟩), .int .i64 s, .pointer (some ⟨Z, 0, none⟩), .int .i64 s, .int .i64 M, .slice (some ⟨Z + 1, 0, none⟩) M M, .agg #[.func (.func 61) #[] #[], .func (.func 62) #[] #[], .func (.func 63) #[] #[]], .int .i64 ax, .func (.func f) #[] #[], .agg #[.int .i64 s, .slice (some ⟨H, o, none⟩) h.length c], .func (.func 75) #[] #[.pointer (some ⟨Q + 1, 0, none⟩)], .agg #[.int .i64 x.x, .int .i64 x.y, .int .i64 x.z], undef, undef, undef, undef, undef, undef, undef, undef, undef, undef, undef, undef, undef, undef, undef, undef, undef, undef], defers := [] })
    ?ax ?assign ?body ?done ?stop
  case ax =>
    rintro pre x a' X V row ⟨hi, G, hG, hx, ha⟩ g hr
    exact ⟨Turns.abides (C := Z) (DI.turns (by have := HZ.out; omega)) (by have := HW.out.1; have := HQ1.out; omega) X V row hi g hr, G, hG, GrAt.abide hx g hr (by have := HW.out.1; omega), ha⟩
  case assign =>
    rintro l2 pre ⟨gx, gy, gz⟩ V hi _ hsz
    have HI := Kp.mk hi
    clear hi
    have ez : ((#[21] : Array Tmp).zip (encG ⟨gx, gy, gz⟩)).foldl (fun tmps (q : Tmp × Value) => tmps.setIfInBounds q.1 q.2) #[ .agg #[.int .i64 s, .slice (some ⟨H, o, none⟩) h.length c], .int .i64 ax, .pointer (some ⟨Z, 0, none⟩), undef, .slice none 0 0, .pointer (some ⟨Z + 2, 0, none⟩), .pointer (some ⟨Q, 0, none⟩), undef, undef, undef, .pointer (some ⟨Z, 0, none⟩), .int .i64 s, .pointer (some ⟨Z, 0, none⟩), .int .i64 s, .int .i64 M, .slice (some ⟨Z + 1, 0, none⟩) M M, .agg #[.func (.func 61) #[] #[], .func (.func 62) #[] #[], .func (.func 63) #[] #[]], .int .i64 ax, .func (.func f) #[] #[], .agg #[.int .i64 s, .slice (some ⟨H, o, none⟩) h.length c], .func (.func 75) #[] #[.pointer (some ⟨Q + 1, 0, none⟩)], undef, undef, undef, undef, undef, undef, undef, undef, undef, undef, undef, undef, undef, undef, undef, undef, undef, undef, undef] = #[ .agg #[.int .i64 s, .slice (some ⟨H, o, none⟩) h.length c], .int .i64 ax, .pointer (some ⟨Z, 0, none⟩), undef, .slice none 0 0, .pointer (some ⟨Z + 2, 0, none⟩), .pointer (some ⟨Q, 0, none⟩), undef, undef, undef, .pointer (some ⟨Z, 0, none⟩), .int .i64 s, .pointer (some ⟨Z, 0, none⟩), .int .i64 s, .int .i64 M, .slice (some ⟨Z + 1, 0, none⟩) M M, .agg #[.func (.func 61) #[] #[], .func (.func 62) #[] #[], .func (.func 63) #[] #[]], .int .i64 ax, .func (.func f) #[] #[], .agg #[.int .i64 s, .slice (some ⟨H, o, none⟩) h.length c], .func (.func 75) #[] #[.pointer (some ⟨Q + 1, 0, none⟩)], .agg #[.int .i64 gx, .int .i64 gy, .int .i64 gz], undef, undef, undef, undef, undef, undef, undef, undef, undef, undef, undef, undef, undef, undef, undef, undef, undef, undef] := by simp [encG]
    rw [ez]
    clear ez
    gi_wp2
    have hzv : Q + 3 < V.heap.size := by have := HW.out.1; omega
    have hbb : Below V.heap.size V (V.alloc (.cells #[.int .i64 gx, .int .i64 gy, .int .i64 gz] 64)) := (Below.refl _ _).alloc (Nat.le_refl _) _
    exact ⟨alloc_keeps _ _ _, Keep.below hbb (fun j hj => by have := HBK.out.ltB; have := HBK.out.ltH; rcases hj with e | e <;> omega), HI.out.on hbb, V.heap.size, hzv, ⟨by go_simp, by go_simp, by go_simp⟩, rfl⟩
  case body =>
    rintro l2 pre x a' V ⟨hi, G, hG, hgr, rfl⟩ hpre hsz
    obtain ⟨hin, hbj, hbl, hbx, hst⟩ := cnts_next (sq := sq) (M := M) hs2 HMM.out hpre hax.toSqF.ins
    have HSQ : Kp (∀ W, Calls Tryz.prog f #[.agg #[.int .i64 x.x, .int .i64 x.y, .int .i64 x.z]] W fun e w' => e = .returned (.tuple #[.int .i64 (sq x).1, .int .i64 (sq x).2]) ∧ Below W.heap.size W w') := ⟨fun W => hax.toSqF.calls x W⟩
    have hE := hax.toSqF.enter
    have hub := hax.toSqF.ins s x hin
    obtain ⟨u, hu⟩ : ∃ u, (sq x).1 = u := ⟨_, rfl⟩
    obtain ⟨t, ht⟩ : ∃ t, (sq x).2 = t := ⟨_, rfl⟩
    obtain ⟨k, hk⟩ : ∃ k, sqIx s sq x = k := ⟨_, rfl⟩
    have hkk : u + (s : Int) * t = (k : Int) := by rw [← hk, ← hu, ← ht]; exact sqIx_int hub
    obtain ⟨xs, hxs⟩ : ∃ xs, cnts s M sq pre = xs := ⟨_, rfl⟩
    rw [hu, ht] at HSQ hub
    rw [hk, hxs] at hbx hst
    rw [hxs] at hbl hi
    rw [hk] at hbj
    obtain ⟨y, hy⟩ : ∃ y, xs[k]? = some y := ⟨_, List.getElem?_eq_getElem (by omega)⟩
    have hyb := hbx y hy
    have HST : Kp (cnts s M sq (pre ++ [x]) = xs.set k (y + 1)) := ⟨by rw [hst, hy]; rfl⟩
    have hsv : 0 ≤ (s : Int) * t ∧ (s : Int) * t ≤ 100 := ⟨Int.mul_nonneg (by omega) hub.2.1, by
      have h1 : (s : Int) * t ≤ 10 * 10 := Int.mul_le_mul (by omega) (by omega) hub.2.1 (by omega)
      omega⟩
    have w1 : IntKind.i64.wrap ((s : Int) * t) = (s : Int) * t := IntWalk.i64_in _ (by omega)
    have w2 : IntKind.i64.wrap (u + (s : Int) * t) = (k : Int) := by rw [hkk]; exact wrap_nat (by have := (cube_bd hs2).1; have := HMM.out; omega)
    have w3 : IntKind.i64.wrap (y + 1) = y + 1 := IntWalk.i64_in _ (by omega)
    have o1 : (k : Int) < (M : Int) := by omega
    have HI := Kp.mk hi
    obtain ⟨gx, gy, gz⟩ := x
    obtain ⟨d0, d1, d2⟩ := hgr
    have a1 := hi.sq
    have HY := Kp.mk hy
    have HSZ : Kp (W2.heap.size = Q + 1 + 1 ∧ W2.heap.size + 2 ≤ V.heap.size) := ⟨HW.out.1, hsz⟩
    clear hi hu ht hk hxs hbx hst hbl hub hkk hyb hsv hin hpre hy hbj
    gi_wp2
    refine ⟨trivial, (CallsIn.inRound _ (callsIn_wide.2 (HSQ.out _))).mono ?_⟩
    rintro en V1 ⟨rfl, hb1⟩
    have HX1 := Kp.mk hb1
    have HI1 := Kp.mk (HI.out.on hb1)
    have b1 := HI1.out.side
    have b2 := HI1.out.cnt
    have b3 := HI1.out.row.cell HY.out
    have b4 := HI1.out.row.froz k
    clear hb1 d0 d1 d2 a1
    have hz1 := HX1.out.size
    have HN : Kp (KeepsFrom W2.heap.size V (V1.setCell ⟨Z + 1, k, none⟩ (.int .i64 (y + 1))) ∧ Keep (SB (Q + 1) H) 2 (W2.heap.size + 2) V (V1.setCell ⟨Z + 1, k, none⟩ (.int .i64 (y + 1))) ∧ DI w Z Q s (some ⟨H, o, none⟩) h.length c M f (xs.set k (y + 1)) (V1.setCell ⟨Z + 1, k, none⟩ (.int .i64 (y + 1)))) := ⟨
      (KeepsFrom.of_grownBy (grown_below HX1.out none) (fun j e => by cases e)).trans (KeepsFrom.of_grownBy (setCell_grown _ _ _ _) (fun j e => by cases e; have := HSZ.out; have := HQ1.out; omega)),
      (Keep.below HX1.out (fun j hj => by have := HBK.out.ltB; have := HBK.out.ltH; have := HSZ.out; rcases hj with e | e <;> omega)).trans (Keep.of_grown (setCell_grown _ _ _ _) (fun j hj => by have := HBK.out.ltB; have := HBK.out.ltH; have := HSZ.out; rcases hj with e | e <;> omega) (fun r e => by cases e; exact ⟨by have := HSZ.out; have := HQ1.out; omega, fun hk => by have := HH0.out; have := HQ1.out; rcases hk with e | e <;> omega⟩)),
      ⟨HI1.out.below.grown (setCell_grown _ _ _ _) HI1.out.below.size (fun j e => by cases e; have := HZ.out; omega), (World.cell?_of_block (a := ⟨Z, 0, none⟩) (Below.heap_setCell _ _ _ _ (by simp only; omega))).trans HI1.out.side, (World.cell?_of_block (a := ⟨Z, 1, none⟩) (Below.heap_setCell _ _ _ _ (by simp only; omega))).trans HI1.out.has, (World.cell?_of_block (a := ⟨Z + 2, 0, none⟩) (Below.heap_setCell _ _ _ _ (by simp only; omega))).trans HI1.out.cnt, (World.cell?_of_block (a := ⟨Q, 0, none⟩) (Below.heap_setCell _ _ _ _ (by have := HQ1.out; simp only; omega))).trans HI1.out.sq, HI1.out.row.set_ k (y + 1)⟩⟩
    gi_wp2
    exact ⟨HN.out.1, HN.out.2.1, by show DI w Z Q s _ h.length c M f (cnts s M sq (pre ++ [_])) _; rw [HST.out]; exact HN.out.2.2⟩
  case done =>
    rintro D V hD hi hd
    have hgb := grownBy_putObj' V D (.deferred none)
    have hi2 := DI.turns (C := Z) (by have := HZ.out; omega) _ _ (some D) hi hgb (fun r e => by cases e; exact ⟨by have := HW.out.1; have := HQ1.out; omega, .inr ⟨_, hd, rfl⟩⟩)
    have HI2 := Kp.mk hi2
    have HD3 := Kp.mk hd
    have a2 := hi.cnt
    clear hi hd hi2 hgb
    gi_wp2
    refine ⟨by simp, .inl ⟨_, _, rfl, run_takeDeferred HD3.out, ?_⟩⟩
    refine ⟨.slice (some ⟨Z + 1, 0, none⟩) M M, by simp [results, Tryz.results46, go_sem], Z + 1, by rw [HMM.out], by have := HZ.out; omega, ?_, HI2.out.below⟩
    rw [HMM.out]
    exact HI2.out.row
  case stop =>
    rintro D cd ys V hD hys hi hd
    exact hi.elim
end Go.Proofs.YtknggeofilfiaaaGreatDoor.Cv
