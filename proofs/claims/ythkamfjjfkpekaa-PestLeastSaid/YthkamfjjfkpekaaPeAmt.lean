/-
  WALKS (layer 8, pest): amounts as an array.
-/
import Derived.Test.YthkamfjjfkpekaaPeCost
import Derived.Laws.CopyOwn
import Derived.Laws.Rows
import Derived.Laws.Tables
import Derived.Deep.WholeRow
import Derived.Great.BuildSlice
namespace Go.Proofs.Ythkamfjjfkpekaa.Pe
open Go Go.RowKit Go.Proofs Go.Sort

/-- Amounts, with zeros behind them, forty in all. -/
def amtL (l : List Int) : List Int := l ++ List.replicate (40 - l.length) 0
/-- Numbers as an array's cells. -/
def ivs (L : List Int) : Array Value := (L.map (Value.int .i64)).toArray
theorem amtL_len {l : List Int} (h : l.length ≤ 40) : (amtL l).length = 40 := by
  unfold amtL
  rw [List.length_append, List.length_replicate]
  omega
theorem ivs_size (L : List Int) : (ivs L).size = L.length := by simp [ivs]
theorem ivs_one (L : List Int) : (ivs L).all (·.oneCell') = true := by
  rw [Array.all_eq_true_iff_forall_mem]
  intro v hv
  simp [ivs] at hv
  obtain ⟨n, -, rfl⟩ := hv
  rfl
set_option maxRecDepth 100000 in
set_option maxHeartbeats 2000000 in
theorem amountsOf_any (v : Value) (l : List Int) (w : World) (hv : IS w v l) (hl : l.length ≤ 40) : Calls Try.prog 70 #[v] w fun e w' => e = .returned (.agg (ivs (amtL l))) ∧ Below w.heap.size w w' := by
  obtain ⟨g, c, rfl, -, hi⟩ := hv
  have HI := Kp.mk hi
  obtain ⟨n, hn⟩ : ∃ n, l.length = n := ⟨_, rfl⟩
  have HN := Kp.mk hn
  rw [hn] at hl ⊢
  clear hi hn
  have HCS : Kp ((l.map (Value.int .i64)).length = Nat.min n 40 ∧ (∀ u ∈ l.map (Value.int .i64), u.oneCell' = true) ∧ (0 < (l.map (Value.int .i64)).length → ∃ ad, g = some ad ∧ ∀ W, Below w.heap.size w W → ∀ j v, (l.map (Value.int .i64))[j]? = some v → W.cell? (ad.add j) = some v)) := ⟨by
    refine ⟨by rw [List.length_map, HN.out]; exact (Nat.min_eq_left hl).symm, fun u hu => ?_, fun hp => ?_⟩
    · obtain ⟨n, -, rfl⟩ := List.mem_map.1 hu
      rfl
    · rw [List.length_map] at hp
      obtain ⟨b, o, rfl, -⟩ := HI.out 0 _ (List.getElem?_eq_getElem hp)
      refine ⟨_, rfl, fun W hW j v hv => ?_⟩
      rw [List.getElem?_map] at hv
      obtain ⟨x, hx, rfl⟩ := Option.map_eq_some_iff.1 hv
      obtain ⟨b2, o2, hg, hc⟩ := HI.out j x hx
      simp only [Option.some.injEq, Addr.mk.injEq, and_true] at hg
      obtain ⟨rfl, rfl⟩ := hg
      rw [Addr.add_mid]
      exact (hW.cell (p := ⟨b, o + j, none⟩) (World.block_lt_of_cell? _ _ hc)).trans hc⟩
  have HSP : Kp (splice (List.replicate 40 (Value.int .i64 0)) 0 (l.map (Value.int .i64)) = (amtL l).map (Value.int .i64)) := ⟨by
    unfold splice amtL
    rw [List.take_zero, List.nil_append, List.drop_replicate, List.map_append, List.map_replicate, List.length_map, HN.out, Nat.zero_add]⟩
  have HIS : Kp ((Try.prog.info? 83).map (·.size) = some (ivs (amtL l)).size) := ⟨by rw [ivs_size, amtL_len (by rw [HN.out]; exact hl)]; kernel_rfl⟩
  have HOS : Kp ((List.replicate 40 (Value.int .i64 0)).toArray.size = (ivs (amtL l)).size) := ⟨by rw [ivs_size, amtL_len (by rw [HN.out]; exact hl)]; rfl⟩
  go_enter Try.func70, Try.ntmps70
  go_wp2_with (with_reducible refine wpList_copy_splice (o := ⟨some 6, _, _, _, _, _⟩) rfl (.tmp 4) (.tmp 5) 25 25 rfl 3 Try.underlying25 (by kernel_rfl) (some ⟨w.heap.size + 1, 0, none⟩) g 40 40 n c rfl rfl (w.heap.size + 1) 0 (List.replicate 40 (Value.int .i64 0)) 83 ?hg (l.map (Value.int .i64)) HCS.out.1 ?hpos ?hfit HCS.out.2.1 (w.heap.size + 1) (w.alloc (.cells (List.replicate 40 (Value.int .i64 0)).toArray 83)) ?hb (Nat.le_refl _) ?hh)
  case hfit => rw [HCS.out.1, List.length_replicate, Nat.zero_add]; exact Nat.min_le_right n 40
  case hb => exact (Below.refl _ _).alloc (by rw [World.size_alloc]; exact Nat.le_refl _) _
  case hpos =>
    intro hp
    obtain ⟨ad, rfl, h⟩ := HCS.out.2.2 (by simpa using hp)
    exact ⟨ad, rfl, fun j x hx => h _ (by repeat (first | exact Below.refl _ _ | refine Below.alloc ?_ (by simp <;> omega) _ | refine bDrewN ?_ _ | refine Below.drew ?_)) j _ (by rw [List.getElem?_map, hx]; rfl)⟩
  case hg =>
    have h := heap_alloc_last (w.alloc (.cells (List.replicate 40 (Value.int .i64 0)).toArray 83)) (.cells (List.replicate 40 (Value.int .i64 0)).toArray 83)
    rw [World.size_alloc] at h
    exact h
  case hh =>
    intro w2 hc hb2
    have HC2 : Kp (w2.heap[w.heap.size + 1]? = some (.cells (ivs (amtL l)) 83 (0, 0))) := ⟨by
      have h : w2.heap[w.heap.size + 1]? = some (.cells (splice (List.replicate 40 (Value.int .i64 0)) 0 (l.map (Value.int .i64))).toArray 83 (0, 0)) := hc
      rw [HSP.out] at h
      exact h⟩
    have HR2 : Kp (w2.heap[w.heap.size]? = some (.cells (List.replicate 40 (Value.int .i64 0)).toArray 83 (0, 0))) := ⟨(hb2.block _ (Nat.lt_succ_self _)).trans (heap_alloc_last w _)⟩
    have HB2 : Kp (Below w.heap.size w w2) := ⟨((Below.refl w.heap.size w).alloc (Nat.le_refl _) _).trans (hb2.mono (Nat.le_succ _))⟩
    clear hc hb2
    go_wp2_with (first | (with_reducible refine wpList_load_row (o := ⟨some 7, _, _, _, _, _⟩) rfl 83 (.tmp 3) rfl (w.heap.size + 1) rfl 83 (ivs (amtL l)) (0, 0) _ HC2.out Try.underlying83 rfl HIS.out ?_) | (with_reducible refine wpList_store_rowTo rfl 83 (.tmp 2) (.tmp 7) rfl rfl w.heap.size (ivs (amtL l)) rfl rfl 83 _ HR2.out HIS.out HOS.out (ivs_one _) ?_))
    exact bodyPost_ret (v := .agg (ivs (amtL l))) (results_cell_row rfl _ _ w.heap.size 83 (ivs (amtL l)) (0, 0) _ rfl (setRow_heap w2 w.heap.size _ _ _ _ HR2.out) Try.underlying83 rfl HIS.out) rfl ⟨rfl, below_setRow HB2.out (Nat.le_refl _) _⟩
end Go.Proofs.Ythkamfjjfkpekaa.Pe
