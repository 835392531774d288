/-
  WALKS (layer 5, carve): the sizes of two pieces of one grain each, sorted.
-/
import Derived.Test.YtcjlijiifhggfaaCvOwnG
import Derived.Test.YtcjlijiifhggfaaShelf
import Derived.Sort.OwnSortedInts
namespace Go.Proofs.Ytcjlijiifhggfaa.Cv
open Go Go.RowKit Go.Sort Go.Proofs

/-- A row of numbers of the call's own. -/
def OwnI (W : World) (B0 : Nat) (v : Value) (hs : List Int) : Prop := W.ownsRow B0 3 1 v hs.length (hs.map (.int .i64 ·))
theorem OwnI.nil (w : World) (B0 : Nat) : OwnI w B0 (.slice none 0 0) [] := ⟨rfl, .inl ⟨rfl, rfl⟩⟩
theorem OwnI.on {w W : World} {B0 : Nat} {v : Value} {l : List Int} (h : OwnI w B0 v l) (hb : Below w.heap.size w W) : OwnI W B0 v l := h.kept (grown_below hb none) (by cases hv : v.ownBlock <;> simp)
theorem info_int2 : (Try.prog.info? 3).map (fun i => (i.zero, i.size, i.bytes)) = some (some (.int .i64 0), 1, 8) := by kernel_rfl
theorem newsI_one {W : World} {Y : Nat} {r : Int} (h0 : W.cell? ⟨Y, 0, none⟩ = some (.int .i64 r)) :
    ∀ j u, ([Value.int .i64 r] : List Value)[j]? = some u → W.cell? ((⟨Y, 0, none⟩ : Addr).add j) = some u := by
  intro j u hu
  match j with
  | 0 => simp at hu; subst hu; exact h0
  | j + 1 => simp at hu
theorem OwnI.shape {w : World} {base : Nat} {v : Value} {l : List Int} (h : OwnI w base v l) : ∃ g c, v = .slice g l.length c := by
  rcases h.2 with ⟨hv, h0⟩ | ⟨g, cap, cur, hv, -⟩
  · exact ⟨none, 0, by rw [hv, h0]⟩
  · exact ⟨_, _, hv⟩
/-- One number more: the run of the append, with what it leaves. -/
theorem OwnI.next {w : World} {base Y : Nat} {v : Value} {l : List Int} {x : Int} (h : OwnI w base v l) (hx : w.cell? ⟨Y, 0, none⟩ = some (.int .i64 x)) (hn : l.length ≤ 100000) (hb : base ≤ w.heap.size) :
    ∃ g c w', (Builtin.append_ #[27, 27] 27 #[v, .slice (some ⟨Y, 0, none⟩) 1 1]).run Try.prog w = .ok (.slice g (l.length + 1) c) w' ∧ OwnI w' base (.slice g (l.length + 1) c) (l ++ [x]) ∧ w.grownBy w' v.ownBlock ∧ ((Value.slice g (l.length + 1) c).ownBlock = v.ownBlock ∨ (Value.slice g (l.length + 1) c).ownBlock = some w.heap.size) := by
  obtain ⟨i0, hi, hz0, hz1, hz2⟩ := info_parts info_int2
  obtain ⟨v', w', hrun, hown, hg, -, hat⟩ := run_append_own_at (P := Try.prog) (w := w) base 27 27 3 i0 (.int .i64 0) 1 8 Try.underlying27 hi hz0 hz1 hz2 rfl (by decide)
    v l.length (l.map (.int .i64 ·)) h ⟨Y, 0, none⟩ 1 1 [.int .i64 x] rfl (newsI_one hx) (fun u hu => by rw [List.mem_singleton.1 hu]; rfl) (by unfold maxLen; omega) (by omega) hb
  have ho : OwnI w' base v' (l ++ [x]) := by
    unfold OwnI
    rw [List.length_append, List.map_append]
    exact hown
  obtain ⟨g, c, hv⟩ := ho.shape
  rw [List.length_append, List.length_singleton] at hv
  subst hv
  exact ⟨g, c, w', hrun, ho, hg, hat⟩
/-- The closure by which sizes are sorted: the greater ones first. -/
theorem desc_any (x y : Int) (W : World) : Calls Try.prog 35 #[.int .i64 x, .int .i64 y] W fun e w' => e = .returned (.int .i64 (Lib.compareInt y x)) ∧ ∃ q, w' = W.drewN q := by
  have hcon := Try.cmp_Compare_int y x W
  obtain ⟨r, hr⟩ : ∃ r, Lib.compareInt y x = r := ⟨_, rfl⟩
  rw [hr] at hcon ⊢
  have HC := Kp.mk hcon
  clear hcon hr
  go_enter Try.func35, Try.ntmps35
  go_wp2_with fail
  refine HC.out.mono ?_
  rintro en w' ⟨rfl, rfl⟩
  go_wp2
  go_ret
  exact ⟨rfl, 0, rfl⟩
theorem len_any (n : Nat) (W : World) (h : n ≤ 12) : Calls Try.prog 69 #[.int .u64 n] W fun e w' => (∃ l : Int, e = .returned (.int .i64 l)) ∧ w' = W :=
  (Try.bits_Len n W (by omega) (by omega)).mono fun _ _ ⟨he, hw⟩ => ⟨⟨_, he⟩, hw⟩
theorem sort_two (w : World) (B : Nat) (u : Value) (h : OwnI w B u [1, 1]) :
    Calls Try.prog 34 #[u, .func (.func 35) #[] #[]] w fun e w' => e = .returned (.tuple #[]) ∧ OwnI w' B u [1, 1] ∧ w.grownBy w' u.ownBlock := by
  rcases h.2 with ⟨hv, h0⟩ | ⟨g, cap, cur, hv, hgB, hh, hnc, hcm, hcs, htake⟩
  · simp at h0
  · have eg : ∀ args w, (callFunc 35 args).run Try.prog w = .ok (.enter 35 args) w := enters_of Try.func35 (by kernel_rfl) rfl
    rw [Nat.mul_one] at htake
    have hH : Holds (Value.int .i64) w g 0 #[1, 1] := holds_of_blockI (ss := [1, 1]) hh htake
    have hcon := Any.slices_SortFunc_small Try.laysSlF6_f34 (Value.int .i64) (fun _ => rfl) (fun x y => Lib.compareInt y x) 35 #[] g 0 cap #[1, 1] w eg (fun _ _ _ _ x y => desc_any x y _) hH (by decide) len_any
    change Calls Try.prog 34 _ _ _ at hcon
    rw [hv]
    refine hcon.mono ?_
    rintro e w' ⟨rfl, n, rfl⟩
    have e2 : Sort.insertionSort (ltOf fun x y => Lib.compareInt y x) #[1, 1] 0 2 = #[1, 1] := by decide +kernel
    have e3 : (putRow (Value.int .i64) w g 0 (Sort.insertionSort (ltOf fun x y => Lib.compareInt y x) #[1, 1] 0 (#[1, 1] : Array Int).size)).drewN n = sortWorld (Value.int .i64) w g 0 n #[1, 1] #[] := by
      rw [sortWorld_none]
      exact congrArg (fun d => (putRow (Value.int .i64) w g 0 d).drewN n) e2
    rw [e3]
    refine ⟨rfl, ?_, grownBy_sortedI (os := #[]) (n := n) #[1, 1]⟩
    exact ownsRow_sortedI (ss := [1, 1]) (ts := [1, 1]) (os := #[]) rfl hgB hh hnc hcm hcs
end Go.Proofs.Ytcjlijiifhggfaa.Cv
