/-
  WALKS (layer 8, pest): rows of numbers of the call's own, appended to.
-/
import Derived.Test.YthkamfjjfkpekaaPeOwnD
import Derived.Laws.OwnMore
import Derived.Deep.AppendLies
namespace Go.Proofs.Ythkamfjjfkpekaa.Pe
open Go Go.RowKit Go.Sort

/-- A row of numbers of the call's own. -/
def OwnI (W : World) (B0 : Nat) (v : Value) (hs : List Int) : Prop := W.ownsRow B0 3 1 v hs.length (hs.map (.int .i64 ·))
theorem OwnI.nil (w : World) (B0 : Nat) : OwnI w B0 (.slice none 0 0) [] := ⟨rfl, .inl ⟨rfl, rfl⟩⟩
theorem OwnI.on {w W : World} {B0 : Nat} {v : Value} {l : List Int} (h : OwnI w B0 v l) (hb : Below w.heap.size w W) : OwnI W B0 v l := h.kept (grown_below hb none) (by cases hv : v.ownBlock <;> simp)
theorem OwnI.shape {w : World} {base : Nat} {v : Value} {l : List Int} (h : OwnI w base v l) : ∃ g c, v = .slice g l.length c := by
  rcases h.2 with ⟨hv, h0⟩ | ⟨g, cap, cur, hv, -⟩
  · exact ⟨none, 0, by rw [hv, h0]⟩
  · exact ⟨_, _, hv⟩
theorem OwnI.block {W : World} {B0 : Nat} {v : Value} {l : List Int} (h : OwnI W B0 v l) {j : Nat} (e : v.ownBlock = some j) : B0 ≤ j ∧ j < W.heap.size ∧ ∃ o : Obj, W.heap[j]? = some o ∧ o.isCells = true := by
  rcases h.2 with ⟨hv, -⟩ | ⟨g, cap, cur, hv, hgB, hh, -⟩
  · subst hv; cases e
  · subst hv
    simp [Value.ownBlock] at e
    subst e
    exact ⟨hgB, (Array.getElem?_eq_some_iff.1 hh).1, _, hh, rfl⟩
theorem OwnI.is {w : World} {B0 : Nat} {v : Value} {l : List Int} (h : OwnI w B0 v l) : IS w v l := by
  rcases h.2 with ⟨hv, h0⟩ | ⟨g, cap, cur, hv, hgB, hh, hnc, hcm, hcs, htake⟩
  · have hq : l = [] := List.eq_nil_of_length_eq_zero h0
    subst hq
    exact ⟨none, 0, hv, Nat.le_refl _, fun i s hs => by simp at hs⟩
  · refine ⟨some ⟨g, 0, none⟩, cap, hv, hnc, fun i x hx => ⟨g, 0, rfl, ?_⟩⟩
    have hi := (List.getElem?_eq_some_iff.1 hx).1
    have e : (l.map (Value.int .i64 ·))[i]? = some (.int .i64 x) := by rw [List.getElem?_map, hx]; rfl
    rw [← htake, List.getElem?_take, if_pos (by omega), Array.getElem?_toList] at e
    simp only [World.cell?, hh, Nat.zero_add]
    simpa using e
theorem newsI_one {W : World} {Y : Nat} {r : Int} (h0 : W.cell? ⟨Y, 0, none⟩ = some (.int .i64 r)) :
    ∀ j u, ([Value.int .i64 r] : List Value)[j]? = some u → W.cell? ((⟨Y, 0, none⟩ : Addr).add j) = some u := by
  intro j u hu
  match j with
  | 0 => simp at hu; subst hu; exact h0
  | j + 1 => simp at hu
theorem info_int2 : (Try.prog.info? 3).map (fun i => (i.zero, i.size, i.bytes)) = some (some (.int .i64 0), 1, 8) := by kernel_rfl
/-- One number more: the run of the append, with what it leaves. -/
theorem OwnI.next {w : World} {base Y : Nat} {v : Value} {l : List Int} {x : Int} (h : OwnI w base v l) (hx : w.cell? ⟨Y, 0, none⟩ = some (.int .i64 x)) (hn : l.length ≤ 100000) (hb : base ≤ w.heap.size) :
    ∃ g c w', (Builtin.append_ #[25, 25] 25 #[v, .slice (some ⟨Y, 0, none⟩) 1 1]).run Try.prog w = .ok (.slice g (l.length + 1) c) w' ∧ OwnI w' base (.slice g (l.length + 1) c) (l ++ [x]) ∧ w.grownBy w' v.ownBlock ∧ ((Value.slice g (l.length + 1) c).ownBlock = v.ownBlock ∨ (Value.slice g (l.length + 1) c).ownBlock = some w.heap.size) := by
  obtain ⟨i0, hi, hz0, hz1, hz2⟩ := info_parts info_int2
  obtain ⟨v', w', hrun, hown, hg, -, hat⟩ := run_append_own_at (P := Try.prog) (w := w) base 25 25 3 i0 (.int .i64 0) 1 8 Try.underlying25 hi hz0 hz1 hz2 rfl (by decide)
    v l.length (l.map (.int .i64 ·)) h ⟨Y, 0, none⟩ 1 1 [.int .i64 x] rfl (newsI_one hx) (fun u hu => by rw [List.mem_singleton.1 hu]; rfl) (by unfold maxLen; omega) (by omega) hb
  have ho : OwnI w' base v' (l ++ [x]) := by
    unfold OwnI
    rw [List.length_append, List.map_append]
    exact hown
  obtain ⟨g, c, hv⟩ := ho.shape
  rw [List.length_append, List.length_singleton] at hv
  subst hv
  exact ⟨g, c, w', hrun, ho, hg, hat⟩
end Go.Proofs.Ythkamfjjfkpekaa.Pe
