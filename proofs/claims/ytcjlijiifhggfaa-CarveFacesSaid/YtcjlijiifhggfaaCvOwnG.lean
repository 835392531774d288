/-
  A row of grains of the call's own, to which grains are appended.
-/
import Derived.Test.YtcjlijiifhggfaaCvWithin
import Derived.Maps.AppendAt
import Derived.Deep.AppendLies
namespace Go.Proofs.Ytcjlijiifhggfaa.Cv
open Go Go.RowKit Go.Sort

def flatG : List Gr → List Value
  | [] => []
  | x :: xs => .int .i64 x.x :: .int .i64 x.y :: .int .i64 x.z :: flatG xs
theorem flatG_append (a b : List Gr) : flatG (a ++ b) = flatG a ++ flatG b := by
  induction a with
  | nil => rfl
  | cons q a ih => simp [flatG, ih]
theorem flatG_at : ∀ {l : List Gr} {i : Nat} {x : Gr}, l[i]? = some x → (flatG l)[i * 3]? = some (.int .i64 x.x) ∧ (flatG l)[i * 3 + 1]? = some (.int .i64 x.y) ∧ (flatG l)[i * 3 + 2]? = some (.int .i64 x.z)
  | [], i, x, h => by simp at h
  | q :: l, 0, x, h => by
    simp at h
    subst h
    exact ⟨rfl, rfl, rfl⟩
  | q :: l, i + 1, x, h => by
    have h2 : l[i]? = some x := by simpa using h
    obtain ⟨a, b, c⟩ := flatG_at h2
    rw [show (i + 1) * 3 = i * 3 + 1 + 1 + 1 by omega]
    exact ⟨a, by rw [show i * 3 + 1 + 1 + 1 + 1 = (i * 3 + 1) + 1 + 1 + 1 by omega]; exact b, by rw [show i * 3 + 1 + 1 + 1 + 2 = (i * 3 + 2) + 1 + 1 + 1 by omega]; exact c⟩
theorem flatG_one (l : List Gr) : ∀ u ∈ flatG l, u.oneCell' = true := by
  induction l with
  | nil => intro u h; cases h
  | cons q a ih =>
    intro u h
    simp only [flatG, List.mem_cons] at h
    rcases h with rfl | rfl | rfl | h
    · rfl
    · rfl
    · rfl
    · exact ih u h
theorem newsG_one {W : World} {Y : Nat} {r : Gr} (h : GrAt W Y r) : ∀ j u, (flatG [r])[j]? = some u → W.cell? ((⟨Y, 0, none⟩ : Addr).add j) = some u := by
  intro j u hu
  match j with
  | 0 => simp [flatG] at hu; subst hu; exact h.c0
  | 1 => simp [flatG] at hu; subst hu; exact h.c1
  | 2 => simp [flatG] at hu; subst hu; exact h.c2
  | j + 3 => simp [flatG] at hu
/-- A row of grains of the call's own. -/
def OwnG (W : World) (B0 : Nat) (v : Value) (l : List Gr) : Prop := W.ownsRow B0 48 3 v l.length (flatG l)
theorem OwnG.gs {w : World} {base : Nat} {v : Value} {l : List Gr} (h : OwnG w base v l) : GS w v l := by
  rcases h.2 with ⟨hv, h0⟩ | ⟨g, cap, cur, hv, hgB, hh, hnc, hcm, hcs, htake⟩
  · have hq : l = [] := List.eq_nil_of_length_eq_zero h0
    subst hq
    exact ⟨none, 0, hv, Nat.le_refl _, fun i s hs => by simp at hs⟩
  · refine ⟨some ⟨g, 0, none⟩, cap, hv, hnc, fun i s hs => ?_⟩
    have hi := (List.getElem?_eq_some_iff.1 hs).1
    obtain ⟨h0, h1, h2⟩ := flatG_at hs
    rw [← htake, List.getElem?_take] at h0 h1 h2
    rw [if_pos (by omega), Array.getElem?_toList] at h0 h1 h2
    refine ⟨g, 0, rfl, (Array.getElem?_eq_some_iff.1 hh).1, ?_, ?_, ?_⟩
    · rw [Nat.zero_add]; simp only [World.cell?, hh]; simpa using h0
    · rw [Nat.zero_add]; simp only [World.cell?, hh]; simpa using h1
    · rw [Nat.zero_add]; simp only [World.cell?, hh]; simpa using h2
theorem OwnG.nil (w : World) (B0 : Nat) : OwnG w B0 (.slice none 0 0) [] := ⟨rfl, .inl ⟨rfl, rfl⟩⟩
theorem OwnG.on {w W : World} {B0 : Nat} {v : Value} {l : List Gr} (h : OwnG w B0 v l) (hb : Below w.heap.size w W) : OwnG W B0 v l := h.kept (grown_below hb none) (by cases hv : v.ownBlock <;> simp)
theorem info_gr : (Try.prog.info? 48).map (fun i => (i.zero, i.size, i.bytes)) = some (some (.agg #[.int .i64 0, .int .i64 0, .int .i64 0]), 3, 24) := by kernel_rfl
/-- One grain more: the run of the append, with what it leaves. -/
theorem OwnG.next {w : World} {base Y : Nat} {v : Value} {l : List Gr} {x : Gr} (h : OwnG w base v l) (hx : GrAt w Y x) (hn : l.length ≤ 100000) (hb : base ≤ w.heap.size) :
    ∃ g c w', (Builtin.append_ #[39, 39] 39 #[v, .slice (some ⟨Y, 0, none⟩) 1 1]).run Try.prog w = .ok (.slice g (l.length + 1) c) w' ∧ OwnG w' base (.slice g (l.length + 1) c) (l ++ [x]) ∧ w.grownBy w' v.ownBlock ∧ ((Value.slice g (l.length + 1) c).ownBlock = v.ownBlock ∨ (Value.slice g (l.length + 1) c).ownBlock = some w.heap.size) := by
  obtain ⟨i0, hi, hz0, hz1, hz2⟩ := info_parts info_gr
  obtain ⟨v', w', hrun, hown, hg, -, hat⟩ := run_append_own_at (P := Try.prog) (w := w) base 39 39 48 i0 (.agg #[.int .i64 0, .int .i64 0, .int .i64 0]) 3 24 Try.underlying39 hi hz0 hz1 hz2 rfl (by decide)
    v l.length (flatG l) h ⟨Y, 0, none⟩ 1 1 (flatG [x]) rfl (newsG_one hx) (flatG_one _) (by unfold maxLen; omega) (by omega) hb
  have ho : OwnG w' base v' (l ++ [x]) := by
    unfold OwnG
    rw [List.length_append, flatG_append]
    exact hown
  obtain ⟨g, c, hv⟩ := ho.gs.shape
  rw [List.length_append, List.length_singleton] at hv
  subst hv
  exact ⟨g, c, w', hrun, ho, hg, hat⟩
end Go.Proofs.Ytcjlijiifhggfaa.Cv
