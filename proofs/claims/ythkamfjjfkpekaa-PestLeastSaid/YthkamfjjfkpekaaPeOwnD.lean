/-
  A row of doors of the call's own, to which doors are appended (layer 8, pest).
-/
import Derived.Test.YthkamfjjfkpekaaPeOn
import Derived.Maps.AppendAt
import Derived.Deep.AppendLies
namespace Go.Proofs.Ythkamfjjfkpekaa.Pe
open Go Go.RowKit Go.Sort

/-- A door, laid in a block of its own. -/
structure DrAt (W : World) (U : Nat) (x : Dr) : Prop where
  c0 : W.cell? ⟨U, 0, none⟩ = some (.int .i64 x.a)
  c1 : W.cell? ⟨U, 1, none⟩ = some (.int .i64 x.b)
  c2 : W.cell? ⟨U, 2, none⟩ = some (.int .i64 x.c)
theorem info_parts {e : TypeId} {z : Value} {s b : Nat} (h : (Try.prog.info? e).map (fun i => (i.zero, i.size, i.bytes)) = some (some z, s, b)) : ∃ i, Try.prog.info? e = some i ∧ i.zero = some z ∧ i.size = s ∧ i.bytes = b := by
  cases hi : Try.prog.info? e with
  | none => rw [hi] at h; simp at h
  | some i =>
    rw [hi] at h
    simp only [Option.map_some, Option.some.injEq, Prod.mk.injEq] at h
    exact ⟨i, rfl, h.1, h.2.1, h.2.2⟩
def flatD : List Dr → List Value
  | [] => []
  | x :: xs => .int .i64 x.a :: .int .i64 x.b :: .int .i64 x.c :: flatD xs
theorem flatD_append (a b : List Dr) : flatD (a ++ b) = flatD a ++ flatD b := by
  induction a with
  | nil => rfl
  | cons q a ih => simp [flatD, ih]
theorem flatD_at : ∀ {l : List Dr} {i : Nat} {x : Dr}, l[i]? = some x → (flatD l)[i * 3]? = some (.int .i64 x.a) ∧ (flatD l)[i * 3 + 1]? = some (.int .i64 x.b) ∧ (flatD l)[i * 3 + 2]? = some (.int .i64 x.c)
  | [], i, x, h => by simp at h
  | q :: l, 0, x, h => by
    simp at h
    subst h
    exact ⟨rfl, rfl, rfl⟩
  | q :: l, i + 1, x, h => by
    have h2 : l[i]? = some x := by simpa using h
    obtain ⟨a, b, c⟩ := flatD_at h2
    rw [show (i + 1) * 3 = i * 3 + 1 + 1 + 1 by omega]
    exact ⟨a, by rw [show i * 3 + 1 + 1 + 1 + 1 = (i * 3 + 1) + 1 + 1 + 1 by omega]; exact b, by rw [show i * 3 + 1 + 1 + 1 + 2 = (i * 3 + 2) + 1 + 1 + 1 by omega]; exact c⟩
theorem flatD_one (l : List Dr) : ∀ u ∈ flatD l, u.oneCell' = true := by
  induction l with
  | nil => intro u h; cases h
  | cons q a ih =>
    intro u h
    simp only [flatD, List.mem_cons] at h
    rcases h with rfl | rfl | rfl | h
    · rfl
    · rfl
    · rfl
    · exact ih u h
theorem newsD_one {W : World} {Y : Nat} {r : Dr} (h : DrAt W Y r) : ∀ j u, (flatD [r])[j]? = some u → W.cell? ((⟨Y, 0, none⟩ : Addr).add j) = some u := by
  intro j u hu
  match j with
  | 0 => simp [flatD] at hu; subst hu; exact h.c0
  | 1 => simp [flatD] at hu; subst hu; exact h.c1
  | 2 => simp [flatD] at hu; subst hu; exact h.c2
  | j + 3 => simp [flatD] at hu
/-- A row of doors of the call's own. -/
def OwnD (W : World) (B0 : Nat) (v : Value) (l : List Dr) : Prop := W.ownsRow B0 48 3 v l.length (flatD l)
theorem OwnD.ds {w : World} {base : Nat} {v : Value} {l : List Dr} (h : OwnD w base v l) : DS w v l := by
  rcases h.2 with ⟨hv, h0⟩ | ⟨g, cap, cur, hv, hgB, hh, hnc, hcm, hcs, htake⟩
  · have hq : l = [] := List.eq_nil_of_length_eq_zero h0
    subst hq
    exact ⟨none, 0, hv, fun i s hs => by simp at hs⟩
  · refine ⟨some ⟨g, 0, none⟩, cap, hv, fun i s hs => ?_⟩
    have hi := (List.getElem?_eq_some_iff.1 hs).1
    obtain ⟨h0, h1, h2⟩ := flatD_at hs
    rw [← htake, List.getElem?_take] at h0 h1 h2
    rw [if_pos (by omega), Array.getElem?_toList] at h0 h1 h2
    refine ⟨g, 0, rfl, ?_, ?_, ?_⟩
    · rw [Nat.zero_add]; simp only [World.cell?, hh]; simpa using h0
    · rw [Nat.zero_add]; simp only [World.cell?, hh]; simpa using h1
    · rw [Nat.zero_add]; simp only [World.cell?, hh]; simpa using h2
theorem OwnD.nil (w : World) (B0 : Nat) : OwnD w B0 (.slice none 0 0) [] := ⟨rfl, .inl ⟨rfl, rfl⟩⟩
theorem OwnD.on {w W : World} {B0 : Nat} {v : Value} {l : List Dr} (h : OwnD w B0 v l) (hb : Below w.heap.size w W) : OwnD W B0 v l := h.kept (grown_below hb none) (by cases hv : v.ownBlock <;> simp)
theorem info_dr : (Try.prog.info? 48).map (fun i => (i.zero, i.size, i.bytes)) = some (some (.agg #[.int .i64 0, .int .i64 0, .int .i64 0]), 3, 24) := by kernel_rfl
/-- One grain more: the run of the append, with what it leaves. -/
theorem OwnD.next {w : World} {base Y : Nat} {v : Value} {l : List Dr} {x : Dr} (h : OwnD w base v l) (hx : DrAt w Y x) (hn : l.length ≤ 100000) (hb : base ≤ w.heap.size) :
    ∃ g c w', (Builtin.append_ #[22, 22] 22 #[v, .slice (some ⟨Y, 0, none⟩) 1 1]).run Try.prog w = .ok (.slice g (l.length + 1) c) w' ∧ OwnD w' base (.slice g (l.length + 1) c) (l ++ [x]) ∧ w.grownBy w' v.ownBlock ∧ ((Value.slice g (l.length + 1) c).ownBlock = v.ownBlock ∨ (Value.slice g (l.length + 1) c).ownBlock = some w.heap.size) := by
  obtain ⟨i0, hi, hz0, hz1, hz2⟩ := info_parts info_dr
  obtain ⟨v', w', hrun, hown, hg, -, hat⟩ := run_append_own_at (P := Try.prog) (w := w) base 22 22 48 i0 (.agg #[.int .i64 0, .int .i64 0, .int .i64 0]) 3 24 Try.underlying22 hi hz0 hz1 hz2 rfl (by decide)
    v l.length (flatD l) h ⟨Y, 0, none⟩ 1 1 (flatD [x]) rfl (newsD_one hx) (flatD_one _) (by unfold maxLen; omega) (by omega) hb
  have ho : OwnD w' base v' (l ++ [x]) := by
    unfold OwnD
    rw [List.length_append, flatD_append]
    exact hown
  obtain ⟨g, c, hv⟩ := ho.ds.shape
  rw [List.length_append, List.length_singleton] at hv
  subst hv
  exact ⟨g, c, w', hrun, ho, hg, hat⟩
end Go.Proofs.Ythkamfjjfkpekaa.Pe
