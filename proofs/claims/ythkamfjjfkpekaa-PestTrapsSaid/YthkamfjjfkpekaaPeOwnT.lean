/-
  A row of traps of the call's own, to which traps are appended (layer 8, pest).
-/
import Derived.Test.YthkamfjjfkpekaaPeOwnD
import Derived.Test.YthkamfjjfkpekaaPeTrap
import Derived.Maps.AppendAt
import Derived.Deep.AppendLies
namespace Go.Proofs.Ythkamfjjfkpekaa.Pe
open Go Go.RowKit Go.Sort

/-- A trap, laid in a block of its own. -/
structure TpAt (W : World) (U : Nat) (x : Tp) : Prop where
  c0 : W.cell? ⟨U, 0, none⟩ = some (.int .i64 x.room)
  c1 : W.cell? ⟨U, 1, none⟩ = some (.int .i64 x.day)
  c2 : W.cell? ⟨U, 2, none⟩ = some (.bool x.found)
def flatT : List Tp → List Value
  | [] => []
  | x :: xs => .int .i64 x.room :: .int .i64 x.day :: .bool x.found :: flatT xs
theorem flatT_append (a b : List Tp) : flatT (a ++ b) = flatT a ++ flatT b := by
  induction a with
  | nil => rfl
  | cons q a ih => simp [flatT, ih]
theorem flatT_at : ∀ {l : List Tp} {i : Nat} {x : Tp}, l[i]? = some x → (flatT l)[i * 3]? = some (.int .i64 x.room) ∧ (flatT l)[i * 3 + 1]? = some (.int .i64 x.day) ∧ (flatT l)[i * 3 + 2]? = some (.bool x.found)
  | [], i, x, h => by simp at h
  | q :: l, 0, x, h => by
    simp at h
    subst h
    exact ⟨rfl, rfl, rfl⟩
  | q :: l, i + 1, x, h => by
    have h2 : l[i]? = some x := by simpa using h
    obtain ⟨a, b, c⟩ := flatT_at h2
    rw [show (i + 1) * 3 = i * 3 + 1 + 1 + 1 by omega]
    exact ⟨a, by rw [show i * 3 + 1 + 1 + 1 + 1 = (i * 3 + 1) + 1 + 1 + 1 by omega]; exact b, by rw [show i * 3 + 1 + 1 + 1 + 2 = (i * 3 + 2) + 1 + 1 + 1 by omega]; exact c⟩
theorem flatT_one (l : List Tp) : ∀ u ∈ flatT l, u.oneCell' = true := by
  induction l with
  | nil => intro u h; cases h
  | cons q a ih =>
    intro u h
    simp only [flatT, List.mem_cons] at h
    rcases h with rfl | rfl | rfl | h
    · rfl
    · rfl
    · rfl
    · exact ih u h
theorem newsT_one {W : World} {Y : Nat} {r : Tp} (h : TpAt W Y r) : ∀ j u, (flatT [r])[j]? = some u → W.cell? ((⟨Y, 0, none⟩ : Addr).add j) = some u := by
  intro j u hu
  match j with
  | 0 => simp [flatT] at hu; subst hu; exact h.c0
  | 1 => simp [flatT] at hu; subst hu; exact h.c1
  | 2 => simp [flatT] at hu; subst hu; exact h.c2
  | j + 3 => simp [flatT] at hu
/-- A row of traps of the call's own. -/
def OwnT (W : World) (B0 : Nat) (v : Value) (l : List Tp) : Prop := W.ownsRow B0 53 3 v l.length (flatT l)
theorem OwnT.ts {w : World} {base : Nat} {v : Value} {l : List Tp} (h : OwnT w base v l) : TS w v l := by
  rcases h.2 with ⟨hv, h0⟩ | ⟨g, cap, cur, hv, hgB, hh, hnc, hcm, hcs, htake⟩
  · have hq : l = [] := List.eq_nil_of_length_eq_zero h0
    subst hq
    exact ⟨none, 0, hv, fun i s hs => by simp at hs⟩
  · refine ⟨some ⟨g, 0, none⟩, cap, hv, fun i s hs => ?_⟩
    have hi := (List.getElem?_eq_some_iff.1 hs).1
    obtain ⟨h0, h1, h2⟩ := flatT_at hs
    rw [← htake, List.getElem?_take] at h0 h1 h2
    rw [if_pos (by omega), Array.getElem?_toList] at h0 h1 h2
    refine ⟨g, 0, rfl, ?_, ?_, ?_⟩
    · rw [Nat.zero_add]; simp only [World.cell?, hh]; simpa using h0
    · rw [Nat.zero_add]; simp only [World.cell?, hh]; simpa using h1
    · rw [Nat.zero_add]; simp only [World.cell?, hh]; simpa using h2
theorem OwnT.nil (w : World) (B0 : Nat) : OwnT w B0 (.slice none 0 0) [] := ⟨rfl, .inl ⟨rfl, rfl⟩⟩
theorem OwnT.on {w W : World} {B0 : Nat} {v : Value} {l : List Tp} (h : OwnT w B0 v l) (hb : Below w.heap.size w W) : OwnT W B0 v l := h.kept (grown_below hb none) (by cases hv : v.ownBlock <;> simp)
theorem info_tp : (Try.prog.info? 53).map (fun i => (i.zero, i.size, i.bytes)) = some (some (.agg #[.int .i64 0, .int .i64 0, .bool false]), 3, 24) := by kernel_rfl
/-- One trap more: the run of the append, with what it leaves. -/
theorem OwnT.next {w : World} {base Y : Nat} {v : Value} {l : List Tp} {x : Tp} (h : OwnT w base v l) (hx : TpAt w Y x) (hn : l.length ≤ 100000) (hb : base ≤ w.heap.size) :
    ∃ g c w', (Builtin.append_ #[49, 49] 49 #[v, .slice (some ⟨Y, 0, none⟩) 1 1]).run Try.prog w = .ok (.slice g (l.length + 1) c) w' ∧ OwnT w' base (.slice g (l.length + 1) c) (l ++ [x]) ∧ w.grownBy w' v.ownBlock ∧ ((Value.slice g (l.length + 1) c).ownBlock = v.ownBlock ∨ (Value.slice g (l.length + 1) c).ownBlock = some w.heap.size) := by
  obtain ⟨i0, hi, hz0, hz1, hz2⟩ := info_parts info_tp
  obtain ⟨v', w', hrun, hown, hg, -, hat⟩ := run_append_own_at (P := Try.prog) (w := w) base 49 49 53 i0 (.agg #[.int .i64 0, .int .i64 0, .bool false]) 3 24 Try.underlying49 hi hz0 hz1 hz2 rfl (by decide)
    v l.length (flatT l) h ⟨Y, 0, none⟩ 1 1 (flatT [x]) rfl (newsT_one hx) (flatT_one _) (by unfold maxLen; omega) (by omega) hb
  have ho : OwnT w' base v' (l ++ [x]) := by
    unfold OwnT
    rw [List.length_append, flatT_append]
    exact hown
  obtain ⟨g, c, hv⟩ := ho.ts.shape
  rw [List.length_append, List.length_singleton] at hv
  subst hv
  exact ⟨g, c, w', hrun, ho, hg, hat⟩
theorem OwnT.lt {W : World} {B0 : Nat} {v : Value} {l : List Tp} (h : OwnT W B0 v l) (j : Nat) (e : v.ownBlock = some j) : B0 ≤ j ∧ j < W.heap.size := by
  rcases h.2 with ⟨hv, -⟩ | ⟨g, cap, cur, hv, hgB, hh, -⟩
  · subst hv; cases e
  · subst hv
    simp [Value.ownBlock] at e
    subst e
    exact ⟨hgB, (Array.getElem?_eq_some_iff.1 hh).1⟩
/-- What traps in the first rooms find on a day. -/
def rowF (T : Nat) (d : Int) : Nat → List Tp
  | 0 => []
  | k + 1 => rowF T d k ++ [⟨(k : Int), d, T.testBit k⟩]
/-- What traps in all rooms find on the first days. -/
def fndF (p : Nat → Nat) (R : Nat) : Nat → List Tp
  | 0 => []
  | d + 1 => fndF p R d ++ rowF (p d) (d : Int) R
theorem rowF_len (T : Nat) (d : Int) : ∀ k : Nat, (rowF T d k).length = k
  | 0 => rfl
  | k + 1 => by
    unfold rowF
    rw [List.length_append, rowF_len T d k]
    rfl
theorem fndF_len (p : Nat → Nat) (R : Nat) : ∀ d : Nat, (fndF p R d).length = R * d
  | 0 => rfl
  | d + 1 => by
    unfold fndF
    rw [List.length_append, rowF_len, fndF_len p R d, Nat.mul_succ]
theorem rowF_mem {T : Nat} {d : Int} {t : Tp} : ∀ k : Nat, t ∈ rowF T d k → ∃ j : Nat, j < k ∧ t = ⟨(j : Int), d, T.testBit j⟩
  | 0, h => by cases h
  | k + 1, h => by
    unfold rowF at h
    rcases List.mem_append.1 h with h | h
    · obtain ⟨j, hj, e⟩ := rowF_mem k h
      exact ⟨j, by omega, e⟩
    · exact ⟨k, by omega, List.mem_singleton.1 h⟩
theorem fndF_mem {p : Nat → Nat} {R : Nat} {t : Tp} : ∀ d : Nat, t ∈ fndF p R d → ∃ n j : Nat, n < d ∧ j < R ∧ t = ⟨(j : Int), (n : Int), (p n).testBit j⟩
  | 0, h => by cases h
  | d + 1, h => by
    unfold fndF at h
    rcases List.mem_append.1 h with h | h
    · obtain ⟨n, j, hn, hj, e⟩ := fndF_mem d h
      exact ⟨n, j, by omega, hj, e⟩
    · obtain ⟨j, hj, e⟩ := rowF_mem R h
      exact ⟨d, j, by omega, hj, e⟩
end Go.Proofs.Ythkamfjjfkpekaa.Pe
