/-
  WALKS (layer 7, scene): rows of truths: told, written in place, appended to, held to be the same.
-/
import Derived.Test.YtjnggchljilooaaScRowI
import Derived.Test.YtjnggchljilooaaScOwnI
import Derived.Lib.QuietBelow
namespace Go.Proofs.Ytjnggchljilooaa.Sc
open Go Go.RowKit Go.Sort

/-- Truths laid out. -/
def SB (w : World) (v : Value) (L : List Bool) : Prop :=
  ∃ g cap, v = .slice g L.length cap ∧ L.length ≤ cap ∧ ∀ i x, L[i]? = some x → ∃ b o, g = some ⟨b, o, none⟩ ∧ w.cell? ⟨b, o + i, none⟩ = some (.bool x)
theorem SB.below {w w' : World} {v : Value} {L : List Bool} (h : SB w v L) (hb : Below w.heap.size w w') : SB w' v L := by
  obtain ⟨g, cap, hv, hc0, hc⟩ := h
  refine ⟨g, cap, hv, hc0, fun i x hx => ?_⟩
  obtain ⟨b, o, hg, hcell⟩ := hc i x hx
  exact ⟨b, o, hg, (hb.cell (p := ⟨b, _, none⟩) (World.block_lt_of_cell? w _ hcell)).trans hcell⟩
theorem SB.shape {w : World} {v : Value} {L : List Bool} (h : SB w v L) : ∃ g c, v = .slice g L.length c := by
  obtain ⟨g, c, e, -⟩ := h; exact ⟨g, c, e⟩
theorem sb_nil (w : World) : SB w (.slice none 0 0) [] := ⟨none, 0, rfl, Nat.le_refl _, fun i x h => by simp at h⟩
/-- Truths in a block of their own, from its head on. -/
def RB (w : World) (G : Nat) (v : Value) (L : List Bool) : Prop := ∃ c, v = .slice (some ⟨G, 0, none⟩) L.length c ∧ L.length ≤ c ∧ (∀ j, w.frozen? ⟨G, j, none⟩ = false) ∧ ∀ i x, L[i]? = some x → w.cell? ⟨G, i, none⟩ = some (.bool x)
theorem RB.sb {w : World} {G : Nat} {v : Value} {L : List Bool} (h : RB w G v L) : SB w v L := by
  obtain ⟨c, rfl, hc, -, hi⟩ := h
  exact ⟨_, c, rfl, hc, fun i x hx => ⟨G, 0, rfl, by rw [Nat.zero_add]; exact hi i x hx⟩⟩
theorem RB.on {w W : World} {G : Nat} {v : Value} {L : List Bool} (h : RB w G v L) (hG : G < w.heap.size) (hb : Below w.heap.size w W) : RB W G v L := by
  obtain ⟨c, rfl, hc, hf, hl⟩ := h
  have e := hb.block _ hG
  exact ⟨c, rfl, hc, fun j => (World.frozen?_of_block (a := ⟨G, j, none⟩) e).trans (hf j), fun i x hx => (World.cell?_of_block (a := ⟨G, i, none⟩) e).trans (hl i x hx)⟩
theorem RB.put {w : World} {G i : Nat} {v : Value} {L : List Bool} {x : Bool} (h : RB w G v L) (hi : i < L.length) : RB (w.setCell ⟨G, i, none⟩ (.bool x)) G v (L.set i x) := by
  obtain ⟨c, rfl, hc, hf, hl⟩ := h
  refine ⟨c, by rw [List.length_set], by rw [List.length_set]; exact hc, fun j => by simp [go_sem, hf], fun j y hy => ?_⟩
  have hz := hl i _ (List.getElem?_eq_getElem hi)
  by_cases e : j = i
  · subst e
    rw [List.getElem?_set_self hi] at hy
    cases hy
    simp [go_sem, hz]
  · rw [List.getElem?_set_ne (fun k => e k.symm)] at hy
    exact (World.cell?_setCell_other _ _ _ _ (fun k => e (by simp only [Addr.mk.injEq, and_true, true_and] at k; omega))).trans (hl j y hy)
theorem info_bool : (Try.prog.info? 4).map (fun i => (i.zero, i.size, i.bytes)) = some (some (.bool false), 1, 1) := by kernel_rfl
/-- A row without marks is made. -/
theorem run_falses (W : World) (n : Nat) (hn : n ≤ 100000) : ∃ W', (Instr.makeSlice 50 (.int .i64 (n : Int)) (.int .i64 (n : Int))).run Try.prog W = .ok (.slice (some ⟨W.heap.size, 0, none⟩) n n) W' ∧ RB W' W.heap.size (.slice (some ⟨W.heap.size, 0, none⟩) n n) (List.replicate n false) ∧ Below W.heap.size W W' ∧ W'.heap.size = W.heap.size + 1 := by
  obtain ⟨i0, hi0, hz0, hz1, hz2⟩ := info_parts info_bool
  have hr := run_make (P := Try.prog) W 50 4 i0 (.bool false) Try.underlying50 hi0 hz0 .i64 .i64 n n (by omega) (Int.le_refl _) (by rw [hz2]; omega) (by omega)
  simp only [Int.toNat_natCast] at hr
  refine ⟨_, hr, ?_, (Below.refl _ _).alloc (Nat.le_refl _) _, by simp⟩
  have e : madeCells (Value.bool false).cells (n * i0.size) = ((List.replicate n false).map Value.bool).toArray := by
    rw [hz1, Nat.mul_one]
    apply Array.ext'
    rw [List.map_replicate]
    exact toList_madeCells_one (.bool false) n
  rw [e]
  have h := World.alloc_heap_new W (.cells ((List.replicate n false).map Value.bool).toArray 4)
  refine ⟨n, by rw [List.length_replicate], by rw [List.length_replicate]; exact Nat.le_refl _, fun j => frozen_of_row _ W.heap.size j _ _ h, fun i x hx => ?_⟩
  rw [cell_of_row _ W.heap.size i _ _ (0, 0) h]
  simp only [List.getElem?_toArray, List.getElem?_map, hx]
  rfl
/-- A row of truths of the call's own. -/
def OwnT (W : World) (B0 : Nat) (v : Value) (hs : List Bool) : Prop := W.ownsRow B0 4 1 v hs.length (hs.map (.bool ·))
theorem OwnT.nil (w : World) (B0 : Nat) : OwnT w B0 (.slice none 0 0) [] := ⟨rfl, .inl ⟨rfl, rfl⟩⟩
theorem OwnT.on {w W : World} {B0 : Nat} {v : Value} {l : List Bool} (h : OwnT w B0 v l) (hb : Below w.heap.size w W) : OwnT W B0 v l := h.kept (grown_below hb none) (by cases hv : v.ownBlock <;> simp)
theorem OwnT.shape {w : World} {base : Nat} {v : Value} {l : List Bool} (h : OwnT w base v l) : ∃ g c, v = .slice g l.length c := by
  rcases h.2 with ⟨hv, h0⟩ | ⟨g, cap, cur, hv, -⟩
  · exact ⟨none, 0, by rw [hv, h0]⟩
  · exact ⟨_, _, hv⟩
theorem OwnT.block {W : World} {B0 : Nat} {v : Value} {l : List Bool} (h : OwnT W B0 v l) {j : Nat} (e : v.ownBlock = some j) : B0 ≤ j ∧ j < W.heap.size := by
  rcases h.2 with ⟨hv, -⟩ | ⟨g, cap, cur, hv, hgB, hh, -⟩
  · subst hv; cases e
  · subst hv
    simp [Value.ownBlock] at e
    subst e
    exact ⟨hgB, (Array.getElem?_eq_some_iff.1 hh).1⟩
theorem OwnT.sb {w : World} {B0 : Nat} {v : Value} {l : List Bool} (h : OwnT w B0 v l) : SB w v l := by
  rcases h.2 with ⟨hv, h0⟩ | ⟨g, cap, cur, hv, hgB, hh, hnc, hcm, hcs, htake⟩
  · have hq : l = [] := List.eq_nil_of_length_eq_zero h0
    subst hq
    exact ⟨none, 0, hv, Nat.le_refl _, fun i s hs => by simp at hs⟩
  · refine ⟨some ⟨g, 0, none⟩, cap, hv, hnc, fun i x hx => ⟨g, 0, rfl, ?_⟩⟩
    have hi := (List.getElem?_eq_some_iff.1 hx).1
    have e : (l.map (Value.bool ·))[i]? = some (.bool x) := by rw [List.getElem?_map, hx]; rfl
    rw [← htake, List.getElem?_take, if_pos (by omega), Array.getElem?_toList] at e
    simp only [World.cell?, hh, Nat.zero_add]
    simpa using e
theorem newsT_one {W : World} {Y : Nat} {r : Bool} (h0 : W.cell? ⟨Y, 0, none⟩ = some (.bool r)) :
    ∀ j u, ([Value.bool r] : List Value)[j]? = some u → W.cell? ((⟨Y, 0, none⟩ : Addr).add j) = some u := by
  intro j u hu
  match j with
  | 0 => simp at hu; subst hu; exact h0
  | j + 1 => simp at hu
/-- One truth more: the run of the append, with what it leaves. -/
theorem OwnT.next {w : World} {base Y : Nat} {v : Value} {l : List Bool} {x : Bool} (h : OwnT w base v l) (hx : w.cell? ⟨Y, 0, none⟩ = some (.bool x)) (hn : l.length ≤ 100000) (hb : base ≤ w.heap.size) :
    ∃ g c w', (Builtin.append_ #[50, 50] 50 #[v, .slice (some ⟨Y, 0, none⟩) 1 1]).run Try.prog w = .ok (.slice g (l.length + 1) c) w' ∧ OwnT w' base (.slice g (l.length + 1) c) (l ++ [x]) ∧ w.grownBy w' v.ownBlock := by
  obtain ⟨i0, hi, hz0, hz1, hz2⟩ := info_parts info_bool
  obtain ⟨v', w', hrun, hown, hg, -, hat⟩ := run_append_own_at (P := Try.prog) (w := w) base 50 50 4 i0 (.bool false) 1 1 Try.underlying50 hi hz0 hz1 hz2 rfl (by decide)
    v l.length (l.map (.bool ·)) h ⟨Y, 0, none⟩ 1 1 [.bool x] rfl (newsT_one hx) (fun u hu => by rw [List.mem_singleton.1 hu]; rfl) (by unfold maxLen; omega) (by omega) hb
  have ho : OwnT w' base v' (l ++ [x]) := by
    unfold OwnT
    rw [List.length_append, List.map_append]
    exact hown
  obtain ⟨g, c, hv⟩ := ho.shape
  rw [List.length_append, List.length_singleton] at hv
  subst hv
  exact ⟨g, c, w', hrun, ho, hg⟩
theorem same_bools (v u : Value) (L : List Bool) (w : World) (hl : L.length ≤ 100000) (h1 : SB w v L) (h2 : SB w u L) : Calls Try.prog 41 #[v, u] w fun e w' => e = .returned (.bool true) ∧ Below w.heap.size w w' := by
  obtain ⟨g, cap, rfl, -, hc1⟩ := h1
  obtain ⟨g', cap', rfl, -, hc2⟩ := h2
  have H1 := Lib.hid hc1
  have H2 := Lib.hid hc2
  clear hc1 hc2
  have hlen : ((L.length : Int) != (L.length : Int)) = false := by simp
  go_enter Try.func41, Try.ntmps41
  go_wp2
  go_loopw [13] (fun i wr => ∃ k : Nat, k ≤ L.length ∧ i = .int .i64 (k : Int) ∧ Kp (Below w.heap.size w wr)) (fun i _ => L.length - (intOf i).toNat)
  case atStart => exact ⟨0, Nat.zero_le _, rfl, ⟨Below.refl _ _⟩⟩
  case round =>
    obtain ⟨k, hk, rfl, HB⟩ := hrel
    by_cases hlt : k < L.length
    · obtain ⟨x, hx⟩ : ∃ x, L[k]? = some x := ⟨L[k], List.getElem?_eq_getElem hlt⟩
      obtain ⟨b, o, hg, d0⟩ := H1.out k x hx
      obtain ⟨b', o', hg', f0⟩ := H2.out k x hx
      subst hg
      subst hg'
      have r1 := (HB.out.cell (p := ⟨b, o + k, none⟩) (World.block_lt_of_cell? _ _ d0)).trans d0
      have r2 := (HB.out.cell (p := ⟨b', o' + k, none⟩) (World.block_lt_of_cell? _ _ f0)).trans f0
      have o1 : (k : Int) < (L.length : Int) := by omega
      have o5 : k ≤ 100000 := by omega
      clear hx d0 f0
      have rg_r1 := fun d os => cell_regrown r1 d os
      have rg_r2 := fun d os => cell_regrown r2 d os
      clear r1 r2
      go_wp2
      refine wp_region_quiet_below (by kernel_rfl) (by kernel_rfl) ?_
      repeat (any_goals (first | go_big_quiet_step (fail) | quiet_step (fail)))
      refine wpQuiet_nil ?_
      intro _ hqw
      obtain ⟨⟨dq, osq⟩, hqv⟩ := hqw
      subst hqv
      obtain ⟨wq, hqwq⟩ : ∃ wq, grow (redrawn (wr) dq) osq = wq := ⟨_, rfl⟩
      have hbwq : Below (wr).heap.size (wr) wq := by rw [← hqwq]; exact below_regrown _ dq osq
      rw [hqwq]
      clear hqwq
      have HBQ := Kp.mk (HB.out.trans (hbwq.mono HB.out.size))
      clear hbwq
      go_wp2
      go_roundw
      case rel => exact ⟨k + 1, by omega, by go_num, HBQ⟩
      case measure => simp [intOf]; omega
    · have o1 : ¬ (k : Int) < (L.length : Int) := by omega
      go_wp2
      go_ret
      exact ⟨rfl, HB.out⟩
end Go.Proofs.Ytjnggchljilooaa.Sc
