/-
  What TopForms calls, at a block of a side from 1 to 10.
-/
import Derived.Test.YtdghgilnhganmabDoorCvLess
namespace Go.Proofs.YtdghgilnhganmabDoor.Tp
open Go Go.RowKit Go.Sort Go.Proofs.YtdghgilnhganmabDoor.Cv

theorem block_ok {s : Nat} {X : List Bool} (hs : 1 ≤ s) (hs2 : s ≤ 10) (hl : X.length = s * s * s) : blockB s X.length = true := by
  unfold blockB
  rw [side_iff.2 (by omega), Bool.true_and, decide_eq_true_eq, hl, Int.natCast_mul, Int.natCast_mul]
theorem len_places {s : Nat} {q : Gr → Bool} : ((placesL s).map q).length = s * s * s := by rw [List.length_map, places_len]
theorem Grains_at {s : Nat} (hs : 1 ≤ s) (hs2 : s ≤ 10) {W : World} {g : Option Addr} {N c : Nat} {X : List Bool} (hX : LB W (.slice g N c) X) (hl : X.length = s * s * s) :
    Calls Tryd.prog 16 #[.agg #[.int .i64 s, .slice g N c]] W fun e w' => ∃ g' c', e = .returned (.tuple #[.slice g' (grainsL s X).length c', .int .i64 0]) ∧ GS w' (.slice g' (grainsL s X).length c') (grainsL s X) ∧ Below W.heap.size W w' := by
  refine (Grains_in s _ X W hX hs hs2 hl (block_ok hs hs2 hl)).mono ?_
  rintro e w' ⟨r, rfl, ⟨B0, -, ho⟩, hb⟩
  have hg := ho.gs
  obtain ⟨g', c', rfl⟩ := hg.shape
  exact ⟨g', c', rfl, hg, hb⟩
theorem grains_ins {s : Nat} {X : List Bool} : ∀ x ∈ grainsL s X, insB s x = true := fun x hx => by
  unfold grainsL at hx
  exact mem_ins (List.mem_filter.1 hx).1
theorem all_ins {s : Nat} {l : List Gr} (h : ∀ x ∈ l, insB s x = true) : allB s l = true := by
  unfold allB
  rw [List.all_eq_true]
  intro x hx
  rw [inB_ins]
  exact h x hx
theorem Carved_at {s : Nat} (hs : 1 ≤ s) (hs2 : s ≤ 10) {W : World} {g : Option Addr} {N c : Nat} {X : List Bool} {v : Value} {l : List Gr} (hX : LB W (.slice g N c) X) (hl : X.length = s * s * s) (hv : GS W v l) (hm : l.length ≤ 1000) (hin : ∀ x ∈ l, insB s x = true) :
    Calls Tryd.prog 17 #[.agg #[.int .i64 s, .slice g N c], v] W fun e w' => ∃ g' c', e = .returned (.tuple #[.agg #[.int .i64 s, .slice g' (s * s * s) c'], .int .i64 0]) ∧ LB w' (.slice g' (s * s * s) c') (lessL s X l) ∧ Below W.heap.size W w' := by
  refine (Carved_ok s _ v X l W hX hv (by omega) hs hs2 hl (block_ok hs hs2 hl) (all_ins hin)).mono ?_
  rintro e w' ⟨r, rfl, ⟨u, rfl, hu⟩, hb⟩
  obtain ⟨g', c', rfl⟩ := hu.shape
  have hn : (lessL s X l).length = s * s * s := by unfold lessL; exact len_places
  rw [hn] at hu ⊢
  exact ⟨g', c', rfl, hu, hb⟩
theorem Full_at {s : Nat} (hs : 1 ≤ s) (hs2 : s ≤ 10) (W : World) :
    Calls Tryd.prog 15 #[.int .i64 s] W fun e w' => ∃ g' c', e = .returned (.tuple #[.agg #[.int .i64 s, .slice g' (s * s * s) c'], .int .i64 0]) ∧ LB w' (.slice g' (s * s * s) c') ((placesL s).map fun _ => true) ∧ Below W.heap.size W w' := by
  have hb : sideB s = true := side_iff.2 (by omega)
  have h := Full_any (s : Int) W
  have e1 : fullE s = 0 := by unfold fullE; rw [hb]; rfl
  have e2 : fullS s = s := by unfold fullS; rw [hb]; rfl
  have e3 : fullL s = (placesL s).map fun _ => true := by unfold fullL; rw [hb]; rfl
  rw [e1, e2, e3] at h
  refine h.mono ?_
  rintro e w' ⟨v, rfl, ⟨u, rfl, hu⟩, hb⟩
  obtain ⟨g', c', rfl⟩ := hu.shape
  rw [len_places] at hu ⊢
  exact ⟨g', c', rfl, hu, hb⟩
theorem Of_at {s : Nat} (hs : 1 ≤ s) (hs2 : s ≤ 10) {W : World} {v : Value} {x : Gr} (hv : GS W v [x]) (hx : insB s x = true) :
    Calls Tryd.prog 19 #[.int .i64 s, v] W fun e w' => ∃ g' c', e = .returned (.tuple #[.agg #[.int .i64 s, .slice g' (s * s * s) c'], .int .i64 0]) ∧ LB w' (.slice g' (s * s * s) c') (setB s [x]) ∧ Below W.heap.size W w' := by
  have ho : ∀ y ∈ [x], y.ok := fun y hy => by rw [List.mem_singleton.1 hy]; exact ins_ok hs2 hx
  refine (Of_ok s v [x] W hv (by simp) (side_iff.2 (by omega)) (all_ins fun y hy => by rw [List.mem_singleton.1 hy]; exact hx) ((size_dup _ rfl ho).2.2 (by simp)) ho).mono ?_
  rintro e w' ⟨r, rfl, ⟨u, rfl, hu⟩, hb⟩
  obtain ⟨g', c', rfl⟩ := hu.shape
  have hn : (setB s [x]).length = s * s * s := by unfold setB; exact len_places
  rw [hn] at hu ⊢
  exact ⟨g', c', rfl, hu, hb⟩
end Go.Proofs.YtdghgilnhganmabDoor.Tp
