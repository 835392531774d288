/-
  THE WALK of the reference's merged: at labels that agree, the fields of both by ascending keys.
-/
import Derived.Test.YtjdcdakedoljbaaDoorMkMergeA
import Derived.RegionTactic
import Derived.Deep.QuietTactic
import Derived.BigQuiet
import Derived.BigRegion
namespace Go.Proofs.YtjdcdakedoljbaaDoor.Mk
open Go Go.RowKit Go.Maps Go.Deep Go.ChangeShapes Go.WideShapes

theorem RL.shape {w : World} {v : Value} {L : List FB} (h : RL w v L) : ∃ g cap, v = .slice g L.length cap := by
  obtain ⟨g, cap, e, _⟩ := h
  exact ⟨g, cap, e⟩
theorem take_key {L : List FB} (h : Strict L) {k : Nat} {f : FB} (hf : L[k]? = some f) : ∀ m ∈ L.take k, m.1 ≠ f.1 := by
  intro m hm e
  obtain ⟨hk, ef⟩ := List.getElem?_eq_some_iff.1 hf
  obtain ⟨i, hi, em⟩ := List.getElem_of_mem hm
  rw [List.length_take] at hi
  rw [List.getElem_take] at em
  have := (List.pairwise_iff_getElem.1 h) i k (by omega) hk (by omega)
  rw [em, ef] at this
  unfold klt at this
  rw [e] at this
  exact List.lt_irrefl _ this
theorem cell_other (w : World) {g b : Nat} (i : Nat) (u : Value) (h : g ≠ b) : (w.setCell ⟨g, i, none⟩ u).cell? ⟨b, 0, none⟩ = w.cell? ⟨b, 0, none⟩ :=
  World.cell?_of_block (by rw [Below.heap_setCell w ⟨g, i, none⟩ u b (Ne.symm h)])
set_option maxRecDepth 100000 in
set_option maxHeartbeats 4000000 in
theorem rmerged_some (ad : Addr) (cap0 : Nat) (vb : Value) (A L : List FB) (w : World) (ha : RL w (.slice (some ad) A.length cap0) A) (hca : ∀ j u, (cellsL A)[j]? = some u → w.cell? (ad.add j) = some u) (h : RL w vb L) (hA : Strict A) (hFA : Full A) (hL : Strict L) (hag : ∀ f ∈ A, ∀ g ∈ L, f.1 = g.1 → f.2 = g.2) (hn : A.length + L.length ≤ 100000) :
    Calls Tryd.prog 67 #[.slice (some ad) A.length cap0, vb] w fun e w' => (∃ v O, e = .returned v ∧ RL w' v O ∧ IsJoin A L O) ∧ Below w.heap.size w w' := by
  have H1 : Kq (∀ W key, Below w.heap.size w W → _) := ⟨fun W key hW => rvalue_any _ A key W (ha.below hW) (by unfold maxLen; omega)⟩
  have HKEEP : Kq (∀ k f O, L[k]? = some f → IsJoin A (L.take k) O → rval A f.1 ≠ ⟨#[]⟩ → IsJoin A (L.take (k + 1)) O) := ⟨fun k f O hf hO hv => by
    rw [take_next hf]
    exact merge_keep hO (strict_fun hA) hFA (fun a ha e => hag a ha f (List.mem_of_getElem? hf) e) hv⟩
  have HNEW : Kq (∀ k f O, L[k]? = some f → IsJoin A (L.take k) O → rval A f.1 = ⟨#[]⟩ → ∀ g ∈ O, g.1 ≠ f.1) := ⟨fun k f O hf hO hv => merge_new hO hFA hv (take_key hL hf)⟩
  have HPUT : Kq (∀ k f P S, L[k]? = some f → IsJoin A (L.take k) (P ++ S) → (∀ p, P.getLast? = some p → ¬ klt f p) → (∀ s ∈ S, klt f s) → (∀ g ∈ P ++ S, g.1 ≠ f.1) → IsJoin A (L.take (k + 1)) (P ++ f :: S)) := ⟨fun k f P S hf hO h1 h2 h3 => by
    rw [take_next hf]
    exact merge_put hO h1 h2 h3⟩
  have HCA : Kq _ := ⟨hca⟩
  have HST : Kq (IsJoin A [] A) := ⟨merge_start hA⟩
  obtain ⟨g, cap, rfl, hc⟩ := h
  have HC := Lib.hid hc
  obtain ⟨i0, hi, hz0, hz1, hz2⟩ := info_parts info_field
  have HI := Lib.hid hi
  have HZ0 := Lib.hid hz0
  have HZ1 := Lib.hid hz1
  have HZ2 := Lib.hid hz2
  clear hi hz0 hz1 hz2 hc hca ha hA hFA hL hag
  have hown0 : (w.alloc (.cells #[] 70)).ownsRow w.heap.size 70 2 (.slice (some ⟨w.heap.size, 0, none⟩) 0 0) 0 [] := World.ownsRow_lit w #[] 0 (Nat.le_refl _) (by unfold maxLen; omega) rfl
  have hnw : ∀ j u, (cellsL A)[j]? = some u → (w.alloc (.cells #[] 70)).cell? (ad.add j) = some u := fun j u hu => by
    have h1 := HCA.out j u hu
    exact Lib.cell?_alloc_some _ h1
  have HNW := Lib.hid hnw
  have hc3 : 0 + A.length ≤ maxLen := by unfold maxLen; omega
  have hc4 : (0 + A.length) * 32 ≤ 140737488355328 := by omega
  clear hnw
  go_enter Tryd.func67, Tryd.ntmps67
  go_wp2_with (at_builtin; refine wpList_append_own _ rfl _ _ 35 rfl w.heap.size 70 i0 (.agg #[.string ⟨#[]⟩, .string ⟨#[]⟩]) 2 32 Tryd.underlying35 HI.out HZ0.out HZ1.out HZ2.out rfl (by decide) _ _ _ rfl hown0 ad A.length cap0 (cellsL A) rfl (cellsL_len A) HNW.out (cellsL_one A) hc3 hc4 (by simp) ?_; intro v1 w1 hown1 hgrow1 _hnil)
  have HROW1 : Kq (RowF w.heap.size w w1 v1 A) := ⟨⟨by simpa using hown1, ((Below.refl _ w).alloc (Nat.le_refl _) _).grown hgrow1 (by simp) (fun j e => by cases e; exact Nat.le_refl _)⟩⟩
  clear hown1 hgrow1 _hnil hown0 HNW
  obtain ⟨g1, cp1, rfl⟩ := HROW1.out.rl.shape
  go_wp2_with fail
  go_loopw [14, 5] (fun i v wr => ∃ (k : Nat) (O : List FB), k ≤ L.length ∧ i = .int .i64 (k : Int) ∧ RowF w.heap.size w wr v O ∧ Kq (IsJoin A (L.take k) O) ∧ Kq (O.length ≤ A.length + k)) (fun i _ _ => L.length - (intOf i).toNat)
  case atStart => exact ⟨0, A, Nat.zero_le _, rfl, HROW1.out, HST, ⟨Nat.le_refl _⟩⟩
  case round =>
    obtain ⟨k, O, hk, rfl, hrow, HJ, HL⟩ := hrel
    clear HROW1
    have HROW := Lib.hid hrow
    have hz := hrow.bel.size
    obtain ⟨ga, co, rfl⟩ := hrow.rl.shape
    clear hrow
    obtain ⟨W0, rfl⟩ : ∃ W0, W0 = wr := ⟨_, rfl⟩
    by_cases hlt : k < L.length
    · obtain ⟨f, hf⟩ : ∃ f, L[k]? = some f := ⟨L[k], List.getElem?_eq_getElem hlt⟩
      obtain ⟨b, o, hg, hbl, hb1, hb2⟩ := HC.out k f hf
      subst hg
      have c1 : W0.cell? ⟨b, o + k * 2, none⟩ = some (.string f.1) := (HROW.out.bel.cell (p := ⟨b, _, none⟩) hbl).trans hb1
      have c2 : W0.cell? ⟨b, o + k * 2 + 1, none⟩ = some (.string f.2) := (HROW.out.bel.cell (p := ⟨b, _, none⟩) hbl).trans hb2
      have HBA : Kq (Below w.heap.size w (W0.alloc (Obj.cells #[Value.string f.1, Value.string f.2] 70))) := ⟨HROW.out.bel.alloc hz _⟩
      have HROWA : Kq (RowF w.heap.size w (W0.alloc (Obj.cells #[Value.string f.1, Value.string f.2] 70)) (.slice ga O.length co) O) := ⟨HROW.out.next ((Below.refl _ W0).alloc (Nat.le_refl _) _) hz⟩
      have HF : Kq (L[k]? = some f) := ⟨hf⟩
      have hOl : O.length ≤ 100000 := by have := HL.out; omega
      have HFAR : Kq (∀ j, (Value.slice ga O.length co).ownBlock = some j → j < W0.heap.size) := ⟨fun j e => (HROW.out.own.lt j e).2⟩
      clear hb1 hb2 hf
      go_wp2_with fail
      refine (H1.out _ _ HBA.out).mono ?_
      rintro e w3 ⟨rfl, hb3⟩
      have HROW3 : Kq (RowF w.heap.size w w3 (.slice ga O.length co) O) := ⟨HROWA.out.next hb3 (by simp; omega)⟩
      have hz3 : W0.heap.size + 1 ≤ w3.heap.size := by have := hb3.size; simpa using this
      have d1 : w3.cell? ⟨W0.heap.size, 0, none⟩ = some (.string f.1) := (hb3.cell (p := ⟨W0.heap.size, 0, none⟩) (by simp)).trans (by simp [go_sem])
      have d2 : w3.cell? ⟨W0.heap.size, 1, none⟩ = some (.string f.2) := (hb3.cell (p := ⟨W0.heap.size, 1, none⟩) (by simp)).trans (by simp [go_sem])
      clear hb3 HROWA HROW
      obtain ⟨u, hu⟩ : ∃ u, rval A f.1 = u := ⟨_, rfl⟩
      rw [hu]
      by_cases he : u = ⟨#[]⟩
      · have HN : Kq (∀ g ∈ O, g.1 ≠ f.1) := ⟨HNEW.out k f O HF.out HJ.out (hu.trans he)⟩
        subst he
        have t1 := isEmpty_yes
        have hown := HROW3.out.own
        have hbel3 := HROW3.out.bel
        have hc5 : O.length + 1 ≤ maxLen := by unfold maxLen; omega
        have hc6 : (O.length + 1) * 32 ≤ 140737488355328 := by omega
        have hnew : Kq ((w3.alloc (Obj.cells #[Value.string f.1, Value.string f.2] 70)).heap[w3.heap.size]? = some (Obj.cells #[Value.string f.1, Value.string f.2] 70)) := ⟨heap_alloc_new _ _⟩
        clear hu c1 c2
        go_wp2_with (at_builtin; refine wpList_append_lies _ rfl _ _ 35 rfl w.heap.size 70 i0 (.agg #[.string ⟨#[]⟩, .string ⟨#[]⟩]) 2 32 Tryd.underlying35 HI.out HZ0.out HZ1.out HZ2.out rfl (by decide) _ _ _ rfl (hown.alloc _) ⟨w3.heap.size, 0, none⟩ 1 1 [.string f.1, .string f.2] rfl rfl (World.news_of_block (cs := #[.string f.1, .string f.2]) hnew.out) (by simp [Value.oneCell']) (by decide) hc5 hc6 (by simp; omega) (w3.heap.size + 1) (by simp) ?_; intro g' c' w4 hown' hgrow' hlies hg4)
        have HGR : Kq ((w3.alloc (Obj.cells #[Value.string f.1, Value.string f.2] 70)).grownBy w4 (Value.ownBlock (.slice ga O.length co))) := ⟨hgrow'⟩
        have HLI : Kq (Value.ownBlock (.slice ga O.length co) = some g' ∨ g' = w3.heap.size + 1) := ⟨hlies⟩
        clear hgrow' hlies
        have hlt3 := hown.lt
        have HROW4 : Kq (RowF w.heap.size w w4 (.slice (some ⟨g', 0, none⟩) (O.length + 1) c') (O ++ [f])) := ⟨⟨by rw [cellsL_append]; simpa [cellsL] using hown', (hbel3.alloc (by omega) _).grown HGR.out (by simp; omega) (fun j e => (hlt3 j e).1)⟩⟩
        have e1 : w4.cell? ⟨W0.heap.size, 0, none⟩ = some (.string f.1) := by
          refine (HGR.out.cell_far ⟨W0.heap.size, 0, none⟩ (by simp; omega) ?_).trans (Lib.cell?_alloc_some _ d1)
          intro e
          have := HFAR.out _ e.symm
          simp at this
        have hgF : W0.heap.size ≠ g' := by
          rcases HLI.out with h5 | h5
          · have := HFAR.out _ h5
            omega
          · omega
        obtain ⟨n, hn1⟩ : ∃ n, O.length + 1 = n := ⟨_, rfl⟩
        rw [hn1] at HROW4 ⊢
        have HN1 : Kq (O.length + 1 = n) := ⟨hn1⟩
        have hn2 : n ≤ 100001 := by omega
        have hgB : w.heap.size ≤ g' := by
          have := hown'.lt g' rfl
          exact this.1
        clear hn1 hown' hown hlt3 hbel3 HGR HLI d1 d2 hnew HROW3
        go_wp2_with fail
        go_loopw [8] (fun a wr => ∃ P S : List FB, O = P ++ S ∧ a = .int .i64 ((P.length : Nat) : Int) ∧ Kq (∀ s ∈ S, klt f s) ∧ RowF w.heap.size w wr (.slice (some ⟨g', 0, none⟩) n c') (P ++ f :: S) ∧ wr.cell? ⟨W0.heap.size, 0, none⟩ = some (.string f.1)) (fun a _ => (intOf a).toNat)
        case atStart => exact ⟨O, [], by simp, rfl, ⟨fun s h => by cases h⟩, HROW4.out, e1⟩
        case round =>
          clear HROW4 e1
          obtain ⟨P, S, hrs, rfl, HS, hrow5, e5⟩ := hrel
          obtain ⟨wk, rfl⟩ : ∃ wk : World, wk = wr := ⟨_, rfl⟩
          have HROW5 := Lib.hid hrow5
          have HRS := Lib.hid hrs
          clear hrs hrow5
          have HXN : Kq ((P ++ f :: S).length = n) := ⟨by rw [← HN1.out, HRS.out]; simp; omega⟩
          have hB5 := HROW5.out.bel.size
          have HOUT : Kq ((∀ p, P.getLast? = some p → ¬ klt f p) → IsJoin A (L.take (k + 1)) (P ++ f :: S)) := ⟨fun h1 => HPUT.out k f P S HF.out (by rw [← HRS.out]; exact HJ.out) h1 HS.out (by rw [← HRS.out]; exact HN.out)⟩
          have HLEN : Kq ((P ++ f :: S).length ≤ A.length + (k + 1)) := ⟨by rw [HXN.out, ← HN1.out]; have := HL.out; omega⟩
          rcases List.eq_nil_or_concat P with rfl | ⟨P', y, rfl⟩
          · rw [show (([] : List FB).length : Int) = 0 from rfl]
            go_wp2_with fail
            go_quiet (fail)
            go_wp2
            go_roundw
            case rel => exact ⟨k + 1, _, by omega, by go_num, HROW5.out.drewN _, ⟨HOUT.out (fun p h => by cases h)⟩, HLEN⟩
            case measure => simp [intOf]; omega
          · have HR' : Kq (RowF w.heap.size w wk (.slice (some ⟨g', 0, none⟩) (P' ++ [y] ++ f :: S).length c') (P' ++ [y] ++ f :: S)) := ⟨by
              have h1 := HXN.out
              simp only [List.concat_eq_append] at h1
              rw [h1]
              simpa using HROW5.out⟩
            obtain ⟨m1, m2⟩ := midF P' S y f
            obtain ⟨c1, c2⟩ := HR'.out.cell m1
            obtain ⟨c3, c4⟩ := HR'.out.cell m2
            have f1 := HR'.out.froz (P'.length * 2)
            have f2 := HR'.out.froz (P'.length * 2 + 1)
            have f3 := HR'.out.froz ((P'.length + 1) * 2)
            have f4 := HR'.out.froz ((P'.length + 1) * 2 + 1)
            have hpn : P'.length + 1 < n := by
              have h1 := HXN.out
              simp at h1
              omega
            rw [show ((P'.concat y).length : Int) = (P'.length : Int) + 1 by simp]
            obtain ⟨p, hp⟩ : ∃ p, P'.length = p := ⟨_, rfl⟩
            rw [hp] at c1 c2 c3 c4 f1 f2 f3 f4 hpn ⊢
            have HP := Lib.hid hp
            clear hp m1 m2
            have o1 : (p : Int) + 1 < (n : Int) := by omega
            have o2 : (0 : Int) ≤ (p : Int) + 1 := by omega
            by_cases hy : klt f y
            · have t2 : (Op.bytesLess y.1.toList f.1.toList || y.1.toList == f.1.toList) = false := by rw [less_flip, klt_less.2 hy]; rfl
              have HY : Kq (klt f y) := ⟨hy⟩
              clear hy
              have q0 : (0 : Int) < (p : Int) + 1 := by omega
              go_wp2_with fail
              go_quiet (fail)
              go_wp2_with fail
              go_region
              go_wp2
              go_roundw
              case rel =>
                have h1 := HR'.out.drewN (nq + 1)
                have h2 := h1.set_ hgB (by simpa [World.drewN] using hB5) (p + 1) y rfl
                have h3 := h2.set_ hgB (by simpa [World.drewN, World.setCell] using hB5) p f rfl
                have el := swapF P' S y f
                rw [HP.out] at el
                rw [el] at h3
                have e2 : (P' ++ f :: y :: S).length = n := by
                  have h1 := HXN.out
                  simp at h1 ⊢
                  omega
                rw [e2] at h3
                refine ⟨P', y :: S, by rw [HRS.out]; simp, by rw [HP.out], ⟨fun z hz => ?_⟩, h3, ?_⟩
                · rcases List.mem_cons.1 hz with rfl | h5
                  · exact HY.out
                  · exact HS.out z h5
                · rw [cell_other _ _ _ (Ne.symm hgF), cell_other _ _ _ (Ne.symm hgF), cell_other _ _ _ (Ne.symm hgF), cell_other _ _ _ (Ne.symm hgF)]
                  exact e5
              case measure => simp [intOf]
            · have t2 : (Op.bytesLess y.1.toList f.1.toList || y.1.toList == f.1.toList) = true := by rw [less_flip, klt_less_no hy]; rfl
              have HY : Kq (¬ klt f y) := ⟨hy⟩
              clear hy
              have q0 : (0 : Int) < (p : Int) + 1 := by omega
              go_wp2_with fail
              go_quiet (fail)
              go_wp2
              go_roundw
              case rel =>
                refine ⟨k + 1, _, by omega, by go_num, HROW5.out.drewN _, ⟨HOUT.out (fun p h => ?_)⟩, HLEN⟩
                simp at h
                rw [← h]
                exact HY.out
              case measure => simp [intOf]; omega
      · have t1 := isEmpty_no he
        have HJ2 : Kq (IsJoin A (L.take (k + 1)) O) := ⟨HKEEP.out k f O HF.out HJ.out (by rw [hu]; exact he)⟩
        clear he hu
        go_wp2
        go_roundw
        case rel => exact ⟨k + 1, O, by omega, by go_num, HROW3.out, HJ2, ⟨by have := HL.out; omega⟩⟩
        case measure => simp [intOf]; omega
    · have hkl : k = L.length := by omega
      have HJ2 : Kq (IsJoin A L O) := ⟨by have h1 := HJ.out; rw [hkl, List.take_of_length_le (Nat.le_refl _)] at h1; exact h1⟩
      clear hkl
      go_wp2
      go_ret
      exact ⟨⟨_, _, rfl, HROW.out.rl, HJ2.out⟩, HROW.out.bel⟩
theorem run_append_none (i0 : TypeInfo) (hi : Tryd.prog.info? 70 = some i0) (w : World) (g c : Nat) :
    (Builtin.append_ #[35, 35] 35 #[.slice (some ⟨g, 0, none⟩) 0 0, .slice none 0 c]).run Tryd.prog w = .ok (.slice (some ⟨g, 0, none⟩) 0 0) w := by
  simp [Builtin.append_, run_underlying Tryd.underlying35, sizeOf, typeInfo, hi, Builtin.lenOf, Builtin.firstCells, loadCells, loadCellsFrom]
  rfl
set_option maxRecDepth 100000 in
set_option maxHeartbeats 4000000 in
theorem rmerged_nil (cap0 : Nat) (vb : Value) (A L : List FB) (hA0 : A = []) (w : World) (ha : RL w (.slice none 0 cap0) A) (h : RL w vb L) (hA : Strict A) (hFA : Full A) (hL : Strict L) (hag : ∀ f ∈ A, ∀ g ∈ L, f.1 = g.1 → f.2 = g.2) (hn : A.length + L.length ≤ 100000) :
    Calls Tryd.prog 67 #[.slice none 0 cap0, vb] w fun e w' => (∃ v O, e = .returned v ∧ RL w' v O ∧ IsJoin A L O) ∧ Below w.heap.size w w' := by
  have H1 : Kq (∀ W key, Below w.heap.size w W → _) := ⟨fun W key hW => rvalue_any _ A key W (ha.below hW) (by unfold maxLen; omega)⟩
  have HKEEP : Kq (∀ k f O, L[k]? = some f → IsJoin A (L.take k) O → rval A f.1 ≠ ⟨#[]⟩ → IsJoin A (L.take (k + 1)) O) := ⟨fun k f O hf hO hv => by
    rw [take_next hf]
    exact merge_keep hO (strict_fun hA) hFA (fun a ha e => hag a ha f (List.mem_of_getElem? hf) e) hv⟩
  have HNEW : Kq (∀ k f O, L[k]? = some f → IsJoin A (L.take k) O → rval A f.1 = ⟨#[]⟩ → ∀ g ∈ O, g.1 ≠ f.1) := ⟨fun k f O hf hO hv => merge_new hO hFA hv (take_key hL hf)⟩
  have HPUT : Kq (∀ k f P S, L[k]? = some f → IsJoin A (L.take k) (P ++ S) → (∀ p, P.getLast? = some p → ¬ klt f p) → (∀ s ∈ S, klt f s) → (∀ g ∈ P ++ S, g.1 ≠ f.1) → IsJoin A (L.take (k + 1)) (P ++ f :: S)) := ⟨fun k f P S hf hO h1 h2 h3 => by
    rw [take_next hf]
    exact merge_put hO h1 h2 h3⟩
  have HST : Kq (IsJoin A [] A) := ⟨merge_start hA⟩
  obtain ⟨g, cap, rfl, hc⟩ := h
  have HC := Lib.hid hc
  obtain ⟨i0, hi, hz0, hz1, hz2⟩ := info_parts info_field
  have HI := Lib.hid hi
  have HZ0 := Lib.hid hz0
  have HZ1 := Lib.hid hz1
  have HZ2 := Lib.hid hz2
  clear hi hz0 hz1 hz2 hc ha hA hFA hL hag
  have HROW1 : Kq (RowF w.heap.size w (w.alloc (.cells #[] 70)) (.slice (some ⟨w.heap.size, 0, none⟩) 0 0) A) := ⟨by
    rw [hA0]
    exact ⟨World.ownsRow_lit w #[] 0 (Nat.le_refl _) (by unfold maxLen; omega) rfl, (Below.refl _ w).alloc (Nat.le_refl _) _⟩⟩
  have hap := run_append_none i0 HI.out (w.alloc (.cells #[] 70)) w.heap.size cap0
  clear hA0
  go_enter Tryd.func67, Tryd.ntmps67
  go_wp2_with fail
  clear hap
  go_loopw [14, 5] (fun i v wr => ∃ (k : Nat) (O : List FB), k ≤ L.length ∧ i = .int .i64 (k : Int) ∧ RowF w.heap.size w wr v O ∧ Kq (IsJoin A (L.take k) O) ∧ Kq (O.length ≤ A.length + k)) (fun i _ _ => L.length - (intOf i).toNat)
  case atStart => exact ⟨0, A, Nat.zero_le _, rfl, HROW1.out, HST, ⟨Nat.le_refl _⟩⟩
  case round =>
    obtain ⟨k, O, hk, rfl, hrow, HJ, HL⟩ := hrel
    clear HROW1
    have HROW := Lib.hid hrow
    have hz := hrow.bel.size
    obtain ⟨ga, co, rfl⟩ := hrow.rl.shape
    clear hrow
    obtain ⟨W0, rfl⟩ : ∃ W0, W0 = wr := ⟨_, rfl⟩
    by_cases hlt : k < L.length
    · obtain ⟨f, hf⟩ : ∃ f, L[k]? = some f := ⟨L[k], List.getElem?_eq_getElem hlt⟩
      obtain ⟨b, o, hg, hbl, hb1, hb2⟩ := HC.out k f hf
      subst hg
      have c1 : W0.cell? ⟨b, o + k * 2, none⟩ = some (.string f.1) := (HROW.out.bel.cell (p := ⟨b, _, none⟩) hbl).trans hb1
      have c2 : W0.cell? ⟨b, o + k * 2 + 1, none⟩ = some (.string f.2) := (HROW.out.bel.cell (p := ⟨b, _, none⟩) hbl).trans hb2
      have HBA : Kq (Below w.heap.size w (W0.alloc (Obj.cells #[Value.string f.1, Value.string f.2] 70))) := ⟨HROW.out.bel.alloc hz _⟩
      have HROWA : Kq (RowF w.heap.size w (W0.alloc (Obj.cells #[Value.string f.1, Value.string f.2] 70)) (.slice ga O.length co) O) := ⟨HROW.out.next ((Below.refl _ W0).alloc (Nat.le_refl _) _) hz⟩
      have HF : Kq (L[k]? = some f) := ⟨hf⟩
      have hOl : O.length ≤ 100000 := by have := HL.out; omega
      have HFAR : Kq (∀ j, (Value.slice ga O.length co).ownBlock = some j → j < W0.heap.size) := ⟨fun j e => (HROW.out.own.lt j e).2⟩
      clear hb1 hb2 hf
      go_wp2_with fail
      refine (H1.out _ _ HBA.out).mono ?_
      rintro e w3 ⟨rfl, hb3⟩
      have HROW3 : Kq (RowF w.heap.size w w3 (.slice ga O.length co) O) := ⟨HROWA.out.next hb3 (by simp; omega)⟩
      have hz3 : W0.heap.size + 1 ≤ w3.heap.size := by have := hb3.size; simpa using this
      have d1 : w3.cell? ⟨W0.heap.size, 0, none⟩ = some (.string f.1) := (hb3.cell (p := ⟨W0.heap.size, 0, none⟩) (by simp)).trans (by simp [go_sem])
      have d2 : w3.cell? ⟨W0.heap.size, 1, none⟩ = some (.string f.2) := (hb3.cell (p := ⟨W0.heap.size, 1, none⟩) (by simp)).trans (by simp [go_sem])
      clear hb3 HROWA HROW
      obtain ⟨u, hu⟩ : ∃ u, rval A f.1 = u := ⟨_, rfl⟩
      rw [hu]
      by_cases he : u = ⟨#[]⟩
      · have HN : Kq (∀ g ∈ O, g.1 ≠ f.1) := ⟨HNEW.out k f O HF.out HJ.out (hu.trans he)⟩
        subst he
        have t1 := isEmpty_yes
        have hown := HROW3.out.own
        have hbel3 := HROW3.out.bel
        have hc5 : O.length + 1 ≤ maxLen := by unfold maxLen; omega
        have hc6 : (O.length + 1) * 32 ≤ 140737488355328 := by omega
        have hnew : Kq ((w3.alloc (Obj.cells #[Value.string f.1, Value.string f.2] 70)).heap[w3.heap.size]? = some (Obj.cells #[Value.string f.1, Value.string f.2] 70)) := ⟨heap_alloc_new _ _⟩
        clear hu c1 c2
        go_wp2_with (at_builtin; refine wpList_append_lies _ rfl _ _ 35 rfl w.heap.size 70 i0 (.agg #[.string ⟨#[]⟩, .string ⟨#[]⟩]) 2 32 Tryd.underlying35 HI.out HZ0.out HZ1.out HZ2.out rfl (by decide) _ _ _ rfl (hown.alloc _) ⟨w3.heap.size, 0, none⟩ 1 1 [.string f.1, .string f.2] rfl rfl (World.news_of_block (cs := #[.string f.1, .string f.2]) hnew.out) (by simp [Value.oneCell']) (by decide) hc5 hc6 (by simp; omega) (w3.heap.size + 1) (by simp) ?_; intro g' c' w4 hown' hgrow' hlies hg4)
        have HGR : Kq ((w3.alloc (Obj.cells #[Value.string f.1, Value.string f.2] 70)).grownBy w4 (Value.ownBlock (.slice ga O.length co))) := ⟨hgrow'⟩
        have HLI : Kq (Value.ownBlock (.slice ga O.length co) = some g' ∨ g' = w3.heap.size + 1) := ⟨hlies⟩
        clear hgrow' hlies
        have hlt3 := hown.lt
        have HROW4 : Kq (RowF w.heap.size w w4 (.slice (some ⟨g', 0, none⟩) (O.length + 1) c') (O ++ [f])) := ⟨⟨by rw [cellsL_append]; simpa [cellsL] using hown', (hbel3.alloc (by omega) _).grown HGR.out (by simp; omega) (fun j e => (hlt3 j e).1)⟩⟩
        have e1 : w4.cell? ⟨W0.heap.size, 0, none⟩ = some (.string f.1) := by
          refine (HGR.out.cell_far ⟨W0.heap.size, 0, none⟩ (by simp; omega) ?_).trans (Lib.cell?_alloc_some _ d1)
          intro e
          have := HFAR.out _ e.symm
          simp at this
        have hgF : W0.heap.size ≠ g' := by
          rcases HLI.out with h5 | h5
          · have := HFAR.out _ h5
            omega
          · omega
        obtain ⟨n, hn1⟩ : ∃ n, O.length + 1 = n := ⟨_, rfl⟩
        rw [hn1] at HROW4 ⊢
        have HN1 : Kq (O.length + 1 = n) := ⟨hn1⟩
        have hn2 : n ≤ 100001 := by omega
        have hgB : w.heap.size ≤ g' := by
          have := hown'.lt g' rfl
          exact this.1
        clear hn1 hown' hown hlt3 hbel3 HGR HLI d1 d2 hnew HROW3
        go_wp2_with fail
        go_loopw [8] (fun a wr => ∃ P S : List FB, O = P ++ S ∧ a = .int .i64 ((P.length : Nat) : Int) ∧ Kq (∀ s ∈ S, klt f s) ∧ RowF w.heap.size w wr (.slice (some ⟨g', 0, none⟩) n c') (P ++ f :: S) ∧ wr.cell? ⟨W0.heap.size, 0, none⟩ = some (.string f.1)) (fun a _ => (intOf a).toNat)
        case atStart => exact ⟨O, [], by simp, rfl, ⟨fun s h => by cases h⟩, HROW4.out, e1⟩
        case round =>
          clear HROW4 e1
          obtain ⟨P, S, hrs, rfl, HS, hrow5, e5⟩ := hrel
          obtain ⟨wk, rfl⟩ : ∃ wk : World, wk = wr := ⟨_, rfl⟩
          have HROW5 := Lib.hid hrow5
          have HRS := Lib.hid hrs
          clear hrs hrow5
          have HXN : Kq ((P ++ f :: S).length = n) := ⟨by rw [← HN1.out, HRS.out]; simp; omega⟩
          have hB5 := HROW5.out.bel.size
          have HOUT : Kq ((∀ p, P.getLast? = some p → ¬ klt f p) → IsJoin A (L.take (k + 1)) (P ++ f :: S)) := ⟨fun h1 => HPUT.out k f P S HF.out (by rw [← HRS.out]; exact HJ.out) h1 HS.out (by rw [← HRS.out]; exact HN.out)⟩
          have HLEN : Kq ((P ++ f :: S).length ≤ A.length + (k + 1)) := ⟨by rw [HXN.out, ← HN1.out]; have := HL.out; omega⟩
          rcases List.eq_nil_or_concat P with rfl | ⟨P', y, rfl⟩
          · rw [show (([] : List FB).length : Int) = 0 from rfl]
            go_wp2_with fail
            go_quiet (fail)
            go_wp2
            go_roundw
            case rel => exact ⟨k + 1, _, by omega, by go_num, HROW5.out.drewN _, ⟨HOUT.out (fun p h => by cases h)⟩, HLEN⟩
            case measure => simp [intOf]; omega
          · have HR' : Kq (RowF w.heap.size w wk (.slice (some ⟨g', 0, none⟩) (P' ++ [y] ++ f :: S).length c') (P' ++ [y] ++ f :: S)) := ⟨by
              have h1 := HXN.out
              simp only [List.concat_eq_append] at h1
              rw [h1]
              simpa using HROW5.out⟩
            obtain ⟨m1, m2⟩ := midF P' S y f
            obtain ⟨c1, c2⟩ := HR'.out.cell m1
            obtain ⟨c3, c4⟩ := HR'.out.cell m2
            have f1 := HR'.out.froz (P'.length * 2)
            have f2 := HR'.out.froz (P'.length * 2 + 1)
            have f3 := HR'.out.froz ((P'.length + 1) * 2)
            have f4 := HR'.out.froz ((P'.length + 1) * 2 + 1)
            have hpn : P'.length + 1 < n := by
              have h1 := HXN.out
              simp at h1
              omega
            rw [show ((P'.concat y).length : Int) = (P'.length : Int) + 1 by simp]
            obtain ⟨p, hp⟩ : ∃ p, P'.length = p := ⟨_, rfl⟩
            rw [hp] at c1 c2 c3 c4 f1 f2 f3 f4 hpn ⊢
            have HP := Lib.hid hp
            clear hp m1 m2
            have o1 : (p : Int) + 1 < (n : Int) := by omega
            have o2 : (0 : Int) ≤ (p : Int) + 1 := by omega
            by_cases hy : klt f y
            · have t2 : (Op.bytesLess y.1.toList f.1.toList || y.1.toList == f.1.toList) = false := by rw [less_flip, klt_less.2 hy]; rfl
              have HY : Kq (klt f y) := ⟨hy⟩
              clear hy
              have q0 : (0 : Int) < (p : Int) + 1 := by omega
              go_wp2_with fail
              go_quiet (fail)
              go_wp2_with fail
              go_region
              go_wp2
              go_roundw
              case rel =>
                have h1 := HR'.out.drewN (nq + 1)
                have h2 := h1.set_ hgB (by simpa [World.drewN] using hB5) (p + 1) y rfl
                have h3 := h2.set_ hgB (by simpa [World.drewN, World.setCell] using hB5) p f rfl
                have el := swapF P' S y f
                rw [HP.out] at el
                rw [el] at h3
                have e2 : (P' ++ f :: y :: S).length = n := by
                  have h1 := HXN.out
                  simp at h1 ⊢
                  omega
                rw [e2] at h3
                refine ⟨P', y :: S, by rw [HRS.out]; simp, by rw [HP.out], ⟨fun z hz => ?_⟩, h3, ?_⟩
                · rcases List.mem_cons.1 hz with rfl | h5
                  · exact HY.out
                  · exact HS.out z h5
                · rw [cell_other _ _ _ (Ne.symm hgF), cell_other _ _ _ (Ne.symm hgF), cell_other _ _ _ (Ne.symm hgF), cell_other _ _ _ (Ne.symm hgF)]
                  exact e5
              case measure => simp [intOf]
            · have t2 : (Op.bytesLess y.1.toList f.1.toList || y.1.toList == f.1.toList) = true := by rw [less_flip, klt_less_no hy]; rfl
              have HY : Kq (¬ klt f y) := ⟨hy⟩
              clear hy
              have q0 : (0 : Int) < (p : Int) + 1 := by omega
              go_wp2_with fail
              go_quiet (fail)
              go_wp2
              go_roundw
              case rel =>
                refine ⟨k + 1, _, by omega, by go_num, HROW5.out.drewN _, ⟨HOUT.out (fun p h => ?_)⟩, HLEN⟩
                simp at h
                rw [← h]
                exact HY.out
              case measure => simp [intOf]; omega
      · have t1 := isEmpty_no he
        have HJ2 : Kq (IsJoin A (L.take (k + 1)) O) := ⟨HKEEP.out k f O HF.out HJ.out (by rw [hu]; exact he)⟩
        clear he hu
        go_wp2
        go_roundw
        case rel => exact ⟨k + 1, O, by omega, by go_num, HROW3.out, HJ2, ⟨by have := HL.out; omega⟩⟩
        case measure => simp [intOf]; omega
    · have hkl : k = L.length := by omega
      have HJ2 : Kq (IsJoin A L O) := ⟨by have h1 := HJ.out; rw [hkl, List.take_of_length_le (Nat.le_refl _)] at h1; exact h1⟩
      clear hkl
      go_wp2
      go_ret
      exact ⟨⟨_, _, rfl, HROW.out.rl, HJ2.out⟩, HROW.out.bel⟩
theorem rmerged_any (va vb : Value) (A L : List FB) (w : World) (ha : RL w va A) (h : RL w vb L) (hA : Strict A) (hFA : Full A) (hL : Strict L) (hag : ∀ f ∈ A, ∀ g ∈ L, f.1 = g.1 → f.2 = g.2) (hn : A.length + L.length ≤ 100000) :
    Calls Tryd.prog 67 #[va, vb] w fun e w' => (∃ v O, e = .returned v ∧ RL w' v O ∧ IsJoin A L O) ∧ Below w.heap.size w w' := by
  have ha' := ha
  obtain ⟨g, cap, rfl, hc⟩ := ha
  cases g with
  | none =>
    have hA0 : A = [] := by
      cases A with
      | nil => rfl
      | cons f A =>
        obtain ⟨b, o, hg, _⟩ := hc 0 f rfl
        cases hg
    have hl : A.length = 0 := by rw [hA0]; rfl
    rw [hl] at ha' ⊢
    exact rmerged_nil cap vb A L hA0 w ha' h hA hFA hL hag hn
  | some ad =>
    refine rmerged_some ad cap vb A L w ha' (fun j u hu => ?_) h hA hFA hL hag hn
    have hj : j < (cellsL A).length := (List.getElem?_eq_some_iff.1 hu).1
    rw [cellsL_len] at hj
    obtain ⟨f, hf⟩ : ∃ f, A[0]? = some f := ⟨A[0], List.getElem?_eq_getElem (by omega)⟩
    obtain ⟨b, o, hg, _⟩ := hc 0 f hf
    simp only [Option.some.injEq] at hg
    subst hg
    exact cells_of_label (fun i f hf => by
      obtain ⟨b1, o1, hg, _, h1, h2⟩ := hc i f hf
      simp only [Option.some.injEq, Addr.mk.injEq, and_true] at hg
      rw [hg.1, hg.2]
      exact ⟨h1, h2⟩) j u hu
end Go.Proofs.YtjdcdakedoljbaaDoor.Mk
