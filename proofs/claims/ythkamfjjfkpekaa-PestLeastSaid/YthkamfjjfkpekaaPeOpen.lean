/-
  WALKS (layer 8, pest): the doors that are not sealed.
-/
import Derived.Test.YthkamfjjfkpekaaPeOwnD
import Derived.Test.YthkamfjjfkpekaaShelf
namespace Go.Proofs.Ythkamfjjfkpekaa.Pe
open Go Go.RowKit Go.Sort

/-- Of the first doors those that are not sealed. -/
def openF (ds : List Dr) (sl : List Int) : Nat → List Dr
  | 0 => []
  | k + 1 => openF ds sl k ++ if sl.contains (k : Int) then [] else [ds.getD k default]
theorem openF_len (ds : List Dr) (sl : List Int) : ∀ k : Nat, (openF ds sl k).length ≤ k
  | 0 => Nat.le_refl _
  | k + 1 => by
    have := openF_len ds sl k
    unfold openF
    rw [List.length_append]
    split <;> simp <;> omega
theorem openF_mem {ds : List Dr} {sl : List Int} {d : Dr} : ∀ k : Nat, k ≤ ds.length → d ∈ openF ds sl k → d ∈ ds
  | 0, _, h => by cases h
  | k + 1, hk, h => by
    unfold openF at h
    rcases List.mem_append.1 h with h | h
    · exact openF_mem k (by omega) h
    · split at h
      · cases h
      · rw [List.mem_singleton.1 h, List.getD_eq_getElem?_getD, List.getElem?_eq_getElem (by omega)]
        exact List.getElem_mem _
theorem contains_any (v : Value) (l : List Int) (x : Int) (w : World) (hv : IS w v l) (hl : l.length ≤ 9223372036854775807) : Calls Try.prog 90 #[v, .int .i64 x] w fun e w' => e = .returned (.bool (l.contains x)) ∧ w = w' := by
  obtain ⟨g, c, rfl, -, hi⟩ := hv
  cases l with
  | nil => exact (Try.slices_Contains_int_empty g c x w).mono fun e w' ⟨he, hw⟩ => ⟨he, hw.symm⟩
  | cons a l =>
    obtain ⟨b, o, rfl, -⟩ := hi 0 a rfl
    refine (Try.slices_Contains_int b o (a :: l).length c (a :: l) x w (Nat.le_refl _) hl (fun j hj => ?_)).mono fun e w' ⟨he, hw⟩ => ⟨by rw [he, List.take_length], hw.symm⟩
    obtain ⟨b', o', hg, hc⟩ := hi j _ (List.getElem?_eq_getElem hj)
    simp only [Option.some.injEq, Addr.mk.injEq, and_true] at hg
    obtain ⟨rfl, rfl⟩ := hg
    rw [hc, List.getD_eq_getElem?_getD, List.getElem?_eq_getElem hj]
    rfl
attribute [-go_sem] Builtin.append_
set_option maxRecDepth 100000 in
set_option maxHeartbeats 2000000 in
theorem open_any (R x y : Int) (v u : Value) (ds : List Dr) (sl : List Int) (w : World) (hv : DS w v ds) (hu : IS w u sl) (hl : ds.length ≤ 1000) (hsl : sl.length ≤ 9223372036854775807) :
    Calls Try.prog 53 #[.agg #[.int .i64 R, v, .int .i64 x, .int .i64 y], u] w fun e w' => ∃ r, e = .returned r ∧ (∃ B0, w.heap.size ≤ B0 ∧ OwnD w' B0 r (openF ds sl ds.length)) ∧ Below w.heap.size w w' := by
  have HCN : Kp (∀ W (k : Nat), Below w.heap.size w W → Calls Try.prog 90 #[u, .int .i64 (k : Nat)] W fun e w' => e = .returned (.bool (sl.contains (k : Int))) ∧ W = w') := ⟨fun W k hW => contains_any u sl k W (hu.below hW) hsl⟩
  obtain ⟨g, c, rfl, hi⟩ := hv
  obtain ⟨gu, cu, rfl, -⟩ := hu
  have HA := Kp.mk hi
  obtain ⟨N, hNN⟩ : ∃ N, ds.length = N := ⟨_, rfl⟩
  have HN := Kp.mk hNN
  have HLN := Kp.mk (openF_len ds sl)
  rw [hNN] at hl ⊢
  obtain ⟨NS, hNS⟩ : ∃ N, sl.length = N := ⟨_, rfl⟩
  rw [hNS] at HCN
  clear hi hNN hsl
  rw [hNS]
  clear hNS
  go_enter Try.func53, Try.ntmps53
  go_wp2
  obtain ⟨W1, hW1⟩ : ∃ W1, w.alloc (.cells #[.int .i64 R, .slice g N c, .int .i64 x, .int .i64 y] 24) = W1 := ⟨_, rfl⟩
  have HB1 : Kp (Below w.heap.size w W1) := ⟨by rw [← hW1]; exact (Below.refl _ _).alloc (Nat.le_refl _) _⟩
  have HO0 : Kp (OwnD W1 W1.heap.size (.slice none 0 0) (openF ds sl 0)) := ⟨OwnD.nil _ _⟩
  try rw [hW1]
  clear hW1
  go_loopw [5, 11] (fun v i wr => ∃ k : Nat, k ≤ N ∧ i = .int .i64 k ∧ Kp (OwnD wr W1.heap.size v (openF ds sl k)) ∧ Kp (Below W1.heap.size W1 wr)) (fun _ i _ => N - (intOf i).toNat)
  case atStart => exact ⟨0, Nat.zero_le _, rfl, HO0, ⟨Below.refl _ _⟩⟩
  case round =>
    clear HO0
    obtain ⟨k, hk, rfl, HO, HB⟩ := hrel
    by_cases hlt : k < N
    · obtain ⟨d, hx⟩ : ∃ d, ds[k]? = some d := ⟨_, List.getElem?_eq_getElem (by rw [HN.out]; exact hlt)⟩
      have hxd : ds.getD k default = d := by rw [List.getD_eq_getElem?_getD, hx]; rfl
      obtain ⟨b, o, hg, h1, h2, h3⟩ := HA.out k d hx
      subst hg
      have HBW := Kp.mk (HB1.out.trans (HB.out.mono HB1.out.size))
      obtain ⟨da, db, dc⟩ := d
      simp only at h1 h2 h3
      have hbl : b < w.heap.size := World.block_lt_of_cell? _ _ h1
      have c1 := (HBW.out.cell (p := ⟨b, o + k * 3, none⟩) hbl).trans h1
      have c2 := (HBW.out.cell (p := ⟨b, o + k * 3 + 1, none⟩) hbl).trans h2
      have c3 := (HBW.out.cell (p := ⟨b, o + k * 3 + 2, none⟩) hbl).trans h3
      have o1 : (k : Int) < (N : Int) := by omega
      have o4 : k ≤ 1000 := by omega
      have HST : Kp (openF ds sl (k + 1) = openF ds sl k ++ if sl.contains (k : Int) then [] else [⟨da, db, dc⟩]) := ⟨by rw [← hxd]; rfl⟩
      have HCK : Kp (∀ W, Below w.heap.size w W → Calls Try.prog 90 #[.slice gu NS cu, .int .i64 (k : Nat)] W fun e w' => e = .returned (.bool (sl.contains (k : Int))) ∧ W = w') := ⟨fun W hW => HCN.out W k hW⟩
      obtain ⟨C, hC⟩ : ∃ C, sl.contains (k : Int) = C := ⟨_, rfl⟩
      rw [hC] at HST HCK
      have hbz : Below wr.heap.size wr (wr.alloc (.cells #[.int .i64 da, .int .i64 db, .int .i64 dc] 48)) := (Below.refl _ _).alloc (Nat.le_refl _) _
      have HCV : Kp (Calls Try.prog 90 #[.slice gu NS cu, .int .i64 (k : Nat)] (wr.alloc (.cells #[.int .i64 da, .int .i64 db, .int .i64 dc] 48)) fun e w' => e = .returned (.bool C) ∧ (wr.alloc (.cells #[.int .i64 da, .int .i64 db, .int .i64 dc] 48)) = w') := ⟨HCK.out _ (HBW.out.trans (hbz.mono HBW.out.size))⟩
      have HBZ : Kp (Below W1.heap.size W1 (wr.alloc (.cells #[.int .i64 da, .int .i64 db, .int .i64 dc] 48))) := ⟨HB.out.trans (hbz.mono HB.out.size)⟩
      have HOZ := Kp.mk (HO.out.on hbz)
      have HFW : Kp ((openF ds sl k).length ≤ 100000) := ⟨by have := HLN.out k; omega⟩
      clear hx hxd h1 h2 h3 hbl hC HCK hbz
      go_wp2_with fail
      refine HCV.out.mono ?_
      rintro en w2 ⟨rfl, rfl⟩
      cases C with
      | true =>
        have HO2 : Kp (OwnD (wr.alloc (.cells #[.int .i64 da, .int .i64 db, .int .i64 dc] 48)) W1.heap.size u5 (openF ds sl (k + 1))) := ⟨by rw [HST.out, if_pos rfl, List.append_nil]; exact HOZ.out⟩
        go_wp2
        go_roundw
        case rel => exact ⟨k + 1, by omega, by go_num, HO2, HBZ⟩
        case measure => simp [intOf]; omega
      | false =>
        have HX2 : Kp (openF ds sl (k + 1) = openF ds sl k ++ [⟨da, db, dc⟩]) := ⟨by rw [HST.out, if_neg (by decide)]⟩
        obtain ⟨V, hV⟩ : ∃ V, wr.alloc (.cells #[.int .i64 da, .int .i64 db, .int .i64 dc] 48) = V := ⟨_, rfl⟩
        have q1 : V.cell? ⟨wr.heap.size, 0, none⟩ = some (.int .i64 da) := by subst hV; go_simp
        have q2 : V.cell? ⟨wr.heap.size, 1, none⟩ = some (.int .i64 db) := by subst hV; go_simp
        have q3 : V.cell? ⟨wr.heap.size, 2, none⟩ = some (.int .i64 dc) := by subst hV; go_simp
        rw [hV] at HBZ HOZ ⊢
        clear hV c1 c2 c3 HST HCV
        have hbz := (Below.refl V.heap.size V).alloc (Nat.le_refl _) (.cells #[.int .i64 da, .int .i64 db, .int .i64 dc] 48)
        have hx3 : DrAt (V.alloc (.cells #[.int .i64 da, .int .i64 db, .int .i64 dc] 48)) V.heap.size ⟨da, db, dc⟩ := ⟨by go_simp, by go_simp, by go_simp⟩
        obtain ⟨g5, c5, w5, hrun, hown, hgrow, hat⟩ := (HOZ.out.on hbz).next hx3 HFW.out (by have := HBZ.out.size; rw [World.size_alloc]; omega)
        have hbw : Below W1.heap.size W1 (V.alloc (.cells #[.int .i64 da, .int .i64 db, .int .i64 dc] 48)) := HBZ.out.trans (hbz.mono HBZ.out.size)
        have HB5 : Kp (Below W1.heap.size W1 w5) := ⟨hbw.grown hgrow hbw.size (fun j hj => ((HOZ.out.on hbz).lt j hj).1)⟩
        have HO5 : Kp (OwnD w5 W1.heap.size (.slice g5 ((openF ds sl k).length + 1) c5) (openF ds sl (k + 1))) := ⟨by rw [HX2.out]; exact hown⟩
        clear hown hgrow hat hbz hx3 hbw
        go_wp2
        go_roundw
        case rel => exact ⟨k + 1, by omega, by go_num, HO5, HB5⟩
        case measure => simp [intOf]; omega
    · have hkn : k = N := by omega
      subst hkn
      have o1 : ¬ (k : Int) < (k : Int) := by omega
      go_wp2
      go_ret
      exact ⟨_, rfl, ⟨W1.heap.size, HB1.out.size, HO.out⟩, HB1.out.trans (HB.out.mono HB1.out.size)⟩
theorem open_at {R : Nat} {ds : List Dr} (sl : List Int) (h : DoorsAt R ds) : DoorsAt R (openF ds sl ds.length) := fun d hd => h d (openF_mem _ (Nat.le_refl _) hd)
end Go.Proofs.Ythkamfjjfkpekaa.Pe
