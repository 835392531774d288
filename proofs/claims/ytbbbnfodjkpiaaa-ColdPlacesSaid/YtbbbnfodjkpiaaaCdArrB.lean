/-
  WALKS (layer 4, cold): the iterator over the hours at which boxes come, with how many are there.
-/
import Derived.Test.YtbbbnfodjkpiaaaCdArr
namespace Go.Proofs.Ytbbbnfodjkpiaaa.Cd
open Go Go.RowKit Go.Sort

set_option maxRecDepth 100000 in
set_option maxHeartbeats 2000000 in
theorem arrivals_yields1 (n : Nat) (_hn : 1 ≤ n) (Al Am b o c : Nat) (l : List Bx) (w : World) (hv : boxesB l = true) (hs : BS w (.slice (some ⟨b, o, none⟩) l.length c) l) (hb : b < w.heap.size) (hA : w.cell? ⟨Al, 0, none⟩ = some (.slice (some ⟨b, o, none⟩) l.length c)) (hM : w.cell? ⟨Am, 0, none⟩ = some (.func (.func 71) #[] #[])) :
    YieldsS encA Fence.wide n Try.prog 85 #[.pointer (some ⟨Al, 0, none⟩), .pointer (some ⟨Am, 0, none⟩)] (Keep4 (S3 Al Am b)) (arrs oneQ l) w := by
  intro lp J Jx W hW hsz hJ hJx hY h0
  have hAl := World.block_lt_of_cell? _ _ hA
  have hMl := World.block_lt_of_cell? _ _ hM
  have cA : W.cell? ⟨Al, 0, none⟩ = some (.slice (some ⟨b, o, none⟩) l.length c) := (hW.cell (p := ⟨Al, 0, none⟩) hAl).trans hA
  have cM : W.cell? ⟨Am, 0, none⟩ = some (.func (.func 71) #[] #[]) := (hW.cell (p := ⟨Am, 0, none⟩) hMl).trans hM
  have HC : Kp (∀ (i : Nat) (s : Bx), l[i]? = some s → b < W.heap.size ∧ W.cell? ⟨b, o + i * 3, none⟩ = some (.int .i64 s.f) ∧ W.cell? ⟨b, o + i * 3 + 1, none⟩ = some (.int .i64 s.t) ∧ W.cell? ⟨b, o + i * 3 + 2, none⟩ = some (.int .i64 s.s)) := ⟨by
    intro i s h
    obtain ⟨g', c', e', -, hi⟩ := hs
    cases e'
    obtain ⟨b', o', hg, hb', h1, h2, h3⟩ := hi i s h
    simp only [Option.some.injEq, Addr.mk.injEq, and_true] at hg
    obtain ⟨rfl, rfl⟩ := hg
    exact ⟨Nat.lt_of_lt_of_le hb hW.size, (hW.cell (p := ⟨b, _, none⟩) hb).trans h1, (hW.cell (p := ⟨b, _, none⟩) hb).trans h2, (hW.cell (p := ⟨b, _, none⟩) hb).trans h3⟩⟩
  have hl60 := (boxes_iff.1 hv).1
  obtain ⟨i0, hi0, hz0, hz1', hz2⟩ := info_parts info_int
  have HI := Kp.mk hi0
  have HZ0 := Kp.mk hz0
  have HZ1 := Kp.mk hz1'
  have HZ2 := Kp.mk hz2
  have HJ0 := Kp.mk h0
  have HJK := Kp.mk hJ
  have HJX := Kp.mk hJx
  have HYY := Kp.mk hY
  have HWS := Kp.mk hsz
  have HWB := Kp.mk hW
  have HCA := Kp.mk cA
  have HCM := Kp.mk cM
  have HVB := Kp.mk hv
  have HBS := Kp.mk hs
  have HBL := Kp.mk hb
  clear hi0 hz0 hz1' hz2 h0 hJ hJx hY hsz hW hv hs hb hA hM
  refine callsIn_of_wp Try.func85 rfl trivial ?_ rfl
  simp only [Try.ntmps85, List.size_toArray, List.length_cons, List.length_nil, Nat.reduceAdd, Nat.reduceSub, Array.replicate_succ, Array.replicate_zero, List.push_toArray, List.append_toArray, List.nil_append, List.cons_append]
  gi_wp2
  clear cA cM
  refine wpIn_wide.2 ?_
  have HO0 : Kp (OwnI W W.heap.size (.slice none 0 0) ((l.take 0).map (·.f))) := ⟨OwnI.nil _ _⟩
  go_loopw [4, 11] (fun v i wr => ∃ k : Nat, k ≤ l.length ∧ i = .int .i64 k ∧ Kp (OwnI wr W.heap.size v ((l.take k).map (·.f))) ∧ Kp (Below W.heap.size W wr)) (fun _ i _ => l.length - (intOf i).toNat)
  case atStart => exact ⟨0, Nat.zero_le _, rfl, HO0, ⟨Below.refl _ _⟩⟩
  case round =>
    clear HO0
    obtain ⟨k, hk, rfl, HO, HB⟩ := hrel
    by_cases hlt : k < l.length
    · obtain ⟨x, hx⟩ : ∃ x, l[k]? = some x := ⟨l[k], List.getElem?_eq_getElem hlt⟩
      obtain ⟨hbl, hc1, hc2, hc3⟩ := HC.out k x hx
      have hbr : b < wr.heap.size := Nat.lt_of_lt_of_le hbl HB.out.size
      have c1 : wr.cell? ⟨b, o + k * 3, none⟩ = some (.int .i64 x.f) := (HB.out.cell (p := ⟨b, _, none⟩) hbl).trans hc1
      have c2 : wr.cell? ⟨b, o + k * 3 + 1, none⟩ = some (.int .i64 x.t) := (HB.out.cell (p := ⟨b, _, none⟩) hbl).trans hc2
      have c3 : wr.cell? ⟨b, o + k * 3 + 2, none⟩ = some (.int .i64 x.s) := (HB.out.cell (p := ⟨b, _, none⟩) hbl).trans hc3
      have o1 : (k : Int) < (l.length : Int) := by omega
      have o4 : k ≤ 60 := by omega
      have hzw := HB.out.size
      have HSC : Kp ((l.take (k + 1)).map (·.f) = (l.take k).map (·.f) ++ [x.f]) := ⟨by
        obtain ⟨hk', e⟩ := List.getElem?_eq_some_iff.1 hx
        rw [List.take_succ_eq_append_getElem hk', List.map_append, e]; rfl⟩
      have HLE : Kp (((l.take k).map (·.f)).length = k) := ⟨by rw [List.length_map, List.length_take]; omega⟩
      obtain ⟨hs0, hhs⟩ : ∃ hs0, (l.take k).map (·.f) = hs0 := ⟨_, rfl⟩
      rw [hhs] at HO HSC HLE
      have HOX : Kp (OwnI ((wr.alloc (.cells #[.int .i64 x.f, .int .i64 x.t, .int .i64 x.s] 64)).alloc (.cells #[.int .i64 x.f] 3)) W.heap.size u4 hs0) := ⟨HO.out.on (((Below.refl _ _).alloc (Nat.le_refl _) _).alloc (by simp) _)⟩
      have HFX : Kp (Below W.heap.size W ((wr.alloc (.cells #[.int .i64 x.f, .int .i64 x.t, .int .i64 x.s] 64)).alloc (.cells #[.int .i64 x.f] 3))) := ⟨(HB.out.alloc (by omega) _).alloc (by rw [World.size_alloc]; omega) _⟩
      have HNW : Kp (∀ j u, ([Value.int .i64 x.f] : List Value)[j]? = some u → ((wr.alloc (.cells #[.int .i64 x.f, .int .i64 x.t, .int .i64 x.s] 64)).alloc (.cells #[.int .i64 x.f] 3)).cell? ((⟨wr.heap.size + 1, 0, none⟩ : Addr).add j) = some u) := ⟨newsI_one (by go_simp)⟩
      have HBS2 : Kp (W.heap.size ≤ ((wr.alloc (.cells #[.int .i64 x.f, .int .i64 x.t, .int .i64 x.s] 64)).alloc (.cells #[.int .i64 x.f] 3)).heap.size) := ⟨by rw [World.size_alloc, World.size_alloc]; omega⟩
      have HEND : Kp (∀ w6 gb cap, w6.ownsRow W.heap.size 3 1 (.slice (some ⟨gb, 0, none⟩) (hs0.length + 1) cap) (hs0.length + 1) (hs0.map (.int .i64 ·) ++ [.int .i64 x.f]) → ((wr.alloc (.cells #[.int .i64 x.f, .int .i64 x.t, .int .i64 x.s] 64)).alloc (.cells #[.int .i64 x.f] 3)).grownBy w6 u4.ownBlock → OwnI w6 W.heap.size (.slice (some ⟨gb, 0, none⟩) (hs0.length + 1) cap) ((l.take (k + 1)).map (·.f)) ∧ Below W.heap.size W w6) := ⟨fun w6 gb cap h1 h2 => ⟨by
        rw [HSC.out]; exact OwnI.more h1, HFX.out.grown h2 HBS2.out (fun j hj => (HOX.out.lt j hj).1)⟩⟩
      have HOY : Kp (((wr.alloc (.cells #[.int .i64 x.f, .int .i64 x.t, .int .i64 x.s] 64)).alloc (.cells #[.int .i64 x.f] 3)).ownsRow W.heap.size 3 1 u4 k (hs0.map (.int .i64 ·))) := ⟨by have h3 := HOX.out; unfold OwnI at h3; rw [HLE.out] at h3; exact h3⟩
      rw [HLE.out] at HEND
      clear hx hc1 hc2 hc3 hbl HSC HLE HOX HFX HO hhs
      go_wp2_with (first | (at_builtin; refine wpList_append_lies _ rfl _ _ 52 rfl W.heap.size 3 i0 (.int .i64 0) 1 8 Try.underlying52 HI.out HZ0.out HZ1.out HZ2.out rfl (by decide) _ k (hs0.map (.int .i64 ·)) rfl HOY.out ⟨wr.heap.size + 1, 0, none⟩ 1 1 [.int .i64 x.f] rfl rfl HNW.out (ints_one [x.f]) (by decide) (by unfold maxLen; omega) (by omega) HBS2.out _ rfl ?_; intro gb cap w6 hown6 hgrow6 hl6 hlt6))
      go_roundw
      case rel => exact ⟨k + 1, by omega, by go_num, ⟨(HEND.out w6 gb cap hown6 hgrow6).1⟩, ⟨(HEND.out w6 gb cap hown6 hgrow6).2⟩⟩
      case measure => simp [intOf]; omega
    · have hkl : k = l.length := by omega
      have HOF : Kp (OwnI wr W.heap.size u4 (l.map (·.f))) := ⟨by have h3 := HO.out; rw [hkl, List.take_length] at h3; exact h3⟩
      obtain ⟨pp, cap, hu⟩ := HOF.out.shape
      rw [List.length_map] at hu
      subst hu
      clear hkl HO
      go_wp2
      gi_wp2_with fail
      refine ⟨trivial, (callsIn_wide.2 (sort_own _ _ _ _ HOF.out (by rw [List.length_map]; omega) HB.out.size)).mono ?_⟩
      rintro en w5 ⟨rfl, hO5, hb5⟩
      have HO5 : Kp (OwnI w5 W.heap.size (.slice pp l.length cap) (comes l)) := ⟨hO5⟩
      have HB5 : Kp (Below W.heap.size W w5) := ⟨HB.out.trans hb5⟩
      have HJ5 : Kp (J ((arrs oneQ l).take 0) w5) := ⟨by rw [List.take_zero]; exact HJK.out [] W w5 none HJ0.out (grown_below HB5.out none) (fun r h => by cases h)⟩
      clear hO5 hb5 HB HOF HC
      have hcl := comes_len l
      gi_wp2
      gi_loopw [25] (fun a wr => ∃ k : Nat, k ≤ l.length ∧ a = .int .i64 (k : Int) ∧ Kp (Keep4 (S3 Al Am b) W.heap.size w5 wr) ∧ J ((arrs oneQ l).take k) wr) (fun a _ => l.length - (intOf a).toNat)
      case atStart => exact ⟨0, by omega, rfl, ⟨Keep4.refl _ _ _⟩, HJ5.out⟩
      case round =>
        clear HJ5
        obtain ⟨k, hk, rfl, HK, hJk⟩ := hrel
        have HJk := Kp.mk hJk
        clear hJk
        have hAB : Al < W.heap.size := Nat.lt_of_lt_of_le hAl HWB.out.size
        have hMB : Am < W.heap.size := Nat.lt_of_lt_of_le hMl HWB.out.size
        have hbB : b < W.heap.size := Nat.lt_of_lt_of_le HBL.out HWB.out.size
        have cA : wr.cell? ⟨Al, 0, none⟩ = some (.slice (some ⟨b, o, none⟩) l.length c) := (World.cell?_of_block (a := ⟨Al, 0, none⟩) ((HK.out.same Al (.inl rfl)).trans (HB5.out.block Al hAB))).trans HCA.out
        have cM : wr.cell? ⟨Am, 0, none⟩ = some (.func (.func 71) #[] #[]) := (World.cell?_of_block (a := ⟨Am, 0, none⟩) ((HK.out.same Am (.inr (.inl rfl))).trans (HB5.out.block Am hMB))).trans HCM.out
        have lA := World.block_lt_of_cell? _ _ cA
        have lM := World.block_lt_of_cell? _ _ cM
        by_cases hlt : k < l.length
        · have o1 : (k : Int) < (l.length : Int) := by omega
          have o4 : k ≤ 60 := by omega
          obtain ⟨x, hx⟩ : ∃ x, (comes l)[k]? = some x := ⟨_, List.getElem?_eq_getElem (by omega)⟩
          obtain ⟨g, cap2, hu, hgB, hgl, hcell⟩ := (HO5.out.keep HK.out).at hx
          simp only [Value.slice.injEq] at hu
          obtain ⟨rfl, -, rfl⟩ := hu
          have HBSr : Kp (BS wr (.slice (some ⟨b, o, none⟩) l.length c) l) := ⟨HBS.out.same (Nat.le_trans HWB.out.size (Nat.le_trans HB5.out.size HK.out.size)) ((HK.out.same b (.inr (.inr rfl))).trans ((HB5.out.block b hbB).trans (HWB.out.block b HBL.out)))⟩
          gi_wp2_with fail
          refine ⟨trivial, (callsIn_wide.2 (sum_one _ l x wr HBSr.out HVB.out)).mono ?_⟩
          rintro en w6 ⟨rfl, hb6⟩
          have hJ6 : J ((arrs oneQ l).take k) w6 := HJK.out _ wr w6 none HJk.out (grown_below hb6 none) (fun r h => by cases h)
          have HK6 : Kp (Keep4 (S3 Al Am b) W.heap.size w5 w6) := ⟨HK.out.trans (Keep4.of_grown (grown_below hb6 none) (fun j hj => by rcases hj with rfl | rfl | rfl <;> have := HB5.out.size <;> have := HK.out.size <;> omega) (fun j _ e => by cases e) (fun j _ e => by cases e))⟩
          have HAS : Kp ((arrs oneQ l).take k ++ [(x, sumQ oneQ l x)] = (arrs oneQ l).take (k + 1)) := ⟨(arrs_succ hx).symm⟩
          obtain ⟨fn, tmps, assign, body, hy, hRd⟩ := HYY.out ((arrs oneQ l).take k) (x, sumQ oneQ l x) w6 hJ6 (by rw [HAS.out]; exact List.take_prefix _ _) (by have := hb6.size; omega)
          rw [HAS.out] at hRd
          simp only [encA] at hy
          clear hJ6 hx hcell hb6 cA cM
          gi_wp2
          refine hRd.mono ?_
          rintro en W3 (⟨rfl, hJ3, hk3⟩ | ⟨rfl, hx3⟩)
          · have HJ3 : Kp (J ((arrs oneQ l).take (k + 1)) W3) := ⟨hJ3⟩
            have HK3 : Kp (Keep4 (S3 Al Am b) W.heap.size w5 W3) := ⟨HK6.out.trans hk3⟩
            clear hk3 hJ3 hy hRd
            gi_wp2
            go_roundw
            case rel => exact ⟨k + 1, by omega, by go_num, HK3, HJ3.out⟩
            case measure => simp [intOf]; omega
          · have HX : Kp (Jx ((arrs oneQ l).take (k + 1)) W3) := ⟨hx3⟩
            have HP : Kp ((arrs oneQ l).take (k + 1) <+: arrs oneQ l) := ⟨List.take_prefix _ _⟩
            clear hx3 hy hRd
            gi_wp2
            exact bodyPost_ret (results_none rfl _ _ _) rfl ⟨⟨_, rfl⟩, .inr ⟨_, HP.out, HX.out⟩⟩
        · have hkm : k = l.length := by omega
          have HJF : Kp (J (arrs oneQ l) wr) := ⟨by have h := HJk.out; rw [hkm, ← arrs_len oneQ l, List.take_length] at h; exact h⟩
          clear hkm cA cM
          gi_wp2
          go_end0
          exact ⟨⟨_, rfl⟩, .inl HJF.out⟩
end Go.Proofs.Ytbbbnfodjkpiaaa.Cd
