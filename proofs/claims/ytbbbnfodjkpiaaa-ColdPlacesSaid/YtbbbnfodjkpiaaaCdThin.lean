/-
  WALKS (layer 4, cold): readings thinned and shifted.
-/
import Derived.Test.YtbbbnfodjkpiaaaCdRLong
import Derived.Test.YtbbbnfodjkpiaaaCdGrow
import Derived.Deep.AppendLies
namespace Go.Proofs.Ytbbbnfodjkpiaaa.Cd
open Go Go.RowKit Go.Sort

def thinU (l : List Rd) : Nat → List Rd
  | 0 => []
  | k + 1 => if k = 0 ∨ (l.getD (k - 1) ⟨0, 0⟩).t ≠ (l.getD k ⟨0, 0⟩).t then thinU l k ++ [l.getD k ⟨0, 0⟩] else thinU l k
theorem thinU_len (l : List Rd) (k : Nat) : (thinU l k).length ≤ k := by
  induction k with
  | zero => exact Nat.le_refl _
  | succ k ih =>
    unfold thinU
    split
    · rw [List.length_append]; simp only [List.length_cons, List.length_nil]; omega
    · omega
theorem thinU_new {l : List Rd} {k : Nat} {x : Rd} (hx : l[k]? = some x) (h : k = 0 ∨ ∃ y, l[k - 1]? = some y ∧ y.t ≠ x.t) : thinU l (k + 1) = thinU l k ++ [x] := by
  have e1 : l.getD k ⟨0, 0⟩ = x := by rw [List.getD_eq_getElem?_getD, hx]; rfl
  show (if _ then _ else _) = _
  rw [e1, if_pos]
  rcases h with h | ⟨y, hy, h⟩
  · exact .inl h
  · have e2 : l.getD (k - 1) ⟨0, 0⟩ = y := by rw [List.getD_eq_getElem?_getD, hy]; rfl
    rw [e2]; exact .inr h
theorem thinU_old {l : List Rd} {k : Nat} {x y : Rd} (hx : l[k]? = some x) (hk : k ≠ 0) (hy : l[k - 1]? = some y) (h : y.t = x.t) : thinU l (k + 1) = thinU l k := by
  have e1 : l.getD k ⟨0, 0⟩ = x := by rw [List.getD_eq_getElem?_getD, hx]; rfl
  have e2 : l.getD (k - 1) ⟨0, 0⟩ = y := by rw [List.getD_eq_getElem?_getD, hy]; rfl
  show (if _ then _ else _) = _
  rw [e1, e2, if_neg]
  intro hh
  rcases hh with hh | hh
  · exact hk hh
  · exact hh h
set_option maxRecDepth 100000 in
set_option maxHeartbeats 1000000 in
theorem Thinned_in (v : Value) (l : List Rd) (w : World) (hs : RS w v l) (h : readB l = true) :
    Calls Try.prog 29 #[v] w fun en w' => ∃ u, en = .returned (.tuple #[u, .int .i64 0]) ∧ RS w' u (thinU l l.length) ∧ Below w.heap.size w w' := by
  have HQ : Kp (∀ W, Below w.heap.size w W → Calls Try.prog 17 #[v] W fun en w' => en = .returned (.bool true) ∧ Below W.heap.size W w') := ⟨fun W hW => h ▸ ValidReadings_any v l W (hs.below hW)⟩
  obtain ⟨g, c, rfl, -, hi⟩ := hs
  have hl := read_len h
  have HS := Lib.hid hi
  obtain ⟨i0, hi0, hz0, hz1', hz2⟩ := info_parts info_read
  have HI := Kp.mk hi0
  have HZ0 := Kp.mk hz0
  have HZ1 := Kp.mk hz1'
  have HZ2 := Kp.mk hz2
  clear hi0 hz0 hz1' hz2 hi h
  go_enter Try.func29, Try.ntmps29
  go_wp2_with fail
  refine (HQ.out _ (by repeat (first | exact Below.refl _ _ | refine Below.alloc ?_ (by simp <;> omega) _ | refine bDrewN ?_ _ | refine Below.drew ?_))).mono ?_
  rintro en w1 ⟨rfl, hb1⟩
  have HB1 : Kp (Below w.heap.size w w1) := ⟨hb1⟩
  have HO0 : Kp (OwnD w1 w.heap.size (.slice none 0 0) (thinU l 0)) := ⟨OwnD.nil _ _⟩
  clear hb1
  go_wp2
  go_loopw [4, 12] (fun v i wr => ∃ k : Nat, k ≤ l.length ∧ i = .int .i64 k ∧ Kp (OwnD wr w.heap.size v (thinU l k)) ∧ Kp (Below w.heap.size w wr)) (fun _ i _ => l.length - (intOf i).toNat)
  case atStart => exact ⟨0, Nat.zero_le _, rfl, HO0, HB1⟩
  case round =>
    clear HO0
    obtain ⟨k, hk, rfl, HO, HB⟩ := hrel
    by_cases hlt : k < l.length
    · obtain ⟨x, hx⟩ : ∃ x, l[k]? = some x := ⟨_, List.getElem?_eq_getElem hlt⟩
      obtain ⟨b', o, hg, hbl, hc1, hc2⟩ := HS.out k x hx
      have hbr : b' < wr.heap.size := Nat.lt_of_lt_of_le hbl HB.out.size
      have c1 : wr.cell? ⟨b', o + k * 2, none⟩ = some (.int .i64 x.h) := (HB.out.cell (p := ⟨b', _, none⟩) hbl).trans hc1
      have c2 : wr.cell? ⟨b', o + k * 2 + 1, none⟩ = some (.int .i64 x.t) := (HB.out.cell (p := ⟨b', _, none⟩) hbl).trans hc2
      have o1 : (k : Int) < (l.length : Int) := by omega
      have o4 : k ≤ 200 := by omega
      have hzw := HB.out.size
      have HLE : Kp ((thinU l k).length ≤ k) := ⟨thinU_len l k⟩
      have e1 : (wr.alloc (.cells #[.int .i64 x.h, .int .i64 x.t] 59)).cell? ⟨wr.heap.size, 0, none⟩ = some (.int .i64 x.h) := by go_simp
      have e2 : (wr.alloc (.cells #[.int .i64 x.h, .int .i64 x.t] 59)).cell? ⟨wr.heap.size, 1, none⟩ = some (.int .i64 x.t) := by go_simp
      have r1 := fun d os => cell_regrown e1 d os
      have r2 := fun d os => cell_regrown e2 d os
      have HBR : Kp (∀ dq osq, Below wr.heap.size wr (grow (redrawn (wr.alloc (.cells #[.int .i64 x.h, .int .i64 x.t] 59)) dq) osq) ∧ (grow (redrawn (wr.alloc (.cells #[.int .i64 x.h, .int .i64 x.t] 59)) dq) osq).cell? ⟨wr.heap.size, 0, none⟩ = some (.int .i64 x.h) ∧ (grow (redrawn (wr.alloc (.cells #[.int .i64 x.h, .int .i64 x.t] 59)) dq) osq).cell? ⟨wr.heap.size, 1, none⟩ = some (.int .i64 x.t)) := ⟨fun d os => ⟨((Below.refl _ _).alloc (Nat.le_refl _) _).trans ((below_regrown _ d os).mono (by simp)), r1 d os, r2 d os⟩⟩
      by_cases hk0 : k = 0
      · have HSC : Kp (thinU l (k + 1) = thinU l k ++ [x]) := ⟨thinU_new hx (.inl hk0)⟩
        have i4 : ((k : Int) == 0) = true := by rw [beq_iff_eq]; omega
        have r3 : (0 : Int) = 0 := rfl
        subst hg
        clear hk0 e1 e2
        go_wp2
        refine wp_region_quiet_below (by kernel_rfl) (by kernel_rfl) ?_
        repeat (any_goals (first | go_big_quiet_step (fail) | quiet_step (fail)))
        refine wpQuiet_nil ?_
        intro _ hqw
        obtain ⟨⟨dq, osq⟩, hqv⟩ := hqw
        subst hqv
        obtain ⟨HBQ, HQ1, HQ2⟩ := HBR.out dq osq
        obtain ⟨wq, hwq⟩ : ∃ wq, grow (redrawn (wr.alloc (.cells #[.int .i64 x.h, .int .i64 x.t] 59)) dq) osq = wq := ⟨_, rfl⟩
        rw [hwq] at HBQ HQ1 HQ2 ⊢
        have HBW := Kp.mk HBQ
        clear hwq r1 r2 r3 HBQ HBR
        have hwl := HBW.out.size
        have HOX : Kp (OwnD (wq.alloc (.cells #[.int .i64 x.h, .int .i64 x.t] 59)) w.heap.size u4 (thinU l k)) := ⟨(HO.out.on HBW.out).on ((Below.refl _ _).alloc (Nat.le_refl _) _)⟩
        have HFX : Kp (Below w.heap.size w (wq.alloc (.cells #[.int .i64 x.h, .int .i64 x.t] 59))) := ⟨(HB.out.trans (HBW.out.mono hzw)).alloc (by omega) _⟩
        have HNW : Kp (∀ j u, (cellsD [x])[j]? = some u → (wq.alloc (.cells #[.int .i64 x.h, .int .i64 x.t] 59)).cell? ((⟨wq.heap.size, 0, none⟩ : Addr).add j) = some u) := ⟨newsD_one (by go_simp) (by go_simp)⟩
        have HBS : Kp (w.heap.size ≤ (wq.alloc (.cells #[.int .i64 x.h, .int .i64 x.t] 59)).heap.size) := ⟨by rw [World.size_alloc]; omega⟩
        have HEND : Kp (∀ w6 gb cap, w6.ownsRow w.heap.size 59 2 (.slice (some ⟨gb, 0, none⟩) ((thinU l k).length + 1) cap) ((thinU l k).length + 1) (cellsD (thinU l k) ++ cellsD [x]) → (wq.alloc (.cells #[.int .i64 x.h, .int .i64 x.t] 59)).grownBy w6 u4.ownBlock → OwnD w6 w.heap.size (.slice (some ⟨gb, 0, none⟩) ((thinU l k).length + 1) cap) (thinU l (k + 1)) ∧ Below w.heap.size w w6) := ⟨fun w6 gb cap h1 h2 => ⟨by
          rw [HSC.out]; exact OwnD.more h1, HFX.out.grown h2 HBS.out (fun j hj => (HOX.out.lt j hj).1)⟩⟩
        obtain ⟨N, hN⟩ : ∃ N, (thinU l k).length = N := ⟨_, rfl⟩
        have HOY : Kp ((wq.alloc (.cells #[.int .i64 x.h, .int .i64 x.t] 59)).ownsRow w.heap.size 59 2 u4 N (cellsD (thinU l k))) := ⟨by have h3 := HOX.out; unfold OwnD at h3; rw [hN] at h3; exact h3⟩
        have HNN := HLE.out
        rw [hN] at HEND HNN
        clear hx hc1 hc2 hbl HSC HLE HOX HFX HO hN c1 c2
        go_wp2_with (first | (at_builtin; refine wpList_append_lies _ rfl _ _ 22 rfl w.heap.size 59 i0 (.agg #[.int .i64 0, .int .i64 0]) 2 16 Try.underlying22 HI.out HZ0.out HZ1.out HZ2.out rfl (by decide) _ N (cellsD (thinU l k)) rfl HOY.out ⟨wq.heap.size, 0, none⟩ 1 1 (cellsD [x]) rfl rfl HNW.out (cellsD_one _) (by decide) (by unfold maxLen; omega) (by omega) HBS.out _ rfl ?_; intro gb cap w6 hown6 hgrow6 hl6 hlt6))
        go_roundw
        case rel => exact ⟨k + 1, by omega, by go_num, ⟨(HEND.out w6 gb cap hown6 hgrow6).1⟩, ⟨(HEND.out w6 gb cap hown6 hgrow6).2⟩⟩
        case measure => simp [intOf]; omega
      · obtain ⟨y, hy⟩ : ∃ y, l[k - 1]? = some y := ⟨_, List.getElem?_eq_getElem (by omega)⟩
        obtain ⟨b2, o2, hg2, hbl2, hd1, hd2⟩ := HS.out (k - 1) y hy
        obtain ⟨m, hm⟩ : ∃ m, k = m + 1 := ⟨k - 1, by omega⟩
        have hm1 : k - 1 = m := by omega
        rw [hm1] at hd1 hd2
        rw [hg] at hg2
        simp only [Option.some.injEq, Addr.mk.injEq, and_true] at hg2
        obtain ⟨rfl, rfl⟩ := hg2
        subst hg
        have d2 : wr.cell? ⟨b', o + m * 2 + 1, none⟩ = some (.int .i64 y.t) := (HB.out.cell (p := ⟨b', _, none⟩) hbl).trans hd2
        have o5 : (m : Int) < (l.length : Int) := by omega
        have i4 : ((k : Int) == 0) = false := by rw [beq_eq_false_iff_ne]; omega
        have i6 : ¬ ((k : Int) = 0) := by omega
        have i5 : IntKind.i64.wrap ((k : Int) - 1) = (m : Int) := by rw [show (k : Int) - 1 = m by omega]; exact IntWalk.i64_in _ (by omega)
        have e3 : (wr.alloc (.cells #[.int .i64 x.h, .int .i64 x.t] 59)).cell? ⟨b', o + m * 2 + 1, none⟩ = some (.int .i64 y.t) := Lib.cell?_alloc_some _ d2
        have r3 := fun d os => cell_regrown e3 d os
        clear hbl2 hd1 hd2 e1 e2 e3 d2 hm hm1
        by_cases hne : y.t = x.t
        · have HSC : Kp (thinU l (k + 1) = thinU l k) := ⟨thinU_old hx hk0 hy hne⟩
          go_wp2
          clear c1 c2
          refine wp_region_quiet_below (by kernel_rfl) (by kernel_rfl) ?_
          repeat (any_goals (first | go_big_quiet_step (fail) | quiet_step (fail)))
          refine wpQuiet_nil ?_
          intro _ hqw
          obtain ⟨⟨dq, osq⟩, hqv⟩ := hqw
          subst hqv
          obtain ⟨HBQ, HQ1, HQ2⟩ := HBR.out dq osq
          obtain ⟨wq, hwq⟩ : ∃ wq, grow (redrawn (wr.alloc (.cells #[.int .i64 x.h, .int .i64 x.t] 59)) dq) osq = wq := ⟨_, rfl⟩
          rw [hwq] at HBQ HQ1 HQ2 ⊢
          have HBW := Kp.mk HBQ
          clear hwq r1 r2 r3 HBQ HBR
          go_wp2
          go_roundw
          case rel => exact ⟨k + 1, by omega, by go_num, ⟨by rw [HSC.out]; exact HO.out.on HBW.out⟩, ⟨HB.out.trans (HBW.out.mono hzw)⟩⟩
          case measure => simp [intOf]; omega
        · have HSC : Kp (thinU l (k + 1) = thinU l k ++ [x]) := ⟨thinU_new hx (.inr ⟨y, hy, hne⟩)⟩
          have i7 : (y.t == x.t) = false := by rw [beq_eq_false_iff_ne]; exact hne
          go_wp2
          refine wp_region_quiet_below (by kernel_rfl) (by kernel_rfl) ?_
          repeat (any_goals (first | go_big_quiet_step (fail) | quiet_step (fail)))
          refine wpQuiet_nil ?_
          intro _ hqw
          obtain ⟨⟨dq, osq⟩, hqv⟩ := hqw
          subst hqv
          obtain ⟨HBQ, HQ1, HQ2⟩ := HBR.out dq osq
          obtain ⟨wq, hwq⟩ : ∃ wq, grow (redrawn (wr.alloc (.cells #[.int .i64 x.h, .int .i64 x.t] 59)) dq) osq = wq := ⟨_, rfl⟩
          rw [hwq] at HBQ HQ1 HQ2 ⊢
          have HBW := Kp.mk HBQ
          clear hwq r1 r2 r3 HBQ HBR
          have hwl := HBW.out.size
          have HOX : Kp (OwnD (wq.alloc (.cells #[.int .i64 x.h, .int .i64 x.t] 59)) w.heap.size u4 (thinU l k)) := ⟨(HO.out.on HBW.out).on ((Below.refl _ _).alloc (Nat.le_refl _) _)⟩
          have HFX : Kp (Below w.heap.size w (wq.alloc (.cells #[.int .i64 x.h, .int .i64 x.t] 59))) := ⟨(HB.out.trans (HBW.out.mono hzw)).alloc (by omega) _⟩
          have HNW : Kp (∀ j u, (cellsD [x])[j]? = some u → (wq.alloc (.cells #[.int .i64 x.h, .int .i64 x.t] 59)).cell? ((⟨wq.heap.size, 0, none⟩ : Addr).add j) = some u) := ⟨newsD_one (by go_simp) (by go_simp)⟩
          have HBS : Kp (w.heap.size ≤ (wq.alloc (.cells #[.int .i64 x.h, .int .i64 x.t] 59)).heap.size) := ⟨by rw [World.size_alloc]; omega⟩
          have HEND : Kp (∀ w6 gb cap, w6.ownsRow w.heap.size 59 2 (.slice (some ⟨gb, 0, none⟩) ((thinU l k).length + 1) cap) ((thinU l k).length + 1) (cellsD (thinU l k) ++ cellsD [x]) → (wq.alloc (.cells #[.int .i64 x.h, .int .i64 x.t] 59)).grownBy w6 u4.ownBlock → OwnD w6 w.heap.size (.slice (some ⟨gb, 0, none⟩) ((thinU l k).length + 1) cap) (thinU l (k + 1)) ∧ Below w.heap.size w w6) := ⟨fun w6 gb cap h1 h2 => ⟨by
            rw [HSC.out]; exact OwnD.more h1, HFX.out.grown h2 HBS.out (fun j hj => (HOX.out.lt j hj).1)⟩⟩
          obtain ⟨N, hN⟩ : ∃ N, (thinU l k).length = N := ⟨_, rfl⟩
          have HOY : Kp ((wq.alloc (.cells #[.int .i64 x.h, .int .i64 x.t] 59)).ownsRow w.heap.size 59 2 u4 N (cellsD (thinU l k))) := ⟨by have h3 := HOX.out; unfold OwnD at h3; rw [hN] at h3; exact h3⟩
          have HNN := HLE.out
          rw [hN] at HEND HNN
          clear hx hc1 hc2 hbl HSC HLE HOX HFX HO hN c1 c2
          go_wp2_with (first | (at_builtin; refine wpList_append_lies _ rfl _ _ 22 rfl w.heap.size 59 i0 (.agg #[.int .i64 0, .int .i64 0]) 2 16 Try.underlying22 HI.out HZ0.out HZ1.out HZ2.out rfl (by decide) _ N (cellsD (thinU l k)) rfl HOY.out ⟨wq.heap.size, 0, none⟩ 1 1 (cellsD [x]) rfl rfl HNW.out (cellsD_one _) (by decide) (by unfold maxLen; omega) (by omega) HBS.out _ rfl ?_; intro gb cap w6 hown6 hgrow6 hl6 hlt6))
          go_roundw
          case rel => exact ⟨k + 1, by omega, by go_num, ⟨(HEND.out w6 gb cap hown6 hgrow6).1⟩, ⟨(HEND.out w6 gb cap hown6 hgrow6).2⟩⟩
          case measure => simp [intOf]; omega
    · have hkn : k = l.length := by omega
      have HRS : Kp (RS wr u4 (thinU l l.length)) := ⟨by have h3 := HO.out.rs; rw [hkn] at h3; exact h3⟩
      clear hkn HO
      go_wp2
      go_ret2
      exact ⟨_, rfl, HRS.out, HB.out⟩
end Go.Proofs.Ytbbbnfodjkpiaaa.Cd
