/-
  WALKS (layer 8, pest): the rooms beside some rooms.
-/
import Derived.Test.YthkamfjjfkpekaaPeValid
namespace Go.Proofs.Ythkamfjjfkpekaa.Pe
open Go Go.RowKit Go.Sort

/-- Some rooms with those beside them by the first doors. -/
def nextF (ds : List Dr) (S : Nat) : Nat → Nat
  | 0 => S
  | k + 1 => if S.testBit (ds.getD k default).a.toNat || S.testBit (ds.getD k default).b.toNat then nextF ds S k ||| (2 ^ (ds.getD k default).a.toNat ||| 2 ^ (ds.getD k default).b.toNat) else nextF ds S k
theorem pow_small {a : Nat} (h : a ≤ 11) : 2 ^ a ≤ 2048 := Nat.le_trans (Nat.pow_le_pow_right (by omega) h) (by decide)
theorem pow_wrap {a : Nat} (h : a ≤ 11) : IntKind.i64.wrap ((2 : Int) ^ a) = ((2 ^ a : Nat) : Int) := by
  have h1 := pow_small h
  have h2 : ((2 : Int) ^ a) = ((2 ^ a : Nat) : Int) := by simp
  rw [h2]
  clear h2
  generalize 2 ^ a = p at h1 ⊢
  exact IntWalk.i64_in _ (by omega)
theorem pow_or {X a e : Nat} (hX : X < 4096) (ha : a ≤ 11) (he : e ≤ 11) : bits .or .i64 (X : Int) (bits .or .i64 (IntKind.i64.wrap ((2 : Int) ^ a)) (IntKind.i64.wrap ((2 : Int) ^ e))) = ((X ||| (2 ^ a ||| 2 ^ e) : Nat) : Int) := by
  have h1 := pow_small ha
  have h2 := pow_small he
  have h3 : 2 ^ a ||| 2 ^ e < 2 ^ 12 := Nat.or_lt_two_pow (by omega) (by omega)
  rw [pow_wrap ha, pow_wrap he, or_nat (by omega) (by omega), or_nat (by omega) (by omega)]
set_option maxRecDepth 100000 in
set_option maxHeartbeats 2000000 in
theorem next_any (v : Value) (ds : List Dr) (S : Nat) (w : World) (hv : DS w v ds) (hl : ds.length ≤ 1000) (hS : S < 4096) (hd : ∀ d ∈ ds, 0 ≤ d.a ∧ d.a ≤ 11 ∧ 0 ≤ d.b ∧ d.b ≤ 11) : Calls Try.prog 93 #[v, .int .i64 (S : Nat)] w fun e w' => e = .returned (.int .i64 ((nextF ds S ds.length : Nat) : Int)) ∧ Below w.heap.size w w' := by
  have HH : Kp (∀ (k : Nat) W, k ≤ 63 → Calls Try.prog 61 #[.int .i64 (S : Nat), .int .i64 (k : Nat)] W fun e w' => e = .returned (.bool (S.testBit k)) ∧ W = w') := ⟨fun k W hk => has_any S k W (by omega) hk⟩
  obtain ⟨g, c, rfl, hi2⟩ := hv
  have HS := Kp.mk hi2
  obtain ⟨N, hN⟩ : ∃ N, ds.length = N := ⟨_, rfl⟩
  have HN := Kp.mk hN
  rw [hN] at hl ⊢
  clear hi2 hN
  go_enter Try.func93, Try.ntmps93
  go_wp2
  go_loopw [11, 5] (fun i a wr => ∃ k : Nat, k ≤ N ∧ i = .int .i64 (k : Nat) ∧ a = .int .i64 ((nextF ds S k : Nat) : Int) ∧ Kp (Below w.heap.size w wr ∧ nextF ds S k < 4096)) (fun i _ _ => N - (intOf i).toNat)
  case atStart => exact ⟨0, Nat.zero_le _, rfl, rfl, ⟨Below.refl _ _, hS⟩⟩
  case round =>
    obtain ⟨k, hk, rfl, rfl, HK⟩ := hrel
    by_cases hlt : k < N
    · obtain ⟨d, hx⟩ : ∃ d, ds[k]? = some d := ⟨_, List.getElem?_eq_getElem (by rw [HN.out]; exact hlt)⟩
      obtain ⟨b, o, hg, hc1, hc2, hc3⟩ := HS.out k d hx
      subst hg
      obtain ⟨h1, h2, h3, h4⟩ := hd d (List.mem_of_getElem? hx)
      have hxd : ds.getD k default = d := by rw [List.getD_eq_getElem?_getD, hx]; rfl
      obtain ⟨da, db, dc⟩ := d
      simp only at hc1 hc2 hc3 h1 h2 h3 h4
      obtain ⟨a, rfl⟩ := Int.eq_ofNat_of_zero_le h1
      obtain ⟨e, rfl⟩ := Int.eq_ofNat_of_zero_le h3
      have hbl : b < w.heap.size := World.block_lt_of_cell? _ _ hc1
      have c1 := (HK.out.1.cell (p := ⟨b, o + k * 3, none⟩) hbl).trans hc1
      have c2 := (HK.out.1.cell (p := ⟨b, o + k * 3 + 1, none⟩) hbl).trans hc2
      have c3 := (HK.out.1.cell (p := ⟨b, o + k * 3 + 2, none⟩) hbl).trans hc3
      have o1 : (k : Int) < (N : Int) := by omega
      have ha : a ≤ 11 := by omega
      have hb : e ≤ 11 := by omega
      have hpo := pow_or HK.out.2 ha hb
      rw [IntWalk.i64_left, IntWalk.i64_left] at hpo
      have HPO := Kp.mk hpo
      clear hpo
      have HLT : Kp (nextF ds S k ||| (2 ^ a ||| 2 ^ e) < 4096) := ⟨by
        have h1 := pow_small ha
        have h2 := pow_small hb
        have h3 : 2 ^ a ||| 2 ^ e < 2 ^ 12 := Nat.or_lt_two_pow (by omega) (by omega)
        have h4 : nextF ds S k ||| (2 ^ a ||| 2 ^ e) < 2 ^ 12 := Nat.or_lt_two_pow (by have := HK.out.2; omega) h3
        omega⟩
      have HNS : Kp (nextF ds S (k + 1) = if S.testBit a || S.testBit e then nextF ds S k ||| (2 ^ a ||| 2 ^ e) else nextF ds S k) := ⟨by
        show (if S.testBit (ds.getD k default).a.toNat || S.testBit (ds.getD k default).b.toNat then _ else _) = _
        rw [hxd]
        rfl⟩
      have o4 : k ≤ 1000 := by omega
      clear hc1 hc2 hc3 hx h1 h2 h3 h4 hxd
      go_wp2_with fail
      refine (HH.out a _ (by omega)).mono ?_
      rintro en w2 ⟨rfl, rfl⟩
      cases hta : S.testBit a with
      | true =>
        have HNX : Kp (nextF ds S (k + 1) = nextF ds S k ||| (2 ^ a ||| 2 ^ e)) := ⟨by rw [HNS.out, hta]; rfl⟩
        clear HNS hta
        obtain ⟨W2, hW2⟩ : ∃ W, wr.alloc (.cells #[.int .i64 (a : Int), .int .i64 (e : Int), .int .i64 dc] 48) = W := ⟨_, rfl⟩
        have HB2 : Kp (Below w.heap.size w W2) := ⟨by rw [← hW2]; exact HK.out.1.alloc HK.out.1.size _⟩
        have q0 : W2.cell? ⟨wr.heap.size, 0, none⟩ = some (.int .i64 a) := by rw [← hW2]; first | (simp; done) | (simp; go_simp; done) | (go_simp; done)
        have q1 : W2.cell? ⟨wr.heap.size, 1, none⟩ = some (.int .i64 e) := by rw [← hW2]; first | (simp; done) | (simp; go_simp; done) | (go_simp; done)
        go_wp2_with fail
        have rg_q0 := fun d os => cell_regrown q0 d os
        have rg_q1 := fun d os => cell_regrown q1 d os
        clear hW2 c1 c2 c3 q0 q1
        refine wp_region_quiet_below (by kernel_rfl) (by kernel_rfl) ?_
        repeat (any_goals (first | go_big_quiet_step (fail) | quiet_step (fail)))
        refine wpQuiet_nil ?_
        intro _ hqw
        obtain ⟨⟨dq, osq⟩, hqv⟩ := hqw
        subst hqv
        obtain ⟨wq, hqwq⟩ : ∃ wq, grow (redrawn (W2) dq) osq = wq := ⟨_, rfl⟩
        have hbwq : Below (W2).heap.size (W2) wq := by rw [← hqwq]; exact below_regrown _ dq osq
        rw [hqwq]
        clear hqwq
        have HBQ := Kp.mk (HB2.out.trans (hbwq.mono HB2.out.size))
        clear hbwq
        go_wp2
        go_roundw
        case rel => exact ⟨k + 1, by omega, by go_num, by rw [HNX.out]; exact congrArg (Value.int .i64) HPO.out, ⟨HBQ.out, by rw [HNX.out]; exact HLT.out⟩⟩
        case measure => simp [intOf]; omega
      | false =>
        go_wp2_with fail
        refine (HH.out e _ (by omega)).mono ?_
        rintro en w2 ⟨rfl, rfl⟩
        cases hte : S.testBit e with
        | true =>
          have HNX : Kp (nextF ds S (k + 1) = nextF ds S k ||| (2 ^ a ||| 2 ^ e)) := ⟨by rw [HNS.out, hta, hte]; rfl⟩
          clear HNS hta hte
          obtain ⟨W2, hW2⟩ : ∃ W, wr.alloc (.cells #[.int .i64 (a : Int), .int .i64 (e : Int), .int .i64 dc] 48) = W := ⟨_, rfl⟩
          have HB2 : Kp (Below w.heap.size w W2) := ⟨by rw [← hW2]; exact HK.out.1.alloc HK.out.1.size _⟩
          have q0 : W2.cell? ⟨wr.heap.size, 0, none⟩ = some (.int .i64 a) := by rw [← hW2]; first | (simp; done) | (simp; go_simp; done) | (go_simp; done)
          have q1 : W2.cell? ⟨wr.heap.size, 1, none⟩ = some (.int .i64 e) := by rw [← hW2]; first | (simp; done) | (simp; go_simp; done) | (go_simp; done)
          go_wp2_with fail
          have rg_q0 := fun d os => cell_regrown q0 d os
          have rg_q1 := fun d os => cell_regrown q1 d os
          clear hW2 c1 c2 c3 q0 q1
          refine wp_region_quiet_below (by kernel_rfl) (by kernel_rfl) ?_
          repeat (any_goals (first | go_big_quiet_step (fail) | quiet_step (fail)))
          refine wpQuiet_nil ?_
          intro _ hqw
          obtain ⟨⟨dq, osq⟩, hqv⟩ := hqw
          subst hqv
          obtain ⟨wq, hqwq⟩ : ∃ wq, grow (redrawn (W2) dq) osq = wq := ⟨_, rfl⟩
          have hbwq : Below (W2).heap.size (W2) wq := by rw [← hqwq]; exact below_regrown _ dq osq
          rw [hqwq]
          clear hqwq
          have HBQ := Kp.mk (HB2.out.trans (hbwq.mono HB2.out.size))
          clear hbwq
          go_wp2
          go_roundw
          case rel => exact ⟨k + 1, by omega, by go_num, by rw [HNX.out]; exact congrArg (Value.int .i64) HPO.out, ⟨HBQ.out, by rw [HNX.out]; exact HLT.out⟩⟩
          case measure => simp [intOf]; omega
        | false =>
          have HNX : Kp (nextF ds S (k + 1) = nextF ds S k) := ⟨by rw [HNS.out, hta, hte]; rfl⟩
          clear HNS hta hte
          go_wp2
          go_roundw
          case rel => exact ⟨k + 1, by omega, by go_num, by rw [HNX.out], ⟨HK.out.1.alloc HK.out.1.size _, by rw [HNX.out]; exact HK.out.2⟩⟩
          case measure => simp [intOf]; omega
    · have hkn : k = N := by omega
      subst hkn
      have o1 : ¬ (k : Int) < (k : Int) := by omega
      go_wp2
      go_ret
      exact ⟨rfl, HK.out.1⟩
end Go.Proofs.Ythkamfjjfkpekaa.Pe
