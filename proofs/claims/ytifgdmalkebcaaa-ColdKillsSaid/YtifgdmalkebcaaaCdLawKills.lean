/-
  THE WALK of the law ColdKills.
-/
import Derived.Test.YtifgdmalkebcaaaCdAwake
import Derived.Test.YtifgdmalkebcaaaCdKillP
namespace Go.Proofs.Ytifgdmalkebcaaa.Cd
open Go Go.RowKit Go.Sort

def Ends (w : World) (e : Ending) (w' : World) : Prop := e = .returned (.bool true) ∧ Below w.heap.size w w'
theorem lawKills_long (a b c d g : Int) (u : Value) (l : List Rd) (e : Int) (w : World) (hs : RS w u l) (h : 300 < l.length) :
    Calls Try.prog 9 #[.agg #[.int .i64 a, .int .i64 b, .int .i64 c, .int .i64 d, .int .i64 g], .agg #[u, .int .i64 e]] w (Ends w) := by
  obtain ⟨gl, cl, rfl⟩ := hs.shape
  have hd : decide (l.length ≤ 300) = false := decide_eq_false (by omega)
  clear hs h
  go_enter Try.func9, Try.ntmps9
  go_wp2_with fail
  refine (short_any gl none l.length cl 0 0 _).mono ?_
  rw [hd]
  rintro en w1 ⟨rfl, rfl⟩
  go_wp2_with fail
  refine (awake_any _).mono ?_
  rintro en w2 ⟨rfl, hb2⟩
  have HB2 : Kp (Below w.heap.size w w2) := ⟨Below.trans (by repeat (first | exact Below.refl _ _ | refine Below.alloc ?_ (by simp <;> omega) _ | refine bDrewN ?_ _ | refine Below.drew ?_)) (hb2.mono (by simp <;> omega))⟩
  clear hb2
  go_wp2
  go_ret
  exact ⟨rfl, HB2.out⟩
theorem lawKills_no (a b c d g : Int) (u : Value) (l : List Rd) (e r : Int) (w : World) (hs : RS w u l) (h : l.length ≤ 300) (hr : kilE a b c d g l e = r) (hz : (r != 0) = true) :
    Calls Try.prog 9 #[.agg #[.int .i64 a, .int .i64 b, .int .i64 c, .int .i64 d, .int .i64 g], .agg #[u, .int .i64 e]] w (Ends w) := by
  have HK : Kp (∀ W, Below w.heap.size w W → Calls Try.prog 28 #[.agg #[.int .i64 a, .int .i64 b, .int .i64 c, .int .i64 d, .int .i64 g], u, .int .i64 e] W fun en w' => en = .returned (.tuple #[.int .i64 (kilV a b c d g l e), .int .i64 r]) ∧ Below W.heap.size W w') := ⟨fun W hW => hr ▸ Killed_any a b c d g u l e W (hs.below hW)⟩
  obtain ⟨V, hV⟩ : ∃ V, kilV a b c d g l e = V := ⟨_, rfl⟩
  rw [hV] at HK
  obtain ⟨gl, cl, rfl⟩ := hs.shape
  have hd : decide (l.length ≤ 300) = true := decide_eq_true h
  clear hs h hr hV
  go_enter Try.func9, Try.ntmps9
  go_wp2_with fail
  refine (short_any gl none l.length cl 0 0 _).mono ?_
  rw [hd]
  rintro en w0 ⟨rfl, rfl⟩
  go_wp2_with fail
  refine (HK.out _ (by repeat (first | exact Below.refl _ _ | refine Below.alloc ?_ (by simp <;> omega) _ | refine bDrewN ?_ _ | refine Below.drew ?_))).mono ?_
  rintro en w1 ⟨rfl, hb1⟩
  have HB1 : Kp (Below w.heap.size w w1) := ⟨Below.trans (by repeat (first | exact Below.refl _ _ | refine Below.alloc ?_ (by simp <;> omega) _ | refine bDrewN ?_ _ | refine Below.drew ?_)) (hb1.mono (by simp <;> omega))⟩
  clear hb1
  go_wp2_with fail
  refine (awake_any _).mono ?_
  rintro en w2 ⟨rfl, hb2⟩
  have HB2 : Kp (Below w.heap.size w w2) := ⟨HB1.out.trans (hb2.mono HB1.out.size)⟩
  clear hb2
  go_wp2
  go_ret
  exact ⟨rfl, HB2.out⟩
set_option maxRecDepth 100000 in
set_option maxHeartbeats 4000000 in
theorem lawKills_in (a b c d g : Int) (n : Nat) (hcn : c = (n : Int) + 1) (u : Value) (l : List Rd) (e N : Int) (w : World) (hs : RS w u l) (hN : kilE a b c d g l e = 0) (hV : kilV a b c d g l e = N) :
    Calls Try.prog 9 #[.agg #[.int .i64 a, .int .i64 b, .int .i64 c, .int .i64 d, .int .i64 g], .agg #[u, .int .i64 e]] w (Ends w) := by
  obtain ⟨hr, hg, hs0⟩ := kil_good hN
  rw [hV] at hs0
  have e0 : kilL a b c d g = killL a b d g n := by unfold kilL; rw [hcn]; congr 1
  rw [e0] at hs0
  obtain ⟨-, -, hae, hb, hc, hd⟩ := rule_iff.1 hr
  have hl := hg.len
  have HG := Kp.mk hg
  have HS0 := Kp.mk hs0
  have HBD := Kp.mk (And.intro hb hd)
  have HK : Kp (∀ W, Below w.heap.size w W → Calls Try.prog 28 #[.agg #[.int .i64 a, .int .i64 b, .int .i64 c, .int .i64 d, .int .i64 g], u, .int .i64 e] W fun en w' => en = .returned (.tuple #[.int .i64 N, .int .i64 0]) ∧ Below W.heap.size W w') := ⟨fun W hW => by
    have := Killed_any a b c d g u l e W (hs.below hW)
    rw [hN, hV] at this
    exact this⟩
  have HAT : Kp (atE l e (N - 1) = 0 ∧ atV l e (N - 1) ≤ a) := ⟨kill_at hg hb.1 hd.1 hs0⟩
  have HA : Kp (∀ W, Below w.heap.size w W → Calls Try.prog 16 #[u, .int .i64 e, .int .i64 (N - 1)] W fun en w' => en = .returned (.tuple #[.int .i64 (atV l e (N - 1)), .int .i64 0]) ∧ Below W.heap.size W w') := ⟨fun W hW => by
    have := At_any u l e (N - 1) W (hs.below hW)
    rw [HAT.out.1] at this
    exact this⟩
  have HC1 : Kp (∀ W fr m, Below w.heap.size w W → (firstH l ≤ fr ∧ fr ≤ e) → seqR (strs l e l.length) fr [chP a b] = some m → Calls Try.prog 24 #[.agg #[.int .i64 a, .int .i64 b, .int .i64 c, .int .i64 d, .int .i64 g], u, .int .i64 e, .int .i64 fr] W fun en w' => en = .returned (.tuple #[.int .i64 m, .int .i64 0]) ∧ Below W.heap.size W w') := ⟨fun W fr m hW hf hm => by
    have := Chill_any a b c d g u l e fr W (hs.below hW)
    rw [(one_of hr hg hf hm).1, (one_of hr hg hf hm).2] at this
    exact this⟩
  have HT1 : Kp (∀ W fr m, Below w.heap.size w W → (firstH l ≤ fr ∧ fr ≤ e) → seqR (strs l e l.length) fr (thL d g) = some m → Calls Try.prog 26 #[.agg #[.int .i64 a, .int .i64 b, .int .i64 c, .int .i64 d, .int .i64 g], u, .int .i64 e, .int .i64 fr] W fun en w' => en = .returned (.tuple #[.int .i64 m, .int .i64 0]) ∧ Below W.heap.size W w') := ⟨fun W fr m hW hf hm => by
    have := Thaw_any a b c d g u l e fr W (hs.below hW)
    rw [(one_of hr hg hf hm).1, (one_of hr hg hf hm).2] at this
    exact this⟩
  have HLS : Kp (1 < c → ∃ m, m ≤ N ∧ ∀ W, Below w.heap.size w W → Calls Try.prog 28 #[.agg #[.int .i64 a, .int .i64 b, .int .i64 (c - 1), .int .i64 d, .int .i64 g], u, .int .i64 e] W fun en w' => en = .returned (.tuple #[.int .i64 m, .int .i64 0]) ∧ Below W.heap.size W w') := ⟨fun h1c => by
    obtain ⟨k, hk⟩ : ∃ k, n = k + 1 := ⟨n - 1, by omega⟩
    rw [hk] at hs0
    obtain ⟨m, h1, h2⟩ := kill_less hg hb.1 hd.1 hs0
    have hr2 : ruleB a b (c - 1) d g = true := rule_iff.2 ⟨by have := rule_iff.1 hr; exact this.1, by have := rule_iff.1 hr; exact this.2.1, hae, hb, by omega, hd⟩
    have e1 : kilL a b (c - 1) d g = killL a b d g k := by unfold kilL; congr 1; omega
    obtain ⟨k1, k2⟩ := kil_of hr2 hg (by rw [e1]; exact h1)
    refine ⟨m, h2, fun W hW => ?_⟩
    have := Killed_any a b (c - 1) d g u l e W (hs.below hW)
    rw [k1, k2] at this
    exact this⟩
  have hNb : 0 ≤ N ∧ N ≤ 1000000 := by
    have h1 := seq_ge (chain_strs hg) (killL_hours hb.1 hd.1 n) (Int.le_refl _) hs0
    have h2 := seq_le (strs_asc hg) (strs_end hg) hs0 (first_end hg)
    have h3 := (hg.sg (i := 0) (by omega)).1
    have h4 : firstH l = (sgAt l e 0).f := rfl
    have h5 := (hg.end_ (List.getElem?_eq_getElem (show 0 < l.length by omega))).2
    omega
  obtain ⟨bl, ol, cl, rfl, hbl, hc0⟩ := first_of hs hl.1
  have HC0 := Kp.mk hc0
  have HBL := Lib.hid hbl
  have HL : Kp (1 ≤ l.length ∧ l.length ≤ 200) := ⟨hl⟩
  have hn : n ≤ 4 := by omega
  have hc5 : 1 ≤ c ∧ c ≤ 5 := hc
  have HCN := Kp.mk hcn
  have hd3 : decide (l.length ≤ 300) = true := decide_eq_true (by omega)
  have hl0 : (0 : Int) < (l.length : Int) := by omega
  have hlz : ((l.length : Int) == 0) = false := by rw [beq_eq_false_iff_ne]; omega
  obtain ⟨T, hT⟩ : ∃ T, atV l e (N - 1) = T := ⟨_, rfl⟩
  rw [hT] at HA HAT
  have hTa := HAT.out.2
  obtain ⟨F, hF⟩ : ∃ F, firstH l = F := ⟨_, rfl⟩
  have HF0 := Kp.mk hF
  rw [hF] at HC0
  have HST : Kp (∃ p0, seqR (strs l e l.length) (firstH l) [chP a b] = some p0 ∧ firstH l ≤ e) := ⟨by
    obtain ⟨p, h1, -⟩ := kill_some hg hb.1 hd.1 (Nat.zero_le n) hs0
    exact ⟨p, h1, first_end hg⟩⟩
  clear hs hN hV hr hg hs0 e0 hb hc hd hcn hae hl hc0 hbl hT hF HAT
  go_enter Try.func9, Try.ntmps9
  go_wp2_with fail
  refine (short_any _ none l.length cl 0 0 _).mono ?_
  rw [hd3]
  rintro en w0 ⟨rfl, rfl⟩
  clear hd3
  go_wp2_with fail
  refine (HK.out _ (by repeat (first | exact Below.refl _ _ | refine Below.alloc ?_ (by simp <;> omega) _ | refine bDrewN ?_ _ | refine Below.drew ?_))).mono ?_
  rintro en w1 ⟨rfl, hb1⟩
  have HF1 : Kp (Below (w.heap.size + 1 + 1) ((w.alloc (.cells #[.int .i64 a, .int .i64 b, .int .i64 c, .int .i64 d, .int .i64 g] 26)).alloc (.cells #[.slice (some ⟨bl, ol, none⟩) l.length cl, .int .i64 e] 24)) w1) := ⟨by rw [World.size_alloc, World.size_alloc] at hb1; exact hb1⟩
  clear hb1
  obtain ⟨f0, f1, f2, f3, f4, g0, g1, hz1⟩ := fl_cells HF1.out
  obtain ⟨p0, hp0, hfe⟩ := HST.out
  have HP0 := Kp.mk hp0
  have HFE : Kp (F ≤ e) := ⟨by rw [← HF0.out]; exact hfe⟩
  have HCF : Kp (∀ W, Below w.heap.size w W → Calls Try.prog 24 #[.agg #[.int .i64 a, .int .i64 b, .int .i64 c, .int .i64 d, .int .i64 g], .slice (some ⟨bl, ol, none⟩) l.length cl, .int .i64 e, .int .i64 F] W fun en w' => en = .returned (.tuple #[.int .i64 p0, .int .i64 0]) ∧ Below W.heap.size W w') := ⟨fun W hW => HC1.out W F p0 hW (by rw [HF0.out]; exact ⟨Int.le_refl _, HFE.out⟩) (by rw [← HF0.out]; exact HP0.out)⟩
  clear hp0 hfe
  by_cases h1c : 1 < c
  · obtain ⟨m, hmN, hless⟩ := HLS.out h1c
    have HLm := Lib.hid hless
    have i1 : IntKind.i64.wrap (c - 1) = c - 1 := IntWalk.i64_in _ (by omega)
    clear hless
    go_wp2_with fail
    refine (HLm.out _ ((fl_below HF1.out).alloc (by omega) _)).mono ?_
    rintro en w2 ⟨rfl, hb2⟩
    have HF2 : Kp (Below (w.heap.size + 1 + 1) ((w.alloc (.cells #[.int .i64 a, .int .i64 b, .int .i64 c, .int .i64 d, .int .i64 g] 26)).alloc (.cells #[.slice (some ⟨bl, ol, none⟩) l.length cl, .int .i64 e] 24)) w2) := ⟨(HF1.out.alloc (by omega) _).trans (hb2.mono (by rw [World.size_alloc]; omega))⟩
    clear hb2 i1 f0 f1 f2 f3 f4 g0 g1 hz1
    obtain ⟨f0, f1, f2, f3, f4, g0, g1, hz1⟩ := fl_cells HF2.out
    have c0 := (fl_below HF2.out).cell (p := ⟨bl, _, none⟩) HBL.out |>.trans HC0.out
    have lb : bl < w2.heap.size := Nat.lt_of_lt_of_le HBL.out (fl_below HF2.out).size
    have HB2 := Kp.mk (fl_below HF2.out)
    have q0 := fun d os => cell_regrown f0 d os
    have q1 := fun d os => cell_regrown f1 d os
    have q2 := fun d os => cell_regrown f2 d os
    have q3 := fun d os => cell_regrown f3 d os
    have q4 := fun d os => cell_regrown f4 d os
    have q5 := fun d os => cell_regrown g0 d os
    have q6 := fun d os => cell_regrown g1 d os
    have q7 := fun d os => cell_regrown c0 d os
    have K1 : Kp (∀ d os, _) := ⟨fun d os => HCF.out (grow (redrawn w2 d) os) (HB2.out.trans ((below_regrown w2 d os).mono HB2.out.size))⟩
    go_wp2
    refine wp_region_quiet_below (by kernel_rfl) (by kernel_rfl) ?_
    repeat (any_goals (first | go_big_quiet_step (first | (with_reducible exact Calls.regrown_of (K1.out _ _))) | quiet_step (first | (with_reducible exact Calls.regrown_of (K1.out _ _)))))
    refine wpQuiet_nil ?_
    intro _ hqw
    obtain ⟨⟨dq, osq⟩, hqv⟩ := hqw
    subst hqv
    have HFq : Kp (Below (w.heap.size + 1 + 1) ((w.alloc (.cells #[.int .i64 a, .int .i64 b, .int .i64 c, .int .i64 d, .int .i64 g] 26)).alloc (.cells #[.slice (some ⟨bl, ol, none⟩) l.length cl, .int .i64 e] 24)) (grow (redrawn w2 dq) osq)) := ⟨HF2.out.trans ((below_regrown w2 dq osq).mono (by omega))⟩
    clear q0 q1 q2 q3 q4 q5 q6 q7 K1 f0 f1 f2 f3 f4 g0 g1 c0 lb hz1
    obtain ⟨X, hX⟩ : ∃ X, grow (redrawn w2 dq) osq = X := ⟨_, rfl⟩
    rw [hX] at HFq ⊢
    clear hX
    have HK0 : Kp (seqR (strs l e l.length) (firstH l) (killL a b d g 0) = some p0) := HP0
    go_wp2
    go_loopw [10, 11, 12] (fun at_ gg ks wr => ∃ (k : Nat) (p : Int), at_ = .int .i64 p ∧ gg = .int .i64 0 ∧ ks = .int .i64 ((k : Int) + 1) ∧ k ≤ n ∧ Kp (seqR (strs l e l.length) (firstH l) (killL a b d g k) = some p) ∧ Kp (Below (w.heap.size + 1 + 1) ((w.alloc (.cells #[.int .i64 a, .int .i64 b, .int .i64 c, .int .i64 d, .int .i64 g] 26)).alloc (.cells #[.slice (some ⟨bl, ol, none⟩) l.length cl, .int .i64 e] 24)) wr)) (fun _ _ ks _ => n + 1 - (intOf ks).toNat)
    case atStart => exact ⟨0, p0, rfl, rfl, rfl, Nat.zero_le _, HK0, HFq⟩
    case round =>
      clear HK0 HFq HB2 HF2 HF1
      obtain ⟨k, p, rfl, rfl, rfl, hk, HKp, HF⟩ := hrel
      obtain ⟨f0, f1, f2, f3, f4, g0, g1, hz1⟩ := fl_cells HF.out
      have HB := Kp.mk (fl_below HF.out)
      by_cases hlt : k < n
      · obtain ⟨hp1, q, p', hq1, hq2, hq3, hq4⟩ := kill_step HG.out HBD.out.1.1 HBD.out.2.1 hlt HS0.out HKp.out
        have HTk : Kp (∀ W, Below w.heap.size w W → Calls Try.prog 26 #[.agg #[.int .i64 a, .int .i64 b, .int .i64 c, .int .i64 d, .int .i64 g], .slice (some ⟨bl, ol, none⟩) l.length cl, .int .i64 e, .int .i64 p] W fun en w' => en = .returned (.tuple #[.int .i64 q, .int .i64 0]) ∧ Below W.heap.size W w') := ⟨fun W hW => HT1.out W p q hW hp1 hq1⟩
        have HCk : Kp (∀ W, Below w.heap.size w W → Calls Try.prog 24 #[.agg #[.int .i64 a, .int .i64 b, .int .i64 c, .int .i64 d, .int .i64 g], .slice (some ⟨bl, ol, none⟩) l.length cl, .int .i64 e, .int .i64 q] W fun en w' => en = .returned (.tuple #[.int .i64 p', .int .i64 0]) ∧ Below W.heap.size W w') := ⟨fun W hW => HC1.out W q p' hW hq2 hq3⟩
        have HK1 := Kp.mk hq4
        have o1 : (k : Int) + 1 < c := by have := HCN.out; omega
        clear hp1 hq1 hq2 hq3 hq4
        go_wp2_with fail
        refine (HTk.out _ HB.out).mono ?_
        rintro en w4 ⟨rfl, hb4⟩
        have HF4 := Kp.mk (HF.out.trans (hb4.mono (by omega)))
        have HB4 := Kp.mk (fl_below HF4.out)
        clear hb4 f0 f1 f2 f3 f4 g0 g1 hz1
        obtain ⟨f0, f1, f2, f3, f4, g0, g1, hz1⟩ := fl_cells HF4.out
        go_wp2_with fail
        refine (HCk.out _ HB4.out).mono ?_
        rintro en w5 ⟨rfl, hb5⟩
        have HF5 := Kp.mk (HF4.out.trans (hb5.mono (by omega)))
        clear hb5 f0 f1 f2 f3 f4 g0 g1 hz1
        go_wp2
        go_roundw
        case rel => exact ⟨k + 1, p', rfl, rfl, by go_num, by omega, HK1, HF5⟩
        case measure => simp [intOf]; omega
      · have hkn : k = n := by omega
        have hpN : p = N := by
          have h1 := HKp.out
          have h2 := HS0.out
          rw [hkn, h2] at h1
          exact (Option.some.inj h1).symm
        have o1 : ¬ (k : Int) + 1 < c := by have := HCN.out; omega
        subst hpN
        clear hkn
        go_wp2_with fail
        refine (HA.out _ HB.out).mono ?_
        rintro en w4 ⟨rfl, hb4⟩
        have HF4 := Kp.mk (HF.out.trans (hb4.mono (by omega)))
        have HB4 := Kp.mk (fl_below HF4.out)
        clear hb4 f0 f1 f2 f3 f4 g0 g1 hz1
        obtain ⟨f0, f1, f2, f3, f4, g0, g1, hz1⟩ := fl_cells HF4.out
        go_wp2_with fail
        refine (awake_any _).mono ?_
        rintro en w5 ⟨rfl, hb5⟩
        have HB5 := Kp.mk (HB4.out.trans (hb5.mono HB4.out.size))
        clear hb5
        go_wp2
        go_ret
        exact ⟨rfl, HB5.out⟩
  · have hn0 : n = 0 := by have := HCN.out; omega
    have hpN : p0 = N := by have h1 := HP0.out; have h2 := HS0.out; rw [hn0] at h2; rw [killL, h1] at h2; injection h2
    subst hpN
    have c0 := (fl_below HF1.out).cell (p := ⟨bl, _, none⟩) HBL.out |>.trans HC0.out
    have lb : bl < w1.heap.size := Nat.lt_of_lt_of_le HBL.out (fl_below HF1.out).size
    have HB1 := Kp.mk (fl_below HF1.out)
    have q0 := fun d os => cell_regrown f0 d os
    have q1 := fun d os => cell_regrown f1 d os
    have q2 := fun d os => cell_regrown f2 d os
    have q3 := fun d os => cell_regrown f3 d os
    have q4 := fun d os => cell_regrown f4 d os
    have q5 := fun d os => cell_regrown g0 d os
    have q6 := fun d os => cell_regrown g1 d os
    have q7 := fun d os => cell_regrown c0 d os
    have K1 : Kp (∀ d os, _) := ⟨fun d os => HCF.out (grow (redrawn w1 d) os) (HB1.out.trans ((below_regrown w1 d os).mono HB1.out.size))⟩
    clear hn0
    go_wp2
    refine wp_region_quiet_below (by kernel_rfl) (by kernel_rfl) ?_
    repeat (any_goals (first | go_big_quiet_step (first | (with_reducible exact Calls.regrown_of (K1.out _ _))) | quiet_step (first | (with_reducible exact Calls.regrown_of (K1.out _ _)))))
    refine wpQuiet_nil ?_
    intro _ hqw
    obtain ⟨⟨dq, osq⟩, hqv⟩ := hqw
    subst hqv
    have HBq : Kp (Below w.heap.size w (grow (redrawn w1 dq) osq)) := ⟨HB1.out.trans ((below_regrown w1 dq osq).mono HB1.out.size)⟩
    have HFq : Kp (Below (w.heap.size + 1 + 1) ((w.alloc (.cells #[.int .i64 a, .int .i64 b, .int .i64 c, .int .i64 d, .int .i64 g] 26)).alloc (.cells #[.slice (some ⟨bl, ol, none⟩) l.length cl, .int .i64 e] 24)) (grow (redrawn w1 dq) osq)) := ⟨HF1.out.trans ((below_regrown w1 dq osq).mono (by omega))⟩
    clear q0 q1 q2 q3 q4 q5 q6 q7 K1 f0 f1 f2 f3 f4 g0 g1 c0 lb
    obtain ⟨X, hX⟩ : ∃ X, grow (redrawn w1 dq) osq = X := ⟨_, rfl⟩
    rw [hX] at HBq HFq ⊢
    clear hX
    obtain ⟨f0, f1, f2, f3, f4, g0, g1, hz2⟩ := fl_cells HFq.out
    go_wp2
    refine wp_loop_rounds 1 ?_
    rw [rounds_succ]
    go_wp2_with fail
    refine (HA.out _ HBq.out).mono ?_
    rintro en w3 ⟨rfl, hb3⟩
    have HF3 := Kp.mk (HFq.out.trans (hb3.mono (by omega)))
    have HB3 := Kp.mk (HBq.out.trans (hb3.mono HBq.out.size))
    clear hb3 f0 f1 f2 f3 f4 g0 g1 hz2
    obtain ⟨f0, f1, f2, f3, f4, g0, g1, hz2⟩ := fl_cells HF3.out
    go_wp2_with fail
    refine (awake_any _).mono ?_
    rintro en w4 ⟨rfl, hb4⟩
    have HB4 := Kp.mk (HB3.out.trans (hb4.mono HB3.out.size))
    clear hb4
    go_wp2
    go_ret
    exact ⟨rfl, HB4.out⟩
theorem lawKills_any (a b c d g : Int) (u : Value) (l : List Rd) (e : Int) (w : World) (hs : RS w u l) :
    Calls Try.prog 9 #[.agg #[.int .i64 a, .int .i64 b, .int .i64 c, .int .i64 d, .int .i64 g], .agg #[u, .int .i64 e]] w (Ends w) := by
  by_cases h : 300 < l.length
  · exact lawKills_long a b c d g u l e w hs h
  · by_cases hk : kilE a b c d g l e = 0
    · have hc := (rule_iff.1 (kil_good hk).1).2.2.2.2.1
      exact lawKills_in a b c d g (c.toNat - 1) (by omega) u l e _ w hs hk rfl
    · exact lawKills_no a b c d g u l e _ w hs (by omega) rfl (by rw [bne_iff_ne]; exact hk)
end Go.Proofs.Ytifgdmalkebcaaa.Cd
