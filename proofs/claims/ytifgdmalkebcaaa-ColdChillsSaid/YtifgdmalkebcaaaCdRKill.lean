/-
  WALKS (layer 4, cold): Chill, Thaw and Killed by the reference answer as the program does.
-/
import Derived.Test.YtifgdmalkebcaaaCdRow
import Derived.Test.YtifgdmalkebcaaaCdAwake
namespace Go.Proofs.Ytifgdmalkebcaaa.Cd
open Go Go.RowKit Go.Sort

def rsOf (a b d g : Int) (ch : Bool) : List Rw := if ch then [chP a b] else thL d g
theorem row2_any (a b c d g : Int) (v : Value) (l : List Rd) (e fr : Int) (ch : Bool) (w : World) (hs : RS w v l) (hm : l.length ≤ 100000) :
    Calls Try.prog 94 #[.agg #[.int .i64 a, .int .i64 b, .int .i64 c, .int .i64 d, .int .i64 g], v, .int .i64 e, .int .i64 fr, .bool ch] w fun en w' => en = .returned (.tuple #[.int .i64 (oneV a b c d g l e fr (rsOf a b d g ch)), .int .i64 (oneE a b c d g l e fr (rsOf a b d g ch))]) ∧ Below w.heap.size w w' := by
  have bad : ∀ r, r ≠ 0 → ckE a b c d g l e [fr] = r → oneV a b c d g l e fr (rsOf a b d g ch) = 0 ∧ oneE a b c d g l e fr (rsOf a b d g ch) = r := fun r h0 h1 => by
    unfold oneV oneE
    rw [h1, if_neg h0, if_neg h0]
    exact ⟨rfl, rfl⟩
  cases h1 : ruleB a b c d g with
  | false =>
    obtain ⟨gl, cl, rfl⟩ := hs.shape
    obtain ⟨e1, e2⟩ := bad 1 (by decide) (ck_rule h1)
    rw [e1, e2]
    exact row2_rule a b c d g gl _ cl e fr ch w h1
  | true =>
    cases h2 : readB l with
    | false =>
      have hc : chkE l e [] = 1 := chk_no h2
      obtain ⟨e1, e2⟩ := bad 1 (by decide) ((ck_chk h1 (by rw [hc]; decide)).trans hc)
      rw [e1, e2]
      exact row2_read a b c d g v l e fr ch w hs hm h1 h2
    | true =>
      by_cases h3 : chkE l e [] = 0
      · have hg := (chk_good h3).1
        have hr := row2_in a b c d g v l e fr ch _ w hs h1 hg rfl
        have hck := ck_in (a := a) (b := b) (c := c) (d := d) (g := g) (ts := [fr]) h1 h3
        rw [allB1] at hck
        cases hB : inB (firstH l) e fr with
        | false =>
          rw [hB] at hr hck
          obtain ⟨e1, e2⟩ := bad 7 (by decide) hck
          rw [e1, e2]
          exact hr
        | true =>
          rw [hB] at hr hck
          have h0 : ckE a b c d g l e [fr] = 0 := hck
          have e1 : oneV a b c d g l e fr (rsOf a b d g ch) = endV (strs l e l.length) fr (rsOf a b d g ch) := by unfold oneV; rw [if_pos h0]
          have e2 : oneE a b c d g l e fr (rsOf a b d g ch) = endE (strs l e l.length) fr (rsOf a b d g ch) := by unfold oneE; rw [if_pos h0]
          rw [e1, e2]
          cases ch with
          | true => exact hr
          | false => exact hr
      · obtain ⟨e1, e2⟩ := bad _ h3 (ck_chk h1 h3)
        rw [e1, e2]
        exact row2_asked a b c d g v l e fr _ ch w hs hm h1 h2 rfl (chk_ne h3)
theorem rChill_any (a b c d g : Int) (v : Value) (l : List Rd) (e fr : Int) (w : World) (hs : RS w v l) (hm : l.length ≤ 100000) :
    Calls Try.prog 25 #[.agg #[.int .i64 a, .int .i64 b, .int .i64 c, .int .i64 d, .int .i64 g], v, .int .i64 e, .int .i64 fr] w fun en w' => en = .returned (.tuple #[.int .i64 (oneV a b c d g l e fr [chP a b]), .int .i64 (oneE a b c d g l e fr [chP a b])]) ∧ Below w.heap.size w w' := by
  have HQ : Kp (∀ W, Below w.heap.size w W → Calls Try.prog 94 #[.agg #[.int .i64 a, .int .i64 b, .int .i64 c, .int .i64 d, .int .i64 g], v, .int .i64 e, .int .i64 fr, .bool true] W fun en w' => en = .returned (.tuple #[.int .i64 (oneV a b c d g l e fr [chP a b]), .int .i64 (oneE a b c d g l e fr [chP a b])]) ∧ Below W.heap.size W w') := ⟨fun W hW => row2_any a b c d g v l e fr true W (hs.below hW) hm⟩
  obtain ⟨V, hV⟩ : ∃ V, oneV a b c d g l e fr [chP a b] = V := ⟨_, rfl⟩
  obtain ⟨E, hE⟩ : ∃ E, oneE a b c d g l e fr [chP a b] = E := ⟨_, rfl⟩
  rw [hV, hE] at HQ ⊢
  obtain ⟨gl, cl, rfl⟩ := hs.shape
  clear hs hV hE
  go_enter Try.func25, Try.ntmps25
  go_wp2_with fail
  refine (HQ.out _ (by repeat (first | exact Below.refl _ _ | refine Below.alloc ?_ (by simp <;> omega) _ | refine bDrewN ?_ _ | refine Below.drew ?_))).mono ?_
  rintro en w1 ⟨rfl, hb1⟩
  have HB1 : Kp (Below w.heap.size w w1) := ⟨Below.trans (by repeat (first | exact Below.refl _ _ | refine Below.alloc ?_ (by simp <;> omega) _ | refine bDrewN ?_ _ | refine Below.drew ?_)) (hb1.mono (by simp))⟩
  clear hb1
  go_wp2
  go_ret2
  exact ⟨rfl, HB1.out⟩
theorem rThaw_any (a b c d g : Int) (v : Value) (l : List Rd) (e fr : Int) (w : World) (hs : RS w v l) (hm : l.length ≤ 100000) :
    Calls Try.prog 27 #[.agg #[.int .i64 a, .int .i64 b, .int .i64 c, .int .i64 d, .int .i64 g], v, .int .i64 e, .int .i64 fr] w fun en w' => en = .returned (.tuple #[.int .i64 (oneV a b c d g l e fr (thL d g)), .int .i64 (oneE a b c d g l e fr (thL d g))]) ∧ Below w.heap.size w w' := by
  have HQ : Kp (∀ W, Below w.heap.size w W → Calls Try.prog 94 #[.agg #[.int .i64 a, .int .i64 b, .int .i64 c, .int .i64 d, .int .i64 g], v, .int .i64 e, .int .i64 fr, .bool false] W fun en w' => en = .returned (.tuple #[.int .i64 (oneV a b c d g l e fr (thL d g)), .int .i64 (oneE a b c d g l e fr (thL d g))]) ∧ Below W.heap.size W w') := ⟨fun W hW => row2_any a b c d g v l e fr false W (hs.below hW) hm⟩
  obtain ⟨V, hV⟩ : ∃ V, oneV a b c d g l e fr (thL d g) = V := ⟨_, rfl⟩
  obtain ⟨E, hE⟩ : ∃ E, oneE a b c d g l e fr (thL d g) = E := ⟨_, rfl⟩
  rw [hV, hE] at HQ ⊢
  obtain ⟨gl, cl, rfl⟩ := hs.shape
  clear hs hV hE
  go_enter Try.func27, Try.ntmps27
  go_wp2_with fail
  refine (HQ.out _ (by repeat (first | exact Below.refl _ _ | refine Below.alloc ?_ (by simp <;> omega) _ | refine bDrewN ?_ _ | refine Below.drew ?_))).mono ?_
  rintro en w1 ⟨rfl, hb1⟩
  have HB1 : Kp (Below w.heap.size w w1) := ⟨Below.trans (by repeat (first | exact Below.refl _ _ | refine Below.alloc ?_ (by simp <;> omega) _ | refine bDrewN ?_ _ | refine Below.drew ?_)) (hb1.mono (by simp))⟩
  clear hb1
  go_wp2
  go_ret2
  exact ⟨rfl, HB1.out⟩

/-! ### Killed -/
theorem kill_next {xs : List Sg} {F a b d g p : Int} {k : Nat} (hp : seqR xs F (killL a b d g k) = some p) : seqR xs F (killL a b d g (k + 1)) = (seqR xs p (thL d g)).bind (fun q => seqR xs q [chP a b]) := by
  rw [killL, seq_append, hp, Option.bind_some, seq_append]
theorem kill_never {xs : List Sg} {F a b d g : Int} {k : Nat} (hp : seqR xs F (killL a b d g k) = none) : ∀ {n : Nat}, k ≤ n → seqR xs F (killL a b d g n) = none := by
  intro n
  induction n with
  | zero =>
    intro hk
    have h0 : k = 0 := by omega
    subst h0
    exact hp
  | succ n ih =>
    intro hk
    by_cases e1 : k = n + 1
    · subst e1; exact hp
    · rw [killL, seq_append, ih (by omega)]; rfl
theorem rKilled_bad (a b c d g : Int) (v : Value) (l : List Rd) (e : Int) (w : World) (hs : RS w v l) (hm : l.length ≤ 100000) (h : ruleB a b c d g = false ∨ (ruleB a b c d g = true ∧ readB l = false)) :
    Calls Try.prog 29 #[.agg #[.int .i64 a, .int .i64 b, .int .i64 c, .int .i64 d, .int .i64 g], v, .int .i64 e] w fun en w' => en = .returned (.tuple #[.int .i64 0, .int .i64 1]) ∧ Below w.heap.size w w' := by
  rcases h with h | ⟨h, hr⟩
  · have HV : Kp (∀ W, Calls Try.prog 23 #[.agg #[.int .i64 a, .int .i64 b, .int .i64 c, .int .i64 d, .int .i64 g]] W fun en w' => en = .returned (.bool false) ∧ Below W.heap.size W w') := ⟨fun W => rValidRule_no h W⟩
    obtain ⟨gl, cl, rfl⟩ := hs.shape
    clear hs h
    go_enter Try.func29, Try.ntmps29
    go_wp2_with fail
    refine (HV.out _).mono ?_
    rintro en w1 ⟨rfl, hb1⟩
    have HB1 : Kp (Below w.heap.size w w1) := ⟨Below.trans (by repeat (first | exact Below.refl _ _ | refine Below.alloc ?_ (by simp <;> omega) _ | refine bDrewN ?_ _ | refine Below.drew ?_)) (hb1.mono (by simp))⟩
    clear hb1
    go_wp2
    go_ret2
    exact ⟨rfl, HB1.out⟩
  · have HV : Kp (∀ W, Calls Try.prog 23 #[.agg #[.int .i64 a, .int .i64 b, .int .i64 c, .int .i64 d, .int .i64 g]] W fun en w' => en = .returned (.bool true) ∧ Below W.heap.size W w') := ⟨fun W => rValidRule_yes h W⟩
    have HR : Kp (∀ W, Below w.heap.size w W → Calls Try.prog 21 #[v] W fun en w' => en = .returned (.bool false) ∧ Below W.heap.size W w') := ⟨fun W hW => rValidReadings_no v l W (hs.below hW) hm hr⟩
    obtain ⟨gl, cl, rfl⟩ := hs.shape
    clear hs h hr
    go_enter Try.func29, Try.ntmps29
    go_wp2_with fail
    refine (HV.out _).mono ?_
    rintro en w1 ⟨rfl, hb1⟩
    have HB1 : Kp (Below w.heap.size w w1) := ⟨Below.trans (by repeat (first | exact Below.refl _ _ | refine Below.alloc ?_ (by simp <;> omega) _ | refine bDrewN ?_ _ | refine Below.drew ?_)) (hb1.mono (by simp))⟩
    clear hb1
    go_wp2_with fail
    refine (HR.out _ HB1.out).mono ?_
    rintro en w2 ⟨rfl, hb2⟩
    have HB2 := Kp.mk (HB1.out.trans (hb2.mono HB1.out.size))
    clear hb2
    go_wp2
    go_ret2
    exact ⟨rfl, HB2.out⟩
set_option maxRecDepth 100000 in
set_option maxHeartbeats 4000000 in
theorem rKilled_go (a b c d g : Int) (v : Value) (l : List Rd) (e : Int) (n : Nat) (w : World) (hs : RS w v l) (h : ruleB a b c d g = true) (hrd : readB l = true) (hcn : c = (n : Int) + 1) :
    Calls Try.prog 29 #[.agg #[.int .i64 a, .int .i64 b, .int .i64 c, .int .i64 d, .int .i64 g], v, .int .i64 e] w fun en w' => en = .returned (.tuple #[.int .i64 (kilV a b c d g l e), .int .i64 (kilE a b c d g l e)]) ∧ Below w.heap.size w w' := by
  have hl := read_len hrd
  have hm : l.length ≤ 100000 := by omega
  have HV : Kp (∀ W, Calls Try.prog 23 #[.agg #[.int .i64 a, .int .i64 b, .int .i64 c, .int .i64 d, .int .i64 g]] W fun en w' => en = .returned (.bool true) ∧ Below W.heap.size W w') := ⟨fun W => rValidRule_yes h W⟩
  have HR : Kp (∀ W, Below w.heap.size w W → Calls Try.prog 21 #[v] W fun en w' => en = .returned (.bool true) ∧ Below W.heap.size W w') := ⟨fun W hW => rValidReadings_yes v l W (hs.below hW) hm hrd⟩
  have HC : Kp (∀ W fr, Below w.heap.size w W → Calls Try.prog 25 #[.agg #[.int .i64 a, .int .i64 b, .int .i64 c, .int .i64 d, .int .i64 g], v, .int .i64 e, .int .i64 fr] W fun en w' => en = .returned (.tuple #[.int .i64 (oneV a b c d g l e fr [chP a b]), .int .i64 (oneE a b c d g l e fr [chP a b])]) ∧ Below W.heap.size W w') := ⟨fun W fr hW => rChill_any a b c d g v l e fr W (hs.below hW) hm⟩
  have HT : Kp (∀ W fr, Below w.heap.size w W → Calls Try.prog 27 #[.agg #[.int .i64 a, .int .i64 b, .int .i64 c, .int .i64 d, .int .i64 g], v, .int .i64 e, .int .i64 fr] W fun en w' => en = .returned (.tuple #[.int .i64 (oneV a b c d g l e fr (thL d g)), .int .i64 (oneE a b c d g l e fr (thL d g))]) ∧ Below W.heap.size W w') := ⟨fun W fr hW => rThaw_any a b c d g v l e fr W (hs.below hW) hm⟩
  obtain ⟨-, -, -, hb, hc, hd⟩ := rule_iff.1 h
  have e0 : kilL a b c d g = killL a b d g n := by unfold kilL; rw [hcn]; congr 1
  have HCN := Kp.mk hcn
  have HBD := Kp.mk (And.intro hb hd)
  obtain ⟨bl, ol, cl, rfl, hbl, hc0⟩ := first_of hs hl.1
  have HC0 := Kp.mk hc0
  have HBL := Lib.hid hbl
  have hl0 : (0 : Int) < (l.length : Int) := by omega
  have hc5 : 1 ≤ c ∧ c ≤ 5 := hc
  by_cases hck : chkE l e [] = 0
  · have hg := (chk_good hck).1
    have HG := Kp.mk hg
    have h0 : ckE a b c d g l e [] = 0 := ck_zero h hg rfl
    have HKV : Kp (kilV a b c d g l e = endV (strs l e l.length) (firstH l) (killL a b d g n)) := ⟨by unfold kilV; rw [if_pos h0, e0]⟩
    have HKE : Kp (kilE a b c d g l e = endE (strs l e l.length) (firstH l) (killL a b d g n)) := ⟨by unfold kilE; rw [if_pos h0, e0]⟩
    have ONE : Kp (∀ fr rs, firstH l ≤ fr ∧ fr ≤ e → oneV a b c d g l e fr rs = endV (strs l e l.length) fr rs ∧ oneE a b c d g l e fr rs = endE (strs l e l.length) fr rs) := ⟨fun fr rs hf => by
      have h0 : ckE a b c d g l e [fr] = 0 := ck_zero h hg (by rw [allB1, in_iff]; exact hf)
      unfold oneV oneE
      rw [if_pos h0, if_pos h0]
      exact ⟨rfl, rfl⟩⟩
    have HFE : Kp (firstH l ≤ e) := ⟨first_end hg⟩
    have HBND : Kp (∀ k p, seqR (strs l e l.length) (firstH l) (killL a b d g k) = some p → firstH l ≤ p ∧ p ≤ e) := ⟨fun k p hp => ⟨seq_ge (chain_strs hg) (killL_hours hb.1 hd.1 k) (Int.le_refl _) hp, seq_le (strs_asc hg) (strs_end hg) hp (first_end hg)⟩⟩
    have HBNQ : Kp (∀ p q, (firstH l ≤ p ∧ p ≤ e) → seqR (strs l e l.length) p (thL d g) = some q → firstH l ≤ q ∧ q ≤ e) := ⟨fun p q hp hq => ⟨Int.le_trans hp.1 (seq_ge (chain_strs hg) (thL_hours hd.1) hp.1 hq), seq_le (strs_asc hg) (strs_end hg) hq hp.2⟩⟩
    have HC1 : Kp (∀ W fr, Below w.heap.size w W → (firstH l ≤ fr ∧ fr ≤ e) → Calls Try.prog 25 #[.agg #[.int .i64 a, .int .i64 b, .int .i64 c, .int .i64 d, .int .i64 g], .slice (some ⟨bl, ol, none⟩) l.length cl, .int .i64 e, .int .i64 fr] W fun en w' => en = .returned (.tuple #[.int .i64 (endV (strs l e l.length) fr [chP a b]), .int .i64 (endE (strs l e l.length) fr [chP a b])]) ∧ Below W.heap.size W w') := ⟨fun W fr hW hf => by
      have := HC.out W fr hW
      rw [(ONE.out fr _ hf).1, (ONE.out fr _ hf).2] at this
      exact this⟩
    have HT1 : Kp (∀ W fr, Below w.heap.size w W → (firstH l ≤ fr ∧ fr ≤ e) → Calls Try.prog 27 #[.agg #[.int .i64 a, .int .i64 b, .int .i64 c, .int .i64 d, .int .i64 g], .slice (some ⟨bl, ol, none⟩) l.length cl, .int .i64 e, .int .i64 fr] W fun en w' => en = .returned (.tuple #[.int .i64 (endV (strs l e l.length) fr (thL d g)), .int .i64 (endE (strs l e l.length) fr (thL d g))]) ∧ Below W.heap.size W w') := ⟨fun W fr hW hf => by
      have := HT.out W fr hW
      rw [(ONE.out fr _ hf).1, (ONE.out fr _ hf).2] at this
      exact this⟩
    obtain ⟨XS, hXS⟩ : ∃ XS, strs l e l.length = XS := ⟨_, rfl⟩
    obtain ⟨F, hF⟩ : ∃ F, firstH l = F := ⟨_, rfl⟩
    obtain ⟨KV, hKV⟩ : ∃ KV, kilV a b c d g l e = KV := ⟨_, rfl⟩
    obtain ⟨KE, hKE⟩ : ∃ KE, kilE a b c d g l e = KE := ⟨_, rfl⟩
    rw [hKV] at HKV ⊢
    rw [hKE] at HKE ⊢
    rw [hXS, hF] at HKV HKE HBND
    rw [hXS, hF] at HBNQ HC1 HT1
    rw [hF] at HFE HC0
    have HC2 : Kp (∀ W, Below w.heap.size w W → Calls Try.prog 25 #[.agg #[.int .i64 a, .int .i64 b, .int .i64 c, .int .i64 d, .int .i64 g], .slice (some ⟨bl, ol, none⟩) l.length cl, .int .i64 e, .int .i64 F] W fun en w' => en = .returned (.tuple #[.int .i64 (endV XS F [chP a b]), .int .i64 (endE XS F [chP a b])]) ∧ Below W.heap.size W w') := ⟨fun W hW => HC1.out W F hW ⟨Int.le_refl _, HFE.out⟩⟩
    have HK0 : Kp (endV XS F [chP a b] = endV XS F (killL a b d g 0) ∧ endE XS F [chP a b] = endE XS F (killL a b d g 0)) := ⟨⟨rfl, rfl⟩⟩
    obtain ⟨V0, hV0⟩ : ∃ V0, endV XS F [chP a b] = V0 := ⟨_, rfl⟩
    obtain ⟨E0, hE0⟩ : ∃ E0, endE XS F [chP a b] = E0 := ⟨_, rfl⟩
    rw [hV0, hE0] at HC2 HK0
    clear HC HT ONE hs h hrd hcn hb hc hd e0 hc0 hbl hck hg h0 hm hl hXS hF hKV hKE hV0 hE0
    go_enter Try.func29, Try.ntmps29
    go_wp2_with fail
    refine (HV.out _).mono ?_
    rintro en w1 ⟨rfl, hb1⟩
    have HF1 : Kp (Below (w.heap.size + 1) (w.alloc (.cells #[.int .i64 a, .int .i64 b, .int .i64 c, .int .i64 d, .int .i64 g] 26)) w1) := ⟨by rw [World.size_alloc] at hb1; exact hb1⟩
    clear hb1
    have hz1 := (fr_cells HF1.out).2.2.2.2.2
    go_wp2_with fail
    refine (HR.out _ (fr_below HF1.out)).mono ?_
    rintro en w2 ⟨rfl, hb2⟩
    have HF2 := Kp.mk (HF1.out.trans (hb2.mono (by omega)))
    clear hb2 hz1
    obtain ⟨f0, f1, f2, f3, f4, hz1⟩ := fr_cells HF2.out
    have HB2 := Kp.mk (fr_below HF2.out)
    have c0 := (HB2.out.cell (p := ⟨bl, _, none⟩) HBL.out).trans HC0.out
    have lb : bl < w2.heap.size := Nat.lt_of_lt_of_le HBL.out HB2.out.size
    have q0 := fun d os => cell_regrown f0 d os
    have q1 := fun d os => cell_regrown f1 d os
    have q2 := fun d os => cell_regrown f2 d os
    have q3 := fun d os => cell_regrown f3 d os
    have q4 := fun d os => cell_regrown f4 d os
    have q7 := fun d os => cell_regrown c0 d os
    have K1 : Kp (∀ d os, _) := ⟨fun d os => HC2.out (grow (redrawn w2 d) os) (HB2.out.trans ((below_regrown w2 d os).mono HB2.out.size))⟩
    go_wp2
    refine wp_region_quiet_below (by kernel_rfl) (by kernel_rfl) ?_
    repeat (any_goals (first | go_big_quiet_step (first | (with_reducible exact Calls.regrown_of (K1.out _ _))) | quiet_step (first | (with_reducible exact Calls.regrown_of (K1.out _ _)))))
    refine wpQuiet_nil ?_
    intro _ hqw
    obtain ⟨⟨dq, osq⟩, hqv⟩ := hqw
    subst hqv
    have HFq : Kp (Below (w.heap.size + 1) (w.alloc (.cells #[.int .i64 a, .int .i64 b, .int .i64 c, .int .i64 d, .int .i64 g] 26)) (grow (redrawn w2 dq) osq)) := ⟨HF2.out.trans ((below_regrown w2 dq osq).mono (by omega))⟩
    clear q0 q1 q2 q3 q4 q7 K1 f0 f1 f2 f3 f4 c0 lb hz1
    obtain ⟨X, hX⟩ : ∃ X, grow (redrawn w2 dq) osq = X := ⟨_, rfl⟩
    rw [hX] at HFq ⊢
    clear hX
    go_wp2
    go_loopw [8, 9, 10] (fun at_ gg ks wr => ∃ (k : Nat) (A G : Int), at_ = .int .i64 A ∧ gg = .int .i64 G ∧ ks = .int .i64 ((k : Int) + 1) ∧ k ≤ n ∧ Kp (A = endV XS F (killL a b d g k) ∧ G = endE XS F (killL a b d g k)) ∧ Kp (Below (w.heap.size + 1) (w.alloc (.cells #[.int .i64 a, .int .i64 b, .int .i64 c, .int .i64 d, .int .i64 g] 26)) wr)) (fun _ _ ks _ => n + 1 - (intOf ks).toNat)
    case atStart => exact ⟨0, V0, E0, rfl, rfl, rfl, Nat.zero_le _, HK0, HFq⟩
    case round =>
      clear HK0 HFq HB2 HF2 HF1
      obtain ⟨k, A, G, rfl, rfl, rfl, hk, HAG, HF⟩ := hrel
      obtain ⟨f0, f1, f2, f3, f4, hz1⟩ := fr_cells HF.out
      have HB := Kp.mk (fr_below HF.out)
      cases hsk : seqR XS F (killL a b d g k) with
      | none =>
        have hG : G = 8 := by rw [HAG.out.2]; exact (end_none hsk).2
        have HE : Kp (KV = 0 ∧ KE = 8) := ⟨by rw [HKV.out, HKE.out]; exact end_none (kill_never hsk hk)⟩
        subst hG
        clear hsk HAG
        by_cases hlt : k < n
        · have o1 : (k : Int) + 1 < c := by have := HCN.out; omega
          go_wp2
          go_ret2
          exact ⟨ret_two HE.out.1.symm HE.out.2.symm, HB.out⟩
        · have o1 : ¬ (k : Int) + 1 < c := by have := HCN.out; omega
          go_wp2
          go_ret2
          exact ⟨ret_two HE.out.1.symm HE.out.2.symm, HB.out⟩
      | some p =>
        have hG : G = 0 := by rw [HAG.out.2]; exact (end_some hsk).2
        have hA : A = p := by rw [HAG.out.1]; exact (end_some hsk).1
        subst hG
        subst hA
        have hp1 := HBND.out k A hsk
        have hnx := kill_next hsk
        by_cases hlt : k < n
        · have o1 : (k : Int) + 1 < c := by have := HCN.out; omega
          cases hq : seqR XS A (thL d g) with
          | none =>
            rw [hq] at hnx
            have HAG2 : Kp ((0 : Int) = endV XS F (killL a b d g (k + 1)) ∧ (8 : Int) = endE XS F (killL a b d g (k + 1))) := ⟨⟨(end_none hnx).1.symm, (end_none hnx).2.symm⟩⟩
            have HTk : Kp (∀ W, Below w.heap.size w W → Calls Try.prog 27 #[.agg #[.int .i64 a, .int .i64 b, .int .i64 c, .int .i64 d, .int .i64 g], .slice (some ⟨bl, ol, none⟩) l.length cl, .int .i64 e, .int .i64 A] W fun en w' => en = .returned (.tuple #[.int .i64 0, .int .i64 8]) ∧ Below W.heap.size W w') := ⟨fun W hW => by
              have := HT1.out W A hW hp1
              rw [(end_none hq).1, (end_none hq).2] at this
              exact this⟩
            clear hq hnx hsk hp1 HAG
            go_wp2_with fail
            refine (HTk.out _ HB.out).mono ?_
            rintro en w4 ⟨rfl, hb4⟩
            have HF4 := Kp.mk (HF.out.trans (hb4.mono (by omega)))
            clear hb4 f0 f1 f2 f3 f4 hz1
            go_wp2
            go_roundw
            case rel => exact ⟨k + 1, 0, 8, rfl, rfl, by go_num, by omega, HAG2, HF4⟩
            case measure => simp [intOf]; omega
          | some q =>
            rw [hq, Option.bind_some] at hnx
            have hq1 := HBNQ.out A q hp1 hq
            have HTk : Kp (∀ W, Below w.heap.size w W → Calls Try.prog 27 #[.agg #[.int .i64 a, .int .i64 b, .int .i64 c, .int .i64 d, .int .i64 g], .slice (some ⟨bl, ol, none⟩) l.length cl, .int .i64 e, .int .i64 A] W fun en w' => en = .returned (.tuple #[.int .i64 q, .int .i64 0]) ∧ Below W.heap.size W w') := ⟨fun W hW => by
              have := HT1.out W A hW hp1
              rw [(end_some hq).1, (end_some hq).2] at this
              exact this⟩
            have HCk : Kp (∀ W, Below w.heap.size w W → Calls Try.prog 25 #[.agg #[.int .i64 a, .int .i64 b, .int .i64 c, .int .i64 d, .int .i64 g], .slice (some ⟨bl, ol, none⟩) l.length cl, .int .i64 e, .int .i64 q] W fun en w' => en = .returned (.tuple #[.int .i64 (endV XS q [chP a b]), .int .i64 (endE XS q [chP a b])]) ∧ Below W.heap.size W w') := ⟨fun W hW => HC1.out W q hW hq1⟩
            have HAG2 : Kp (endV XS q [chP a b] = endV XS F (killL a b d g (k + 1)) ∧ endE XS q [chP a b] = endE XS F (killL a b d g (k + 1))) := ⟨by unfold endV endE; rw [hnx]; exact ⟨rfl, rfl⟩⟩
            obtain ⟨V1, hV1⟩ : ∃ V1, endV XS q [chP a b] = V1 := ⟨_, rfl⟩
            obtain ⟨E1, hE1⟩ : ∃ E1, endE XS q [chP a b] = E1 := ⟨_, rfl⟩
            rw [hV1, hE1] at HCk HAG2
            clear hq hnx hsk hp1 HAG hq1 hV1 hE1
            go_wp2_with fail
            refine (HTk.out _ HB.out).mono ?_
            rintro en w4 ⟨rfl, hb4⟩
            have HF4 := Kp.mk (HF.out.trans (hb4.mono (by omega)))
            have HB4 := Kp.mk (fr_below HF4.out)
            clear hb4 f0 f1 f2 f3 f4 hz1
            obtain ⟨f0, f1, f2, f3, f4, hz1⟩ := fr_cells HF4.out
            go_wp2_with fail
            refine (HCk.out _ HB4.out).mono ?_
            rintro en w5 ⟨rfl, hb5⟩
            have HF5 := Kp.mk (HF4.out.trans (hb5.mono (by omega)))
            clear hb5 f0 f1 f2 f3 f4 hz1
            go_wp2
            go_roundw
            case rel => exact ⟨k + 1, V1, E1, rfl, rfl, by go_num, by omega, HAG2, HF5⟩
            case measure => simp [intOf]; omega
        · have hkn : k = n := by omega
          have o1 : ¬ (k : Int) + 1 < c := by have := HCN.out; omega
          have HE : Kp (KV = A ∧ KE = 0) := ⟨by rw [HKV.out, HKE.out, ← hkn]; exact end_some hsk⟩
          clear hsk HAG hnx hp1 hkn
          go_wp2
          go_ret2
          exact ⟨ret_two HE.out.1.symm HE.out.2.symm, HB.out⟩
  · obtain ⟨r, hr⟩ : ∃ r, chkE l e [] = r := ⟨_, rfl⟩
    have h1 : ∀ ts, ckE a b c d g l e ts = r := fun ts => (ck_chk h hck).trans hr
    rw [hr] at hck
    have HE : Kp (kilV a b c d g l e = 0 ∧ kilE a b c d g l e = r) := ⟨by
      unfold kilV kilE
      rw [h1, if_neg hck, if_neg hck]
      exact ⟨rfl, rfl⟩⟩
    obtain ⟨F, hF⟩ : ∃ F, firstH l = F := ⟨_, rfl⟩
    rw [hF] at HC0
    have HC2 : Kp (∀ W, Below w.heap.size w W → Calls Try.prog 25 #[.agg #[.int .i64 a, .int .i64 b, .int .i64 c, .int .i64 d, .int .i64 g], .slice (some ⟨bl, ol, none⟩) l.length cl, .int .i64 e, .int .i64 F] W fun en w' => en = .returned (.tuple #[.int .i64 0, .int .i64 r]) ∧ Below W.heap.size W w') := ⟨fun W hW => by
      have := HC.out W F hW
      have e1 : oneV a b c d g l e F [chP a b] = 0 := by unfold oneV; rw [h1, if_neg hck]
      have e2 : oneE a b c d g l e F [chP a b] = r := by unfold oneE; rw [h1, if_neg hck]
      rw [e1, e2] at this
      exact this⟩
    have hrz : (r == 0) = false := by rw [beq_eq_false_iff_ne]; exact hck
    have hrn : (r != 0) = true := by rw [bne_iff_ne]; exact hck
    obtain ⟨KV, hKV⟩ : ∃ KV, kilV a b c d g l e = KV := ⟨_, rfl⟩
    obtain ⟨KE, hKE⟩ : ∃ KE, kilE a b c d g l e = KE := ⟨_, rfl⟩
    rw [hKV, hKE] at HE ⊢
    clear HC HT hs h hrd hcn hb hc hd e0 hc0 hbl hck hm hl hF hr h1 hKV hKE HBD
    go_enter Try.func29, Try.ntmps29
    go_wp2_with fail
    refine (HV.out _).mono ?_
    rintro en w1 ⟨rfl, hb1⟩
    have HF1 : Kp (Below (w.heap.size + 1) (w.alloc (.cells #[.int .i64 a, .int .i64 b, .int .i64 c, .int .i64 d, .int .i64 g] 26)) w1) := ⟨by rw [World.size_alloc] at hb1; exact hb1⟩
    clear hb1
    have hz1 := (fr_cells HF1.out).2.2.2.2.2
    go_wp2_with fail
    refine (HR.out _ (fr_below HF1.out)).mono ?_
    rintro en w2 ⟨rfl, hb2⟩
    have HF2 := Kp.mk (HF1.out.trans (hb2.mono (by omega)))
    clear hb2 hz1
    obtain ⟨f0, f1, f2, f3, f4, hz1⟩ := fr_cells HF2.out
    have HB2 := Kp.mk (fr_below HF2.out)
    have c0 := (HB2.out.cell (p := ⟨bl, _, none⟩) HBL.out).trans HC0.out
    have lb : bl < w2.heap.size := Nat.lt_of_lt_of_le HBL.out HB2.out.size
    have q0 := fun d os => cell_regrown f0 d os
    have q1 := fun d os => cell_regrown f1 d os
    have q2 := fun d os => cell_regrown f2 d os
    have q3 := fun d os => cell_regrown f3 d os
    have q4 := fun d os => cell_regrown f4 d os
    have q7 := fun d os => cell_regrown c0 d os
    have K1 : Kp (∀ d os, _) := ⟨fun d os => HC2.out (grow (redrawn w2 d) os) (HB2.out.trans ((below_regrown w2 d os).mono HB2.out.size))⟩
    go_wp2
    refine wp_region_quiet_below (by kernel_rfl) (by kernel_rfl) ?_
    repeat (any_goals (first | go_big_quiet_step (first | (with_reducible exact Calls.regrown_of (K1.out _ _))) | quiet_step (first | (with_reducible exact Calls.regrown_of (K1.out _ _)))))
    refine wpQuiet_nil ?_
    intro _ hqw
    obtain ⟨⟨dq, osq⟩, hqv⟩ := hqw
    subst hqv
    have HFq : Kp (Below (w.heap.size + 1) (w.alloc (.cells #[.int .i64 a, .int .i64 b, .int .i64 c, .int .i64 d, .int .i64 g] 26)) (grow (redrawn w2 dq) osq)) := ⟨HF2.out.trans ((below_regrown w2 dq osq).mono (by omega))⟩
    clear q0 q1 q2 q3 q4 q7 K1 f0 f1 f2 f3 f4 c0 lb hz1
    obtain ⟨X, hX⟩ : ∃ X, grow (redrawn w2 dq) osq = X := ⟨_, rfl⟩
    rw [hX] at HFq ⊢
    clear hX
    obtain ⟨f0, f1, f2, f3, f4, hz1⟩ := fr_cells HFq.out
    have HBq := Kp.mk (fr_below HFq.out)
    by_cases h1c : 1 < c
    · go_wp2
      refine wp_loop_rounds 1 ?_
      rw [rounds_succ]
      go_wp2
      go_ret2
      exact ⟨ret_two HE.out.1.symm HE.out.2.symm, HBq.out⟩
    · go_wp2
      refine wp_loop_rounds 1 ?_
      rw [rounds_succ]
      go_wp2
      go_ret2
      exact ⟨ret_two HE.out.1.symm HE.out.2.symm, HBq.out⟩
theorem rKilled_any (a b c d g : Int) (v : Value) (l : List Rd) (e : Int) (w : World) (hs : RS w v l) (hm : l.length ≤ 100000) :
    Calls Try.prog 29 #[.agg #[.int .i64 a, .int .i64 b, .int .i64 c, .int .i64 d, .int .i64 g], v, .int .i64 e] w fun en w' => en = .returned (.tuple #[.int .i64 (kilV a b c d g l e), .int .i64 (kilE a b c d g l e)]) ∧ Below w.heap.size w w' := by
  cases h1 : ruleB a b c d g with
  | false =>
    have hk : ckE a b c d g l e [] = 1 := ck_rule h1
    have e1 : kilV a b c d g l e = 0 := by unfold kilV; rw [hk]; rfl
    have e2 : kilE a b c d g l e = 1 := by unfold kilE; rw [hk]; rfl
    rw [e1, e2]
    exact rKilled_bad a b c d g v l e w hs hm (.inl h1)
  | true =>
    cases h2 : readB l with
    | false =>
      have hc : chkE l e [] = 1 := chk_no h2
      have hk : ckE a b c d g l e [] = 1 := (ck_chk h1 (by rw [hc]; decide)).trans hc
      have e1 : kilV a b c d g l e = 0 := by unfold kilV; rw [hk]; rfl
      have e2 : kilE a b c d g l e = 1 := by unfold kilE; rw [hk]; rfl
      rw [e1, e2]
      exact rKilled_bad a b c d g v l e w hs hm (.inr ⟨h1, h2⟩)
    | true =>
      have hc := (rule_iff.1 h1).2.2.2.2.1
      exact rKilled_go a b c d g v l e (c.toNat - 1) w hs h1 h2 (by omega)
end Go.Proofs.Ytifgdmalkebcaaa.Cd
