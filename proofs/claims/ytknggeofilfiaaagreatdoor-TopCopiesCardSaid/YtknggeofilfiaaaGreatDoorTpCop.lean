/-
  THE WALK of the law TopCopies.
-/
import Derived.Test.YtknggeofilfiaaaGreatDoorTpCopP
import Derived.Test.YtknggeofilfiaaaGreatDoorTpAwake
import Derived.Maps.OwnIn
namespace Go.Proofs.YtknggeofilfiaaaGreatDoor.Tp
open Go Go.RowKit Go.Maps Go.Proofs.YtknggeofilfiaaaGreatDoor.Cv
open Go.Proofs.YtknggeofilfiaaaGreatDoor.Mk (FB RL Fits validL cellsL)
attribute [-go_sem] Builtin.append_

/-- A label in a row of the call's own. -/
def OwnF (W : World) (B0 : Nat) (v : Value) (L : List FB) : Prop := W.ownsRow B0 27 2 v L.length (cellsL L)
theorem newsF {W : World} {Y : Nat} {f : FB} (h0 : W.cell? ⟨Y, 0, none⟩ = some (.string f.1)) (h1 : W.cell? ⟨Y, 1, none⟩ = some (.string f.2)) :
    ∀ j u, ([Value.string f.1, Value.string f.2] : List Value)[j]? = some u → W.cell? ((⟨Y, 0, none⟩ : Addr).add j) = some u := by
  intro j u hu
  match j with
  | 0 => simp at hu; subst hu; exact h0
  | 1 => simp at hu; subst hu; exact h1
  | j + 2 => simp at hu
theorem OwnF.shape {w : World} {base : Nat} {v : Value} {l : List FB} (h : OwnF w base v l) : ∃ g c, v = .slice g l.length c := by
  rcases h.2 with ⟨hv, h0⟩ | ⟨g, cap, cur, hv, -⟩
  · exact ⟨none, 0, by rw [hv, h0]⟩
  · exact ⟨_, _, hv⟩
theorem OwnF.rl {B : Nat} {wr : World} {v : Value} {L : List FB} (h : OwnF wr B v L) : RL wr v L := Mk.RowF.rl (B := B) (w := wr) ⟨h, Below.refl _ _⟩
/-- One field more: the run of the append, with what it leaves. -/
theorem OwnF.next {w : World} {base Y : Nat} {v : Value} {l : List FB} {f : FB} (h : OwnF w base v l) (h0 : w.cell? ⟨Y, 0, none⟩ = some (.string f.1)) (h1 : w.cell? ⟨Y, 1, none⟩ = some (.string f.2)) (hn : l.length ≤ 100000) (hb : base ≤ w.heap.size) :
    ∃ g c w', (Builtin.append_ #[22, 22] 22 #[v, .slice (some ⟨Y, 0, none⟩) 1 1]).run Tryz.prog w = .ok (.slice g (l.length + 1) c) w' ∧ OwnF w' base (.slice g (l.length + 1) c) (l ++ [f]) ∧ w.grownBy w' v.ownBlock ∧ ((Value.slice g (l.length + 1) c).ownBlock = v.ownBlock ∨ (Value.slice g (l.length + 1) c).ownBlock = some w.heap.size) := by
  obtain ⟨i0, hi, hz0, hz1, hz2⟩ := info_parts Mk.info_field
  obtain ⟨v', w', hrun, hown, hg, -, hat⟩ := run_append_own_at (P := Tryz.prog) (w := w) base 22 22 27 i0 (.agg #[.string ⟨#[]⟩, .string ⟨#[]⟩]) 2 32 Tryz.underlying22 hi hz0 hz1 hz2 rfl (by decide)
    v l.length (cellsL l) h ⟨Y, 0, none⟩ 1 1 [.string f.1, .string f.2] rfl (newsF h0 h1) (by simp [Value.oneCell']) (by unfold maxLen; omega) (by omega) hb
  have ho : OwnF w' base v' (l ++ [f]) := by
    unfold OwnF
    rw [List.length_append, Mk.cellsL_append]
    exact hown
  obtain ⟨g, c, hv⟩ := ho.shape
  rw [List.length_append, List.length_singleton] at hv
  subst hv
  exact ⟨g, c, w', hrun, ho, hg, hat⟩
/-- Two labels in rows of the call's own that lie apart. -/
structure Two (base : Nat) (w wr : World) (a b : Value) (A B : List FB) : Prop where
  one : OwnF wr base a A
  two : OwnF wr base b B
  apart : ∀ j, a.ownBlock = some j → b.ownBlock = some j → False
  below : Below base w wr
theorem Two.nil (w : World) : Two w.heap.size w w (.slice none 0 0) (.slice none 0 0) [] [] := ⟨World.ownsRow_nil _ _ _ _, World.ownsRow_nil _ _ _ _, (fun j h => by cases h), Below.refl _ _⟩
theorem Two.swap {base : Nat} {w wr : World} {a b : Value} {A B : List FB} (h : Two base w wr a b A B) : Two base w wr b a B A := ⟨h.two, h.one, fun j h1 h2 => h.apart j h2 h1, h.below⟩
theorem Two.alloc {base : Nat} {w wr : World} {a b : Value} {A B : List FB} (h : Two base w wr a b A B) (hb : base ≤ wr.heap.size) (o : Obj) : Two base w (wr.alloc o) a b A B :=
  ⟨World.ownsRow.alloc h.one o, World.ownsRow.alloc h.two o, h.apart, h.below.alloc hb o⟩
theorem Two.on {base : Nat} {w wr W : World} {a b : Value} {A B : List FB} (h : Two base w wr a b A B) (hb : base ≤ wr.heap.size) (k : Below wr.heap.size wr W) : Two base w W a b A B :=
  ⟨World.ownsRow.kept h.one (row := none) ⟨k.os, k.tape, k.output, k.size, fun i hi _ => k.block i hi⟩ (by cases a.ownBlock <;> simp), World.ownsRow.kept h.two (row := none) ⟨k.os, k.tape, k.output, k.size, fun i hi _ => k.block i hi⟩ (by cases b.ownBlock <;> simp), h.apart, h.below.trans (k.mono hb)⟩
/-- One field more in the first row. -/
theorem Two.more {base Y : Nat} {w wr : World} {a b : Value} {A B : List FB} {f : FB} (h : Two base w wr a b A B) (h0 : wr.cell? ⟨Y, 0, none⟩ = some (.string f.1)) (h1 : wr.cell? ⟨Y, 1, none⟩ = some (.string f.2)) (hn : A.length ≤ 100000) (hb : base ≤ wr.heap.size) :
    ∃ g c w', (Builtin.append_ #[22, 22] 22 #[a, .slice (some ⟨Y, 0, none⟩) 1 1]).run Tryz.prog wr = .ok (.slice g (A.length + 1) c) w' ∧ Two base w w' (.slice g (A.length + 1) c) b (A ++ [f]) B ∧ wr.grownBy w' a.ownBlock := by
  obtain ⟨g, c, w', hrun, ho, hg, hat⟩ := h.one.next h0 h1 hn hb
  have hlt2 := World.ownsRow.lt h.two
  have hlt1 := World.ownsRow.lt h.one
  refine ⟨g, c, w', hrun, ⟨ho, World.ownsRow.kept h.two hg ?_, fun j e1 e2 => ?_, h.below.grown hg hb (fun j e => (hlt1 j e).1)⟩, hg⟩
  · cases hbb : b.ownBlock with
    | none => exact .inl rfl
    | some j => exact .inr fun e => h.apart j e.symm hbb
  · rcases hat with e | e
    · exact h.apart j (e.symm.trans e1) e2
    · rw [e1] at e
      cases e
      have := (hlt2 _ e2).2
      omega
theorem bit01 (a : Int) : bits .and .i64 a 1 = 0 ∨ bits .and .i64 a 1 = 1 := by
  have h : bits .and .i64 a 1 = IntKind.i64.wrap (((BitVec.ofInt 64 a).toNat % 2 : Nat) : Int) := by
    show IntKind.i64.wrap ((BitVec.ofInt 64 a &&& BitVec.ofInt 64 1).toNat : Int) = _
    rw [BitVec.toNat_and, show (BitVec.ofInt 64 1).toNat = 1 by decide, Nat.and_one_is_mod]
  rw [h]
  rcases Nat.mod_two_eq_zero_or_one (BitVec.ofInt 64 a).toNat with e | e <;> rw [e]
  · exact .inl (by decide)
  · exact .inr (by decide)
/-- Whether a place is picked for the first copy, and for the second one. -/
def bitA (k0 : Int) (i : Nat) : Bool := bits .and .i64 (k0 / 2 ^ min i 64) 1 == 1
def bitB (k0 k1 : Int) (i : Nat) : Bool := bits .and .i64 (k0 / 2 ^ min i 64) 1 == 0 || bits .and .i64 (k1 / 2 ^ min i 64) 1 == 1
theorem bit_cover (k0 k1 : Int) (i : Nat) : (bitA k0 i || bitB k0 k1 i) = true := by
  unfold bitA bitB
  rcases bit01 (k0 / 2 ^ min i 64) with e | e <;> rw [e] <;> simp
def EndsC (w : World) (e : Ending) (w' : World) : Prop := e = .returned (.bool true) ∧ Below w.heap.size w w'
set_option maxRecDepth 100000 in
set_option maxHeartbeats 2000000 in
theorem copies_law (v : Value) (L : List FB) (k0 k1 : Int) (w : World) (hv : RL w v L) (hs : Fits L) (ht : Mk.Tab w) : Calls Tryz.prog 3 #[v, .agg #[.int .i64 k0, .int .i64 k1]] w (EndsC w) := by
  have HV : Kp (∀ W, Below w.heap.size w W → Calls Tryz.prog 4 #[v] W fun e w' => e = .returned (.bool (validL L)) ∧ Below W.heap.size W w') := ⟨fun W hW => Mk.ValidLabel_any v L W (hv.below hW) hs⟩
  have HA : Kp (∀ W, Below w.heap.size w W → Calls Tryz.prog 5 #[] W fun e w' => e = .returned (.bool true) ∧ Below W.heap.size W w') := ⟨fun W hW => awake5_any W (ht.below hW)⟩
  have HRL := Kp.mk hv
  obtain ⟨g, cap, rfl, hc⟩ := hv
  have HC := Kp.mk hc
  obtain ⟨M, hM⟩ : ∃ M, L.length = M := ⟨_, rfl⟩
  have HM := Kp.mk hM
  rw [hM] at HV HRL ⊢
  clear hc hM ht
  go_enter Tryz.func3, Tryz.ntmps3
  go_wp2_with fail
  refine (HV.out _ (by repeat (first | exact Below.refl _ _ | refine Below.alloc ?_ (by simp <;> omega) _ | refine bDrewN ?_ _ | refine Below.drew ?_))).mono ?_
  rintro en w1 ⟨rfl, hb1⟩
  have HB1 : Kp (Below w.heap.size w w1) := ⟨Below.trans (by repeat (first | refine Below.alloc ?_ (by (try simp) <;> omega) _ | refine bDrewN ?_ _ | refine Below.drew ?_ | refine Below.setCell ?_ (by (try simp) <;> omega) _ | exact Below.refl _ _)) (hb1.mono (by (try simp) <;> omega))⟩
  have hz1_0 : w.heap.size < w1.heap.size := by have := hb1.size; (try simp at this); omega
  obtain ⟨hc, hf⟩ := bcell hb1
  have c1_0_0 : w1.cell? ⟨w.heap.size, 0, none⟩ = some (.int .i64 k0) := (hc _ _ (by (try simp) <;> omega)).trans (by go_simp)
  have c1_0_1 : w1.cell? ⟨w.heap.size, 1, none⟩ = some (.int .i64 k1) := (hc _ _ (by (try simp) <;> omega)).trans (by go_simp)
  have z1_0 : ∀ j, w1.frozen? ⟨w.heap.size, j, none⟩ = false := fun j => (hf _ _ (by (try simp) <;> omega)).trans (by go_simp)
  clear hc hf hb1
  cases hvl : validL L with
  | false =>
    clear HV
    go_wp2_with fail
    refine (HA.out _ HB1.out).mono ?_
    rintro en w2 ⟨rfl, hb2⟩
    have HB2 := Kp.mk (HB1.out.trans (hb2.mono HB1.out.size))
    clear hb2
    go_wp2
    go_ret
    exact ⟨rfl, HB2.out⟩
  | true =>
    have HVL := Kp.mk hvl
    clear hvl HV
    have hz1 := HB1.out.size
    go_wp2_with fail
    go_loopw [19, 5, 6] (fun i a b wr => ∃ k : Nat, k ≤ M ∧ i = .int .i64 (k : Nat) ∧ Kp (Two w1.heap.size w1 wr a b (pk (bitA k0) L k) (pk (bitB k0 k1) L k))) (fun i _ _ _ => M - (intOf i).toNat)
    case atStart => exact ⟨0, Nat.zero_le _, rfl, ⟨by unfold pk; exact Two.nil _⟩⟩
    case round =>
      obtain ⟨k, hk, rfl, HK⟩ := hrel
      by_cases hlt : k < M
      · obtain ⟨f, hf⟩ : ∃ f, L[k]? = some f := ⟨_, List.getElem?_eq_getElem (by rw [HM.out]; exact hlt)⟩
        obtain ⟨b, o, hg, hbl, hb1, hb2⟩ := HC.out k f hf
        subst hg
        have c1 : wr.cell? ⟨b, o + k * 2, none⟩ = some (.string f.1) := (HK.out.below.cell (p := ⟨b, _, none⟩) (Nat.lt_of_lt_of_le hbl hz1)).trans ((HB1.out.cell (p := ⟨b, _, none⟩) hbl).trans hb1)
        have c2 : wr.cell? ⟨b, o + k * 2 + 1, none⟩ = some (.string f.2) := (HK.out.below.cell (p := ⟨b, _, none⟩) (Nat.lt_of_lt_of_le hbl hz1)).trans ((HB1.out.cell (p := ⟨b, _, none⟩) hbl).trans hb2)
        have d0 : wr.cell? ⟨w.heap.size, 0, none⟩ = some (.int .i64 k0) := (HK.out.below.cell (p := ⟨w.heap.size, 0, none⟩) hz1_0).trans c1_0_0
        have d1 : wr.cell? ⟨w.heap.size, 1, none⟩ = some (.int .i64 k1) := (HK.out.below.cell (p := ⟨w.heap.size, 1, none⟩) hz1_0).trans c1_0_1
        have hlt2 : (k : Int) < (M : Int) := by omega
        have hwr := HK.out.below.size
        have o4 : k ≤ 1000 := by have h8 := Mk.valid_len HVL.out; rw [HM.out] at h8; omega
        have n1 : w.heap.size < wr.heap.size := by omega
        have HA1 := Kp.mk (pk_len (bitA k0) L k)
        have HB2 := Kp.mk (pk_len (bitB k0 k1) L k)
        have HL8 := Kp.mk (Mk.valid_len HVL.out)
        have sa := pk_step (p := bitA k0) hf
        have sb := pk_step (p := bitB k0 k1) hf
        obtain ⟨X, hX⟩ : ∃ X, bits BinOp.and IntKind.i64 (k0 / 2 ^ min k 64) 1 = X := ⟨_, rfl⟩
        obtain ⟨Y, hY⟩ : ∃ Y, bits BinOp.and IntKind.i64 (k1 / 2 ^ min k 64) 1 = Y := ⟨_, rfl⟩
        have x01 : X = 0 ∨ X = 1 := hX ▸ bit01 _
        have y01 : Y = 0 ∨ Y = 1 := hY ▸ bit01 _
        rw [show bitA k0 k = (X == 1) by unfold bitA; rw [hX]] at sa
        rw [show bitB k0 k1 k = (X == 0 || Y == 1) by unfold bitB; rw [hX, hY]] at sb
        have SA := Kp.mk sa
        have SB := Kp.mk sb
        have HF : Kp (∀ W : World, (W.alloc (.cells #[.string f.1, .string f.2] 27)).cell? ⟨W.heap.size, 0, none⟩ = some (.string f.1) ∧ (W.alloc (.cells #[.string f.1, .string f.2] 27)).cell? ⟨W.heap.size, 1, none⟩ = some (.string f.2)) := ⟨fun W => ⟨by go_simp, by go_simp⟩⟩
        have HX2 : Kp (Two w1.heap.size w1 ((wr.alloc (.cells #[.string f.1, .string f.2] 27)).alloc (.cells #[.string f.1, .string f.2] 27)) u5 u6 (pk (bitA k0) L k) (pk (bitB k0 k1) L k)) := ⟨(HK.out.alloc hwr _).alloc (by simp; omega) _⟩
        have HZ2 : Kp (((wr.alloc (.cells #[.string f.1, .string f.2] 27)).alloc (.cells #[.string f.1, .string f.2] 27)).cell? ⟨wr.heap.size + 1, 0, none⟩ = some (.string f.1) ∧ ((wr.alloc (.cells #[.string f.1, .string f.2] 27)).alloc (.cells #[.string f.1, .string f.2] 27)).cell? ⟨wr.heap.size + 1, 1, none⟩ = some (.string f.2)) := ⟨by
          have h := HF.out (wr.alloc (.cells #[.string f.1, .string f.2] 27))
          rwa [show (wr.alloc (.cells #[.string f.1, .string f.2] 27)).heap.size = wr.heap.size + 1 by simp] at h⟩
        have HKO := Kp.mk HK.out.one
        clear hb1 hb2 hf sa sb HK
        rcases x01 with rfl | rfl
        · obtain ⟨g2, q2, W2, hrun, HT, hgr⟩ := HX2.out.swap.more HZ2.out.1 HZ2.out.2 (by have := HB2.out; have := HL8.out; omega) (by simp; omega)
          have HT2 := Kp.mk HT
          clear HT hgr HX2 HZ2
          go_wp2_with fail
          go_roundw
          case rel => exact ⟨k + 1, by omega, by go_num, by rw [SA.out, SB.out]; exact ⟨HT2.out.swap⟩⟩
          case measure => simp [intOf]; omega
        · obtain ⟨g2, q2, W2, hrun, HT, hgr⟩ := HX2.out.more HZ2.out.1 HZ2.out.2 (by have := HA1.out; have := HL8.out; omega) (by simp; omega)
          have hlt2 := World.ownsRow.lt HX2.out.one
          have hz2 : wr.heap.size + 2 ≤ W2.heap.size := by have := hgr.size; simp at this; omega
          have hne : some wr.heap.size ≠ u5.ownBlock := fun e => by
            have h1 := World.ownsRow.lt HKO.out _ e.symm
            omega
          have e0 : W2.cell? ⟨wr.heap.size, 0, none⟩ = some (.string f.1) := (hgr.cell_far ⟨wr.heap.size, 0, none⟩ (by simp; omega) hne).trans (by go_simp)
          have e1 : W2.cell? ⟨wr.heap.size, 1, none⟩ = some (.string f.2) := (hgr.cell_far ⟨wr.heap.size, 1, none⟩ (by simp; omega) hne).trans (by go_simp)
          have d0' : W2.cell? ⟨w.heap.size, 0, none⟩ = some (.int .i64 k0) := (HT.below.cell (p := ⟨w.heap.size, 0, none⟩) hz1_0).trans c1_0_0
          have d1' : W2.cell? ⟨w.heap.size, 1, none⟩ = some (.int .i64 k1) := (HT.below.cell (p := ⟨w.heap.size, 1, none⟩) hz1_0).trans c1_0_1
          have HT2 := Kp.mk HT
          clear HT hgr HX2 HZ2 hne hlt2
          rcases y01 with rfl | rfl
          · go_wp2_with fail
            go_roundw
            case rel => exact ⟨k + 1, by omega, by go_num, by rw [SA.out, SB.out]; exact ⟨HT2.out⟩⟩
            case measure => simp [intOf]; omega
          · obtain ⟨g3, q3, W3, hrun3, HT3, -⟩ := (HT2.out.alloc (by omega) (.cells #[.string f.1, .string f.2] 27)).swap.more (HF.out W2).1 (HF.out W2).2 (by have := HB2.out; have := HL8.out; omega) (by simp; omega)
            have HT4 := Kp.mk HT3
            clear HT3
            go_wp2_with fail
            go_roundw
            case rel => exact ⟨k + 1, by omega, by go_num, by rw [SA.out, SB.out]; exact ⟨HT4.out.swap⟩⟩
            case measure => simp [intOf]; omega
      · have hkm : k = M := by omega
        subst hkm
        have hlt2 : ¬ (k : Int) < (k : Int) := by omega
        have HW : Kp (Below w.heap.size w wr) := ⟨HB1.out.trans (HK.out.below.mono hz1)⟩
        have hcp := copies HVL.out hs (fun i _ => bit_cover k0 k1 i)
        rw [HM.out] at hcp
        have hla := Nat.le_trans (pk_len (bitA k0) L k) (Mk.valid_len HVL.out)
        have hlb := Nat.le_trans (pk_len (bitB k0 k1) L k) (Mk.valid_len HVL.out)
        have hl8 := Mk.valid_len HVL.out
        rw [HM.out] at hl8
        obtain ⟨A, hA⟩ : ∃ A, pk (bitA k0) L k = A := ⟨_, rfl⟩
        obtain ⟨B, hB⟩ : ∃ B, pk (bitB k0 k1) L k = B := ⟨_, rfl⟩
        rw [hA] at hcp hla HK
        rw [hB] at hcp hlb HK
        have HJ : Kp (∀ W, Below wr.heap.size wr W → Calls Tryz.prog 6 #[u5, u6] W fun e w' => (∃ v, e = .returned (.tuple #[v, .int .i64 0]) ∧ RL w' v L) ∧ Below W.heap.size W w') := ⟨fun W hW => by
          have h := Mk.Joined_sum u5 u6 A B W (HK.out.one.rl.below hW) (HK.out.two.rl.below hW) hcp.fa hcp.fb
          rw [hcp.je, hcp.jr] at h
          exact h⟩
        obtain ⟨R, hR⟩ : ∃ R, Mk.bothR A B = R := ⟨_, rfl⟩
        have HO : Kp (∀ W, Below wr.heap.size wr W → Calls Tryz.prog 7 #[u5, u6] W fun e w' => (∃ v, e = .returned (.tuple #[v, .int .i64 0]) ∧ RL w' v R) ∧ Below W.heap.size W w') := ⟨fun W hW => by
          have h := Mk.Both_sum u5 u6 A B W (HK.out.one.rl.below hW) (HK.out.two.rl.below hW) hcp.fa hcp.fb
          rw [hcp.be, hR] at h
          exact h⟩
        have HG : Kp (∀ W, Below wr.heap.size wr W → Calls Tryz.prog 9 #[u5, u6] W fun e w' => e = .returned (.bool true) ∧ Below W.heap.size W w') := ⟨fun W hW => by
          have h := Mk.Agree_any u5 u6 A B W (HK.out.one.rl.below hW) (HK.out.two.rl.below hW) hcp.fa hcp.fb
          rw [hcp.va, hcp.vb, hcp.ag] at h
          exact h⟩
        have HSL : Kp (∀ W u, Below w.heap.size w W → RL W u L → Calls Tryz.prog 8 #[u, .slice g k cap] W fun e w' => e = .returned (.bool true) ∧ Below W.heap.size W w') := ⟨fun W u hW hu => Mk.sameL_yes u _ L W (by rw [HM.out]; omega) hu (HRL.out.below hW)⟩
        obtain ⟨ga, ca, hua⟩ := HK.out.one.shape
        obtain ⟨gb, cb, hub⟩ := HK.out.two.shape
        have hbr := hcp.br
        rw [hR, HM.out] at hbr
        have hrl := HK.out
        obtain ⟨na, hna⟩ : ∃ n, A.length = n := ⟨_, rfl⟩
        obtain ⟨nb, hnb⟩ : ∃ n, B.length = n := ⟨_, rfl⟩
        obtain ⟨nr, hnr⟩ : ∃ n, R.length = n := ⟨_, rfl⟩
        have HNR := Kp.mk hnr
        rw [hna] at hua hbr hla
        rw [hnb] at hub hbr hlb
        rw [hnr] at hbr
        subst hua
        subst hub
        obtain ⟨S, hS⟩ : ∃ S : Int, (na : Int) + (nb : Int) = S := ⟨_, rfl⟩
        have e1 : IntKind.i64.wrap ((na : Int) + (nb : Int)) = S := (IntWalk.i64_in _ (by omega)).trans hS
        have e2 : IntKind.i64.wrap (S - (k : Int)) = (nr : Int) := (IntWalk.i64_in _ (by omega)).trans (by omega)
        clear hS
        clear hcp hbr hrl hA hB hR hna hnb hnr hla hlb hl8 HK
        go_wp2_with fail
        refine (HJ.out _ (Below.refl _ _)).mono ?_
        rintro en w3 ⟨⟨vj, rfl, hj⟩, hb3⟩
        have HB3 := Kp.mk hb3
        have HJL := Kp.mk hj
        clear hb3 hj
        go_wp2_with fail
        refine (HO.out _ HB3.out).mono ?_
        rintro en w4 ⟨⟨vm, rfl, hm⟩, hb4⟩
        have HB4 := Kp.mk (HB3.out.trans (hb4.mono HB3.out.size))
        have HJL4 := Kp.mk (HJL.out.below hb4)
        obtain ⟨gm, cm, rfl, -⟩ := hm
        rw [HNR.out]
        clear hb4 HJL
        go_wp2_with fail
        refine (HSL.out _ _ (HW.out.trans (HB4.out.mono HW.out.size)) HJL4.out).mono ?_
        rintro en w5 ⟨rfl, hb5⟩
        have HB5 := Kp.mk (HB4.out.trans (hb5.mono HB4.out.size))
        clear hb5
        go_wp2_with fail
        refine (HG.out _ HB5.out).mono ?_
        rintro en w6 ⟨rfl, hb6⟩
        have HB6 := Kp.mk (HB5.out.trans (hb6.mono HB5.out.size))
        clear hb6
        go_wp2_with fail
        refine (HA.out _ (HW.out.trans (HB6.out.mono HW.out.size))).mono ?_
        rintro en w7 ⟨rfl, hb7⟩
        have HB7 := Kp.mk (HB6.out.trans (hb7.mono HB6.out.size))
        clear hb7
        go_wp2
        go_ret
        exact ⟨rfl, HW.out.trans (HB7.out.mono HW.out.size)⟩
end Go.Proofs.YtknggeofilfiaaaGreatDoor.Tp
