/-
  WALKS (layer 4, cold): the reference's loads.
-/
import Derived.Test.YtbbbnfodjkpiaaaCdSum
import Derived.Test.YtbbbnfodjkpiaaaCdRAt
namespace Go.Proofs.Ytbbbnfodjkpiaaa.Cd
open Go Go.RowKit Go.Sort

set_option maxHeartbeats 1000000 in
theorem load_any (v : Value) (l : List Bx) (h : Int) (w : World) (hs : BS w v l) (hv : boxesB l = true) :
    Calls Try.prog 67 #[v, .int .i64 h] w fun en w' => en = .returned (.tuple #[.int .i64 (sumQ szQ l h), .int .i64 (sumQ oneQ l h)]) ∧ Below w.heap.size w w' := by
  have HBD : Kp (∀ k, k ≤ l.length → (0 ≤ sumQ szQ (l.take k) h ∧ sumQ szQ (l.take k) h ≤ 6000) ∧ (0 ≤ sumQ oneQ (l.take k) h ∧ sumQ oneQ (l.take k) h ≤ 6000)) := ⟨fun k hk => by
    have h1 := sumQ_bd (h := h) (szQ_bd hv) k hk
    have h3 := sumQ_bd (h := h) (oneQ_bd (l := l)) k hk
    have h2 := (boxes_iff.1 hv).1
    omega⟩
  have hl := (boxes_iff.1 hv).1
  have HVB : Kp (∀ (k : Nat) (x : Bx), l[k]? = some x → (0 ≤ x.f ∧ x.f < x.t ∧ x.t ≤ 1000000) ∧ 1 ≤ x.s ∧ x.s ≤ 100) := ⟨fun k x hx => bx_iff.1 ((boxes_iff.1 hv).2 x (List.mem_of_getElem? hx))⟩
  obtain ⟨g, c, rfl, -, hi⟩ := hs
  have HS := Lib.hid hi
  clear hi hv
  go_enter Try.func67, Try.ntmps67
  go_wp2
  go_loopw [4, 5, 10] (fun n m i wr => ∃ k : Nat, k ≤ l.length ∧ i = .int .i64 k ∧ n = .int .i64 (sumQ szQ (l.take k) h) ∧ m = .int .i64 (sumQ oneQ (l.take k) h) ∧ Kp (Below w.heap.size w wr)) (fun _ _ i _ => l.length - (intOf i).toNat)
  case atStart => exact ⟨0, Nat.zero_le _, rfl, by simp [sumQ], by simp [sumQ], ⟨Below.refl _ _⟩⟩
  case round =>
    obtain ⟨k, hk, rfl, rfl, rfl, HB⟩ := hrel
    by_cases hlt : k < l.length
    · obtain ⟨x, hx⟩ : ∃ x, l[k]? = some x := ⟨l[k], List.getElem?_eq_getElem hlt⟩
      obtain ⟨b, o, hg, hbl, hc1, hc2, hc3⟩ := HS.out k x hx
      subst hg
      have hbr : b < wr.heap.size := Nat.lt_of_lt_of_le hbl HB.out.size
      have c1 : wr.cell? ⟨b, o + k * 3, none⟩ = some (.int .i64 x.f) := (HB.out.cell (p := ⟨b, _, none⟩) hbl).trans hc1
      have c2 : wr.cell? ⟨b, o + k * 3 + 1, none⟩ = some (.int .i64 x.t) := (HB.out.cell (p := ⟨b, _, none⟩) hbl).trans hc2
      have c3 : wr.cell? ⟨b, o + k * 3 + 2, none⟩ = some (.int .i64 x.s) := (HB.out.cell (p := ⟨b, _, none⟩) hbl).trans hc3
      have HB2 : Kp (Below w.heap.size w (wr.alloc (.cells #[.int .i64 x.f, .int .i64 x.t, .int .i64 x.s] 64))) := ⟨HB.out.alloc HB.out.size _⟩
      have o1 : (k : Int) < (l.length : Int) := by omega
      have o4 : k ≤ 60 := by omega
      have hxb := HVB.out k x hx
      have hsn := sumQ_take (q := szQ) (h := h) hx
      have hsm := sumQ_take (q := oneQ) (h := h) hx
      have hbd := HBD.out k hk
      obtain ⟨N, hN⟩ : ∃ N, sumQ szQ (l.take k) h = N := ⟨_, rfl⟩
      obtain ⟨M, hM⟩ : ∃ M, sumQ oneQ (l.take k) h = M := ⟨_, rfl⟩
      rw [hN] at hsn hbd ⊢
      rw [hM] at hsm hbd ⊢
      have j0 : IntKind.i64.wrap (x.t - 1) = x.t - 1 := IntWalk.i64_in _ (by omega)
      clear hx hc1 hc2 hc3 hbl hN hM
      by_cases hin : x.f ≤ h ∧ h < x.t
      · have HT : Kp (inB x.f (x.t - 1) h = true) := ⟨in_yes (by omega) (by omega)⟩
        rw [if_pos hin] at hsn hsm
        have HSN := Kp.mk hsn
        have HSM := Kp.mk hsm
        have j1 : IntKind.i64.wrap (N + x.s) = N + x.s := IntWalk.i64_in _ (by omega)
        have j2 : IntKind.i64.wrap (M + 1) = M + 1 := IntWalk.i64_in _ (by omega)
        clear hsn hsm hin
        go_wp2_with fail
        refine (rwithin_at HT.out _).mono ?_
        rintro en w2 ⟨rfl, rfl⟩
        go_wp2
        go_roundw
        case rel => exact ⟨k + 1, by omega, by go_num, by rw [HSN.out]; rfl, by rw [HSM.out]; rfl, HB2⟩
        case measure => simp [intOf]; omega
      · have HT : Kp (inB x.f (x.t - 1) h = false) := ⟨in_no (by omega)⟩
        rw [if_neg hin] at hsn hsm
        have HSN := Kp.mk hsn
        have HSM := Kp.mk hsm
        clear hsn hsm hin
        go_wp2_with fail
        refine (rwithin_at HT.out _).mono ?_
        rintro en w2 ⟨rfl, rfl⟩
        go_wp2
        go_roundw
        case rel => exact ⟨k + 1, by omega, by go_num, by rw [HSN.out], by rw [HSM.out], HB2⟩
        case measure => simp [intOf]; omega
    · have hkl : k = l.length := by omega
      have HE : Kp (sumQ szQ (l.take k) h = sumQ szQ l h ∧ sumQ oneQ (l.take k) h = sumQ oneQ l h) := ⟨by rw [hkl, List.take_length]; exact ⟨rfl, rfl⟩⟩
      obtain ⟨N, hN⟩ : ∃ N, sumQ szQ (l.take k) h = N := ⟨_, rfl⟩
      obtain ⟨M, hM⟩ : ∃ M, sumQ oneQ (l.take k) h = M := ⟨_, rfl⟩
      rw [hN, hM] at HE
      rw [hN, hM]
      clear hkl hN hM
      go_wp2
      go_ret2
      exact ⟨ret_two HE.out.1 HE.out.2, HB.out⟩
end Go.Proofs.Ytbbbnfodjkpiaaa.Cd
