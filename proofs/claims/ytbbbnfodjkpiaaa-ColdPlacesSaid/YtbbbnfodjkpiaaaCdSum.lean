/-
  WALKS (layer 4, cold): what is asked of the boxes that are there at an hour, by the program and by the reference.
-/
import Derived.Test.YtbbbnfodjkpiaaaCdBox
import Derived.Test.YtbbbnfodjkpiaaaCdBoxP
namespace Go.Proofs.Ytbbbnfodjkpiaaa.Cd
open Go Go.RowKit Go.Sort

theorem szQ_bd {l : List Bx} (h : boxesB l = true) : ∀ x ∈ l, 0 ≤ szQ x ∧ szQ x ≤ 100 := fun x hx => by
  have := bx_iff.1 ((boxes_iff.1 h).2 x hx); unfold szQ; omega
theorem oneQ_bd {l : List Bx} : ∀ x ∈ l, 0 ≤ oneQ x ∧ oneQ x ≤ 100 := fun x _ => by unfold oneQ; omega
theorem room_any (x : Bx) (w : World) : Calls Try.prog 66 #[.agg #[.int .i64 x.f, .int .i64 x.t, .int .i64 x.s]] w fun en w' => en = .returned (.int .i64 (szQ x)) ∧ Below w.heap.size w w' := by
  go_enter Try.func66, Try.ntmps66
  go_wp2
  go_ret
  exact ⟨rfl, (Below.refl _ _).alloc (Nat.le_refl _) _⟩
theorem one_any (x : Bx) (w : World) : Calls Try.prog 71 #[.agg #[.int .i64 x.f, .int .i64 x.t, .int .i64 x.s]] w fun en w' => en = .returned (.int .i64 (oneQ x)) ∧ Below w.heap.size w w' := by
  go_enter Try.func71, Try.ntmps71
  go_wp2
  go_ret
  exact ⟨rfl, by repeat (first | exact Below.refl _ _ | refine Below.alloc ?_ (by simp <;> omega) _ | refine bDrewN ?_ _ | refine Below.drew ?_)⟩
set_option maxHeartbeats 1000000 in
theorem sum_room (v : Value) (l : List Bx) (h : Int) (w : World) (hs : BS w v l) (hv : boxesB l = true) :
    Calls Try.prog 65 #[v, .int .i64 h, .func (.func 66) #[] #[]] w fun en w' => en = .returned (.int .i64 (sumQ szQ l h)) ∧ Below w.heap.size w w' := by
  have HBD : Kp (∀ k, k ≤ l.length → 0 ≤ sumQ szQ (l.take k) h ∧ sumQ szQ (l.take k) h ≤ 6000) := ⟨fun k hk => by
    have h1 := sumQ_bd (h := h) (szQ_bd hv) k hk
    have h2 := (boxes_iff.1 hv).1
    omega⟩
  have hl := (boxes_iff.1 hv).1
  obtain ⟨g, c, rfl, -, hi⟩ := hs
  have HS := Lib.hid hi
  clear hi hv
  go_enter Try.func65, Try.ntmps65
  go_wp2
  go_loopw [7, 12] (fun n i wr => ∃ k : Nat, k ≤ l.length ∧ i = .int .i64 k ∧ n = .int .i64 (sumQ szQ (l.take k) h) ∧ Kp (Below w.heap.size w wr)) (fun _ i _ => l.length - (intOf i).toNat)
  case atStart => exact ⟨0, Nat.zero_le _, rfl, by simp [sumQ], ⟨Below.refl _ _⟩⟩
  case round =>
    obtain ⟨k, hk, rfl, rfl, HB⟩ := hrel
    by_cases hlt : k < l.length
    · obtain ⟨x, hx⟩ : ∃ x, l[k]? = some x := ⟨l[k], List.getElem?_eq_getElem hlt⟩
      obtain ⟨b, o, hg, hbl, hc1, hc2, hc3⟩ := HS.out k x hx
      subst hg
      have hbr : b < wr.heap.size := Nat.lt_of_lt_of_le hbl HB.out.size
      have c1 : wr.cell? ⟨b, o + k * 3, none⟩ = some (.int .i64 x.f) := (HB.out.cell (p := ⟨b, _, none⟩) hbl).trans hc1
      have c2 : wr.cell? ⟨b, o + k * 3 + 1, none⟩ = some (.int .i64 x.t) := (HB.out.cell (p := ⟨b, _, none⟩) hbl).trans hc2
      have c3 : wr.cell? ⟨b, o + k * 3 + 2, none⟩ = some (.int .i64 x.s) := (HB.out.cell (p := ⟨b, _, none⟩) hbl).trans hc3
      have HB2 : Kp (Below w.heap.size w (wr.alloc (.cells #[.int .i64 x.f, .int .i64 x.t, .int .i64 x.s] 64))) := ⟨HB.out.alloc HB.out.size _⟩
      have o1 : (k : Int) < (l.length : Int) := by omega
      have o4 : k ≤ 60 := by omega
      have hsn := sumQ_take (q := szQ) (h := h) hx
      have hbd := HBD.out k hk
      have hbd2 := HBD.out (k + 1) hlt
      obtain ⟨N, hN⟩ : ∃ N, sumQ szQ (l.take k) h = N := ⟨_, rfl⟩
      rw [hN] at hsn hbd ⊢
      clear hx hc1 hc2 hc3 hbl hN
      by_cases h1 : x.f ≤ h
      · by_cases h2 : h < x.t
        · rw [if_pos ⟨h1, h2⟩] at hsn
          rw [hsn] at hbd2
          have HSN := Kp.mk hsn
          clear hsn
          have HC : Kp (∀ W, Calls Try.prog 66 #[.agg #[.int .i64 x.f, .int .i64 x.t, .int .i64 x.s]] W fun en w' => en = .returned (.int .i64 (szQ x)) ∧ Below W.heap.size W w') := ⟨fun W => room_any x W⟩
          obtain ⟨qx, hqx⟩ : ∃ qx, szQ x = qx := ⟨_, rfl⟩
          rw [hqx] at HC HSN hbd2
          clear hqx
          have j1 : IntKind.i64.wrap (N + qx) = N + qx := IntWalk.i64_in _ (by omega)
          go_wp2_with fail
          refine (HC.out _).mono ?_
          rintro en w3 ⟨rfl, hb3⟩
          have HB3 := Kp.mk (HB2.out.trans (hb3.mono HB2.out.size))
          clear hb3
          go_wp2
          go_roundw
          case rel => exact ⟨k + 1, by omega, by go_num, by rw [HSN.out], HB3⟩
          case measure => simp [intOf]; omega
        · rw [if_neg (fun hh => h2 hh.2)] at hsn
          have HSN := Kp.mk hsn
          clear hsn hbd2
          go_wp2
          go_roundw
          case rel => exact ⟨k + 1, by omega, by go_num, by rw [HSN.out], HB2⟩
          case measure => simp [intOf]; omega
      · rw [if_neg (fun hh => h1 hh.1)] at hsn
        have HSN := Kp.mk hsn
        clear hsn hbd2
        go_wp2
        go_roundw
        case rel => exact ⟨k + 1, by omega, by go_num, by rw [HSN.out], HB2⟩
        case measure => simp [intOf]; omega
    · have hkl : k = l.length := by omega
      have HE : Kp (sumQ szQ (l.take k) h = sumQ szQ l h) := ⟨by rw [hkl, List.take_length]⟩
      obtain ⟨N, hN⟩ : ∃ N, sumQ szQ (l.take k) h = N := ⟨_, rfl⟩
      rw [hN] at HE ⊢
      clear hkl hN
      go_wp2
      go_ret
      exact ⟨ret_int HE.out, HB.out⟩
set_option maxHeartbeats 1000000 in
theorem sum_one (v : Value) (l : List Bx) (h : Int) (w : World) (hs : BS w v l) (hv : boxesB l = true) :
    Calls Try.prog 65 #[v, .int .i64 h, .func (.func 71) #[] #[]] w fun en w' => en = .returned (.int .i64 (sumQ oneQ l h)) ∧ Below w.heap.size w w' := by
  have HBD : Kp (∀ k, k ≤ l.length → 0 ≤ sumQ oneQ (l.take k) h ∧ sumQ oneQ (l.take k) h ≤ 6000) := ⟨fun k hk => by
    have h1 := sumQ_bd (h := h) (oneQ_bd (l := l)) k hk
    have h2 := (boxes_iff.1 hv).1
    omega⟩
  have hl := (boxes_iff.1 hv).1
  obtain ⟨g, c, rfl, -, hi⟩ := hs
  have HS := Lib.hid hi
  clear hi hv
  go_enter Try.func65, Try.ntmps65
  go_wp2
  go_loopw [7, 12] (fun n i wr => ∃ k : Nat, k ≤ l.length ∧ i = .int .i64 k ∧ n = .int .i64 (sumQ oneQ (l.take k) h) ∧ Kp (Below w.heap.size w wr)) (fun _ i _ => l.length - (intOf i).toNat)
  case atStart => exact ⟨0, Nat.zero_le _, rfl, by simp [sumQ], ⟨Below.refl _ _⟩⟩
  case round =>
    obtain ⟨k, hk, rfl, rfl, HB⟩ := hrel
    by_cases hlt : k < l.length
    · obtain ⟨x, hx⟩ : ∃ x, l[k]? = some x := ⟨l[k], List.getElem?_eq_getElem hlt⟩
      obtain ⟨b, o, hg, hbl, hc1, hc2, hc3⟩ := HS.out k x hx
      subst hg
      have hbr : b < wr.heap.size := Nat.lt_of_lt_of_le hbl HB.out.size
      have c1 : wr.cell? ⟨b, o + k * 3, none⟩ = some (.int .i64 x.f) := (HB.out.cell (p := ⟨b, _, none⟩) hbl).trans hc1
      have c2 : wr.cell? ⟨b, o + k * 3 + 1, none⟩ = some (.int .i64 x.t) := (HB.out.cell (p := ⟨b, _, none⟩) hbl).trans hc2
      have c3 : wr.cell? ⟨b, o + k * 3 + 2, none⟩ = some (.int .i64 x.s) := (HB.out.cell (p := ⟨b, _, none⟩) hbl).trans hc3
      have HB2 : Kp (Below w.heap.size w (wr.alloc (.cells #[.int .i64 x.f, .int .i64 x.t, .int .i64 x.s] 64))) := ⟨HB.out.alloc HB.out.size _⟩
      have o1 : (k : Int) < (l.length : Int) := by omega
      have o4 : k ≤ 60 := by omega
      have hsn := sumQ_take (q := oneQ) (h := h) hx
      have hbd := HBD.out k hk
      have hbd2 := HBD.out (k + 1) hlt
      obtain ⟨N, hN⟩ : ∃ N, sumQ oneQ (l.take k) h = N := ⟨_, rfl⟩
      rw [hN] at hsn hbd ⊢
      clear hx hc1 hc2 hc3 hbl hN
      by_cases h1 : x.f ≤ h
      · by_cases h2 : h < x.t
        · rw [if_pos ⟨h1, h2⟩] at hsn
          rw [hsn] at hbd2
          have HSN := Kp.mk hsn
          clear hsn
          have HC : Kp (∀ W, Calls Try.prog 71 #[.agg #[.int .i64 x.f, .int .i64 x.t, .int .i64 x.s]] W fun en w' => en = .returned (.int .i64 (oneQ x)) ∧ Below W.heap.size W w') := ⟨fun W => one_any x W⟩
          obtain ⟨qx, hqx⟩ : ∃ qx, oneQ x = qx := ⟨_, rfl⟩
          rw [hqx] at HC HSN hbd2
          clear hqx
          have j1 : IntKind.i64.wrap (N + qx) = N + qx := IntWalk.i64_in _ (by omega)
          go_wp2_with fail
          refine (HC.out _).mono ?_
          rintro en w3 ⟨rfl, hb3⟩
          have HB3 := Kp.mk (HB2.out.trans (hb3.mono HB2.out.size))
          clear hb3
          go_wp2
          go_roundw
          case rel => exact ⟨k + 1, by omega, by go_num, by rw [HSN.out], HB3⟩
          case measure => simp [intOf]; omega
        · rw [if_neg (fun hh => h2 hh.2)] at hsn
          have HSN := Kp.mk hsn
          clear hsn hbd2
          go_wp2
          go_roundw
          case rel => exact ⟨k + 1, by omega, by go_num, by rw [HSN.out], HB2⟩
          case measure => simp [intOf]; omega
      · rw [if_neg (fun hh => h1 hh.1)] at hsn
        have HSN := Kp.mk hsn
        clear hsn hbd2
        go_wp2
        go_roundw
        case rel => exact ⟨k + 1, by omega, by go_num, by rw [HSN.out], HB2⟩
        case measure => simp [intOf]; omega
    · have hkl : k = l.length := by omega
      have HE : Kp (sumQ oneQ (l.take k) h = sumQ oneQ l h) := ⟨by rw [hkl, List.take_length]⟩
      obtain ⟨N, hN⟩ : ∃ N, sumQ oneQ (l.take k) h = N := ⟨_, rfl⟩
      rw [hN] at HE ⊢
      clear hkl hN
      go_wp2
      go_ret
      exact ⟨ret_int HE.out, HB.out⟩
end Go.Proofs.Ytbbbnfodjkpiaaa.Cd
