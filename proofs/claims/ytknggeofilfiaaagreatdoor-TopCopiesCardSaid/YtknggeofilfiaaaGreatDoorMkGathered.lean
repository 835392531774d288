/-
  THE WALK of gathered.
-/
import Derived.Test.YtknggeofilfiaaaGreatDoorMkMerge
import Derived.Test.YtknggeofilfiaaaGreatDoorIter
import Derived.Test.YtknggeofilfiaaaGreatDoorShelfM
import Derived.Maps.OwnSet
namespace Go.Proofs.YtknggeofilfiaaaGreatDoor.Mk
open Go Go.RowKit Go.Maps Go.Sort

/-- The fields of all labels, one behind the other, if none clashes with those before. -/
def gat : List FB → List (List FB) → Option (List FB)
  | F, [] => some F
  | F, L :: Ls => if (clashL F L).isSome then none else gat (F ++ L) Ls
/-- A row of labels laid at the address. -/
structure Labels (w : World) (ga : Option Addr) (Ls : List (List FB)) : Prop where
  at_ : ∀ i L, Ls[i]? = some L → ∃ b o v, ga = some ⟨b, o, none⟩ ∧ b < w.heap.size ∧ w.cell? ⟨b, o + i, none⟩ = some v ∧ RL w v L
theorem Copy_any {w : World} {bd bs nd ns : Nat} {A L : List FB} (hd : MapOf w bd nd (vals A)) (hs : MapOf w bs ns (vals L)) (hne : bd ≠ bs) (hroom : nd + ns ≤ maxLen) (hA : ∀ f ∈ A, f.1.size ≤ maxLen) (hL : ∀ f ∈ L, f.1.size ≤ maxLen) :
    Calls Tryz.prog 37 #[.map (some bd), .map (some bs)] w fun e w' => e = .returned (.tuple #[]) ∧ MapOf w' bd (nd + ns) (vals (A ++ L)) ∧ w.grownBy w' (some bd) := by
  have h1 := hs.own.size_le
  refine (AnyX.maps_Copy (ρ := Tryz.copy37_ren) Tryz.copy37 keyed _ bd bs nd ns _ _ w hd.own hs.own hne (by omega)).mono ?_
  rintro e w1 ⟨rfl, h, _, hg⟩
  rw [merge_vals A L hA hL] at h
  exact ⟨rfl, ⟨h.mono (by omega)⟩, hg⟩
theorem keys_len (L : List FB) : (strKeys (vals L)).length = Maps.size (vals L) := by
  obtain ⟨es, he⟩ := vals_isMap L
  rw [he]
  simp [strKeys, Maps.size]
theorem keys_size (L : List FB) (hs : ∀ f ∈ L, f.1.size ≤ maxLen) (s : List UInt8) (h : s ∈ strKeys (vals L)) : s.length ≤ maxLen := by
  obtain ⟨es, he, _, hk⟩ := vals_canonK L hs
  rw [he] at h
  obtain ⟨p, hp, rfl⟩ := List.mem_map.1 h
  obtain ⟨v, hv⟩ := hk p hp
  rw [keyOf_string Tryz.underlying9] at hv
  cases v <;> simp [mapKey, Tryz.underlying9] at hv
  obtain ⟨h1, h2⟩ := hv
  rw [← h2]
  simpa [strOf] using h1
theorem flat_next {Ls : List (List FB)} {k : Nat} {L : List FB} (h : Ls[k]? = some L) : (Ls.take (k + 1)).flatten = (Ls.take k).flatten ++ L := by
  obtain ⟨hk, e⟩ := List.getElem?_eq_some_iff.1 h
  rw [List.take_succ_eq_append_getElem hk, e]
  simp
theorem flat_le {Ls : List (List FB)} (k : Nat) : (Ls.take k).flatten.length ≤ Ls.flatten.length := by
  have h := congrArg List.flatten (List.take_append_drop k Ls)
  rw [List.flatten_append] at h
  rw [← h, List.length_append]
  omega
theorem gat_next {Ls : List (List FB)} {k : Nat} {L F : List FB} (h : Ls[k]? = some L) : gat F (Ls.drop k) = if (clashL F L).isSome then none else gat (F ++ L) (Ls.drop (k + 1)) := by
  obtain ⟨hk, e⟩ := List.getElem?_eq_some_iff.1 h
  rw [List.drop_eq_getElem_cons hk, e]
  rfl
/-- A row of texts. -/
def StrRow (B : Nat) (w : World) (v : Value) (S : List (List UInt8)) : Prop := ∃ a c, v = .slice a S.length c ∧ ∀ i s, S[i]? = some s → ∃ b o, a = some ⟨b, o, none⟩ ∧ B ≤ b ∧ b < w.heap.size ∧ w.cell? ⟨b, o + i, none⟩ = some (encStr s)
theorem strRow_of {B : Nat} {w : World} {v : Value} {S : List (List UInt8)} (h : w.ownsRow B 9 1 v S.length (S.map encStr)) : StrRow B w v S := by
  rcases h.2 with ⟨hv, h0⟩ | ⟨g, cap, cur, hv, hgB, hh, hnc, hcm, hcs, htake⟩
  · exact ⟨none, 0, by rw [hv, h0], fun i f hf => by
      have : S = [] := List.eq_nil_of_length_eq_zero h0
      subst this
      simp at hf⟩
  · refine ⟨some ⟨g, 0, none⟩, cap, hv, fun i f hf => ⟨g, 0, rfl, hgB, (Array.getElem?_eq_some_iff.1 hh).1, ?_⟩⟩
    have hil : i < S.length := (List.getElem?_eq_some_iff.1 hf).1
    rw [hv] at h
    rw [Nat.zero_add]
    refine (h.cellAt i (by omega)).trans ?_
    simp [hf]
/-- A key's field. -/
def fbOf (F : List FB) (s : List UInt8) : FB := (⟨s.toArray⟩, (lookL F ⟨s.toArray⟩).getD ⟨#[]⟩)
/-- The fields of the joined labels by ascending keys. -/
def sortedFB (ss : List (List UInt8)) (F : List FB) : List FB := (ss.mergeSort (fun x y => decide (x ≤ y))).map (fbOf F)
theorem look_plain {w : World} {B n : Nat} {L : List FB} (h : MapOf w B n (vals L)) (k : ByteArray) (hk : k.size ≤ maxLen) :
    (Instr.lookup 54 (.map (some B)) (.string k) false).run Tryz.prog w = .ok (.string ((lookL L k).getD ⟨#[]⟩)) w := by
  obtain ⟨es, clock, hb, F, hn, hD⟩ := h.own
  have hat := vals_look L k
  rw [hD] at hat
  rcases fit_look false keyed Tryz.underlying54 (zeroStr w) hb F (WideMaps.keyOf_string_mk Tryz.underlying9 hk) with ⟨h1, _, h3⟩ | ⟨e0, y, _, _, h1, h2, h3, _⟩
  · rw [h1]
    have h4 := (h3 .nil).symm.trans (hat .nil)
    cases hl : lookL L k with
    | none => rfl
    | some v => rw [hl] at h4; cases h4
  · rw [h1]
    obtain ⟨s, hs1, hs2, _⟩ := plainElem_string_inv Tryz.underlying9 h2
    have h4 := (h3 .nil).symm.trans (hat .nil)
    rw [hs2] at h4
    cases hl : lookL L k with
    | none => rw [hl] at h4; cases h4
    | some v =>
      rw [hl] at h4
      have h5 := litD_inj h4
      rw [hs1, h5]
      rfl
def GatPost (o : Option (List FB)) (e : Ending) (w' : World) : Prop := match o with
  | none => e = .returned (.tuple #[.slice none 0 0, .bool false])
  | some F => ∃ v ss, e = .returned (.tuple #[v, .bool true]) ∧ ss.Perm (strKeys (vals F)) ∧ RL w' v (sortedFB ss F)
theorem gathered_any (ga : Option Addr) (cap : Nat) (Ls : List (List FB)) (w : World) (h : Labels w ga Ls) (hs : ∀ L ∈ Ls, Fits L) (hn : Ls.flatten.length ≤ 1000000) (hk6 : Ls.length ≤ 1000000) :
    Calls Tryz.prog 18 #[.slice ga Ls.length cap] w fun e w' => GatPost (gat [] Ls) e w' ∧ Below w.heap.size w w' := by
  have HS : Kq (∀ k, ∀ f ∈ (Ls.take k).flatten, f.1.size ≤ maxLen) := ⟨fun k f hf => by
    obtain ⟨L, hL, hf⟩ := List.mem_flatten.1 hf
    exact ((hs L (List.mem_of_mem_take hL)).out f hf).1⟩
  have HN : Kq (∀ k, (Ls.take k).flatten.length ≤ 1000000) := ⟨fun k => Nat.le_trans (flat_le k) hn⟩
  have H := Lib.hid h
  have HF := Lib.hid hs
  clear h hs hn
  have hmm := @run_makeMap Tryz.prog 54
  go_enter Tryz.func18, Tryz.ntmps18
  go_wp2
  clear hmm
  go_loopw [15] (fun i wr => ∃ k n : Nat, k ≤ Ls.length ∧ i = .int .i64 (k : Int) ∧ n ≤ (Ls.take k).flatten.length ∧ MapOf wr w.heap.size n (vals (Ls.take k).flatten) ∧ Kq (gat (Ls.take k).flatten (Ls.drop k) = gat [] Ls) ∧ Below w.heap.size w wr) (fun i _ => Ls.length - (intOf i).toNat)
  case atStart => exact ⟨0, 0, Nat.zero_le _, rfl, Nat.zero_le _, ⟨World.ownsMap_made _ _ _ _⟩, ⟨rfl⟩, (Below.refl _ w).alloc (Nat.le_refl _) _⟩
  case round =>
    obtain ⟨k, n, hk, rfl, hnk, hown, hgat, hb⟩ := hrel
    have HB := Lib.hid hb
    have hz := hb.size
    clear hb
    by_cases hlt : k < Ls.length
    · obtain ⟨L, hL⟩ : ∃ L, Ls[k]? = some L := ⟨Ls[k], List.getElem?_eq_getElem hlt⟩
      obtain ⟨b, o, v, hg, hbl, hc, hv⟩ := H.out.at_ k L hL
      subst hg
      have c1 : wr.cell? ⟨b, o + k, none⟩ = some v := (HB.out.cell (p := ⟨b, _, none⟩) hbl).trans hc
      clear hc
      have hFL : Fits L := HF.out L (List.mem_of_getElem? hL)
      have hJ : Kq ((Ls.take (k + 1)).flatten = (Ls.take k).flatten ++ L) := ⟨flat_next hL⟩
      have hG : Kq _ := ⟨gat_next (F := (Ls.take k).flatten) hL⟩
      have hnL : Kq ((Ls.take k).flatten.length + L.length ≤ 1000000) := ⟨by have := HN.out (k + 1); rw [hJ.out] at this; simpa using this⟩
      have hlL : L.length ≤ 1000000 := by have := hnL.out; omega
      have H1 : Kq _ := ⟨firstClash_any w.heap.size n (Ls.take k).flatten v L wr hown (hv.below HB.out) hFL hlL⟩
      have H2 : Kq (∀ W, Below w.heap.size w W → _) := ⟨fun W hW => values_any v L W (hv.below hW) hFL hlL⟩
      have HOWN : Kq (MapOf wr w.heap.size n (vals (Ls.take k).flatten)) := ⟨hown⟩
      have hBlt : w.heap.size < wr.heap.size := hown.own.lt
      obtain ⟨g2, cap2, rfl, _⟩ := hv
      clear hown hL
      go_wp2_with fail
      refine H1.out.mono ?_
      rintro e w1 ⟨rfl, hb1⟩
      have HB1 : Kq (Below w.heap.size w w1) := ⟨HB.out.trans (hb1.mono hz)⟩
      have HM1 : Kq (MapOf w1 w.heap.size n (vals (Ls.take k).flatten)) := ⟨HOWN.out.below hb1⟩
      have hz1 := hb1.size
      clear hb1 H1
      cases hcl : clashL (Ls.take k).flatten L with
      | some q =>
        have hfin : gat [] Ls = none := by rw [← hgat.out, hG.out, hcl]; rfl
        simp only [clashV]
        go_wp2
        go_ret2
        refine ⟨?_, HB1.out⟩
        rw [hfin]
        exact rfl
      | none =>
        have hgat1 : Kq (gat (Ls.take (k + 1)).flatten (Ls.drop (k + 1)) = gat [] Ls) := ⟨by rw [← hgat.out, hG.out, hcl, hJ.out]; rfl⟩
        simp only [clashV]
        go_wp2_with fail
        refine (H2.out w1 HB1.out).mono ?_
        rintro e w2 ⟨⟨B, rfl, hB, hMB⟩, hb2⟩
        have HB2 : Kq (Below w.heap.size w w2) := ⟨HB1.out.trans (hb2.mono (by omega))⟩
        have HM2 : Kq (MapOf w2 w.heap.size n (vals (Ls.take k).flatten)) := ⟨HM1.out.below hb2⟩
        have H3 : Kq _ := ⟨Copy_any HM2.out hMB (by omega) (by have := hnL.out; unfold maxLen; omega) (HS.out k) (fun f hf => (hFL.out f hf).1)⟩
        have hz2 := hb2.size
        clear hb2 hMB
        go_wp2_with fail
        refine H3.out.mono ?_
        rintro e w3 ⟨rfl, hM3, hg3⟩
        have HB3 : Kq (Below w.heap.size w w3) := ⟨HB2.out.grown hg3 (by omega) (fun j e => by cases e; exact Nat.le_refl _)⟩
        have HM3 : Kq (MapOf w3 w.heap.size (n + L.length) (vals (Ls.take (k + 1)).flatten)) := ⟨by rw [hJ.out]; exact hM3⟩
        clear hM3 hg3 H3
        go_wp2
        go_roundw
        case rel => exact ⟨k + 1, n + L.length, by omega, by go_num, by rw [hJ.out, List.length_append]; omega, HM3.out, hgat1, HB3.out⟩
        case measure => simp [intOf]; omega
    · obtain ⟨W0, rfl⟩ : ∃ W0, W0 = wr := ⟨_, rfl⟩
      have hkl : k = Ls.length := by omega
      have hfin : Kq (gat [] Ls = some Ls.flatten) := ⟨by rw [← hgat.out, hkl, List.drop_length, List.take_length]; rfl⟩
      rw [hkl, List.take_length] at hown hnk
      have HM : Kq (MapOf W0 w.heap.size n (vals Ls.flatten)) := ⟨hown⟩
      clear hown
      obtain ⟨N, hN⟩ : ∃ N, Maps.size (vals Ls.flatten) = N := ⟨_, rfl⟩
      have hlen := HM.out.own.len Tryz.underlying54 3
      rw [hN] at hlen
      have hN6 : N ≤ 1000000 := by have h1 := HM.out.own.size_le; have h2 := HN.out Ls.length; rw [List.take_length] at h2; omega
      obtain ⟨i0, hi, hz0, hz1, hz2⟩ := info_parts info_field
      obtain ⟨wm, hmk, hrow, hgm⟩ := run_make_own (P := Tryz.prog) W0 W0.heap.size 22 27 i0 (.agg #[.string ⟨#[]⟩, .string ⟨#[]⟩]) 2 Tryz.underlying22 hi hz0 hz1 .i64 .i64 N (by rw [hz2]; omega) (by unfold maxLen; omega) (Nat.le_refl _)
      have HROW : Kq (RowF W0.heap.size W0 wm (.slice (some ⟨W0.heap.size, 0, none⟩) 0 N) []) := ⟨⟨hrow, (Below.refl _ W0).grown hgm (Nat.le_refl _) (fun j e => by cases e)⟩⟩
      have HMM : Kq (MapOf wm w.heap.size n (vals Ls.flatten)) := ⟨⟨HM.out.own.kept hgm (by simp)⟩⟩
      have HK : Kq _ := ⟨(callsIn_wide.1 (Tryz.maps_Keys_39 (some w.heap.size) wm))⟩
      have HSO : Kq _ := ⟨(callsIn_wide.1 (Tryz.slices_Sorted_keys_38_39 w.heap.size n _ _ wm HMM.out.own (by rw [hN]; unfold maxLen; omega) (by rw [hN]; omega)))⟩
      have HI := Lib.hid hi
      have HZ0 := Lib.hid hz0
      have HZ1 := Lib.hid hz1
      have HZ2 := Lib.hid hz2
      clear hrow hgm hi hz0 hz1 hz2
      go_wp2_with fail
      refine HK.out.mono ?_
      rintro e w' ⟨rfl, rfl⟩
      go_wp2_with fail
      refine HSO.out.mono ?_
      rintro e w5 ⟨v5, ss, rfl, hperm, hrow5, _, hb5⟩
      have hlen5 : (ss.mergeSort (fun x y => decide (x ≤ y))).length = ss.length := List.length_mergeSort _
      obtain ⟨S, hS⟩ : ∃ S, ss.mergeSort (fun x y => decide (x ≤ y)) = S := ⟨_, rfl⟩
      rw [hS] at hlen5 hrow5
      rw [← hlen5] at hrow5
      have HPERM : Kq (ss.Perm (strKeys (vals Ls.flatten))) := ⟨hperm⟩
      have HSEQ : Kq (ss.mergeSort (fun x y => decide (x ≤ y)) = S) := ⟨hS⟩
      have hwm : Below wm.heap.size wm w5 := ((Below.refl _ wm).alloc (Nat.le_refl _) _).trans (hb5.mono (by simp))
      have hwz : W0.heap.size ≤ wm.heap.size := HROW.out.bel.size
      have HM5 : Kq (MapOf w5 w.heap.size n (vals Ls.flatten)) := ⟨HMM.out.below hwm⟩
      have HR5 : Kq (RowF W0.heap.size W0 w5 (.slice (some ⟨W0.heap.size, 0, none⟩) 0 N) []) := ⟨HROW.out.next hwm hwz⟩
      have hz5 : wm.heap.size ≤ w5.heap.size := hwm.size
      obtain ⟨a5, c5, rfl, hc5⟩ := strRow_of hrow5
      have HC5 := Lib.hid hc5
      clear hperm hS hrow5 hb5 hc5 hwm hlen5 HMM HROW HK HSO
      have HKS : Kq (∀ s ∈ S, s.length ≤ maxLen) := ⟨fun s hs => by
        rw [← HSEQ.out] at hs
        exact keys_size _ (by have := HS.out Ls.length; rwa [List.take_length] at this) s (HPERM.out.mem_iff.1 (List.mem_mergeSort.1 hs))⟩
      have hSl : S.length ≤ 1000000 := by
        have h1 := HPERM.out.length_eq
        have h2 := keys_len Ls.flatten
        have h3 := congrArg List.length HSEQ.out
        rw [List.length_mergeSort] at h3
        omega
      go_wp2_with fail
      go_loopw [38, 9] (fun i v wr => ∃ j g c : Nat, j ≤ S.length ∧ i = .int .i64 (j : Int) ∧ v = .slice (some ⟨g, 0, none⟩) j c ∧ RowF W0.heap.size W0 wr v ((S.map (fbOf Ls.flatten)).take j) ∧ Kq (∀ i s, S[i]? = some s → ∃ b o, a5 = some ⟨b, o, none⟩ ∧ b ≠ g ∧ b < wr.heap.size ∧ wr.cell? ⟨b, o + i, none⟩ = some (encStr s))) (fun i _ _ => S.length - (intOf i).toNat)
      case atStart =>
        refine ⟨0, _, _, Nat.zero_le _, rfl, rfl, HR5.out, ⟨fun i s hs => ?_⟩⟩
        obtain ⟨b, o, h1, h2, h3, h4⟩ := HC5.out i s hs
        exact ⟨b, o, h1, by simp at h2; omega, h3, h4⟩
      case round =>
        obtain ⟨j, g, c, hj, rfl, rfl, hrow, hcs⟩ := hrel
        have HROW := Lib.hid hrow
        have HCS := Lib.hid hcs
        have hz6 := hrow.bel.size
        have HMQ : Kq (MapOf wr w.heap.size n (vals Ls.flatten)) := ⟨HM.out.below hrow.bel⟩
        clear hrow hcs
        by_cases hlt : j < S.length
        · obtain ⟨s, hs⟩ : ∃ s, S[j]? = some s := ⟨S[j], List.getElem?_eq_getElem hlt⟩
          obtain ⟨b, o, hg, hbg, hbl, hcell⟩ := HCS.out.out j s hs
          subst hg
          have hks : s.length ≤ maxLen := HKS.out s (List.mem_of_getElem? hs)
          have hlk := look_plain HMQ.out ⟨s.toArray⟩ (show s.toArray.size ≤ maxLen by simpa using hks)
          have c1 : wr.cell? ⟨b, o + j, none⟩ = some (.string ⟨s.toArray⟩) := hcell
          clear hcell
          obtain ⟨u, hu⟩ : ∃ u, (lookL Ls.flatten ⟨s.toArray⟩).getD ⟨#[]⟩ = u := ⟨_, rfl⟩
          rw [hu] at hlk
          have hown := HROW.out.own
          have hlT : ((S.map (fbOf Ls.flatten)).take j).length = j := by rw [List.length_take, List.length_map]; omega
          rw [hlT] at hown
          have hbel2 := HROW.out.bel
          have hT : Kq ((S.map (fbOf Ls.flatten)).take (j + 1) = (S.map (fbOf Ls.flatten)).take j ++ [((⟨s.toArray⟩, u) : FB)]) := ⟨by
            have h1 : (S.map (fbOf Ls.flatten))[j]? = some ((⟨s.toArray⟩, u) : FB) := by rw [List.getElem?_map, hs, ← hu]; rfl
            exact take_next h1⟩
          have hc3 : j + 1 ≤ maxLen := by unfold maxLen; omega
          have hc4 : (j + 1) * 32 ≤ 140737488355328 := by omega
          have hnew : Kq ((wr.alloc (Obj.cells #[Value.string ⟨s.toArray⟩, Value.string u] 27)).heap[wr.heap.size]? = some (Obj.cells #[Value.string ⟨s.toArray⟩, Value.string u] 27)) := ⟨heap_alloc_new _ _⟩
          have HLT : Kq (((S.map (fbOf Ls.flatten)).take j).length = j) := ⟨hlT⟩
          clear hu hlT hs hks
          go_wp2_with (at_builtin; refine wpList_append_lies _ rfl _ _ 22 rfl W0.heap.size 27 i0 (.agg #[.string ⟨#[]⟩, .string ⟨#[]⟩]) 2 32 Tryz.underlying22 HI.out HZ0.out HZ1.out HZ2.out rfl (by decide) _ _ _ rfl (hown.alloc _) ⟨wr.heap.size, 0, none⟩ 1 1 [.string ⟨s.toArray⟩, .string u] rfl rfl (World.news_of_block (cs := #[.string ⟨s.toArray⟩, .string u]) hnew.out) (by simp [Value.oneCell']) (by decide) hc3 hc4 (by simp; omega) (wr.heap.size + 1) (by simp) ?_; intro g' c' w4 hown' hgrow' hlies hg4)
          have HGR : Kq ((wr.alloc (Obj.cells #[Value.string ⟨s.toArray⟩, Value.string u] 27)).grownBy w4 (some g)) := ⟨hgrow'⟩
          have HLI : Kq (some g = some g' ∨ g' = wr.heap.size + 1) := ⟨hlies⟩
          clear hgrow' hlies
          go_roundw
          case rel =>
            have hlt2 := hown.lt
            refine ⟨j + 1, g', c', by omega, by go_num, rfl, ⟨?_, (hbel2.alloc hz6 _).grown HGR.out (by simp; omega) (fun j e => (hlt2 j e).1)⟩, ⟨fun i s1 hs1 => ?_⟩⟩
            · rw [hT.out, cellsL_append, List.length_append, HLT.out]
              simpa [cellsL] using hown'
            · obtain ⟨b1, o1, h1, h2, h3, h4⟩ := HCS.out.out i s1 hs1
              refine ⟨b1, o1, h1, ?_, ?_, ?_⟩
              · rcases HLI.out with h5 | h5
                · cases h5
                  exact h2
                · omega
              · have := HGR.out.size
                simp at this
                omega
              · refine (HGR.out.cell_far ⟨b1, o1 + i, none⟩ (by simp; omega) ?_).trans (Lib.cell?_alloc_some _ h4)
                simp [h2]
          case measure => simp [intOf]; omega
        · have hjl : j = S.length := by omega
          have hrl : Kq (RL wr (.slice (some ⟨g, 0, none⟩) j c) (S.map (fbOf Ls.flatten))) := ⟨by
            have h1 := HROW.out.rl
            rw [hjl, List.take_of_length_le (by simp)] at h1
            rw [hjl]
            exact h1⟩
          have HBF : Kq (Below w.heap.size w wr) := ⟨HB.out.trans (HROW.out.bel.mono hz)⟩
          clear hjl
          go_wp2
          go_ret2
          refine ⟨?_, HBF.out⟩
          rw [hfin.out]
          exact ⟨_, ss, rfl, HPERM.out, by unfold sortedFB; rw [HSEQ.out]; exact hrl.out⟩
end Go.Proofs.YtknggeofilfiaaaGreatDoor.Mk
