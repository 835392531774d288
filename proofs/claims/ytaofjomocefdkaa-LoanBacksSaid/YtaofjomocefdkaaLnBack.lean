/-
  WALKS (layer 9, loan): the program's Back and Renew.
-/
import Derived.Test.YtaofjomocefdkaaLnChgB
namespace Go.Proofs.Ytaofjomocefdkaa.Ln
open Go Go.RowKit Go.Sort

theorem changed_any (v : Value) (l : List Loan) (s : ByteArray) (d : Int) (f : Nat) (ok : Loan → Bool) (ch : Loan → Loan) (w : World) (hv : LS w v l) (hm : l.length ≤ 1000) (hs : s.size ≤ maxLen)
    (hEf : ∀ args W, (callFunc f args).run Try.prog W = .ok (.enter f args) W)
    (hQ : Kp (∀ W x, x ∈ l → Calls Try.prog f #[.agg #[.string x.p, .string x.t, .int .i64 x.out, .int .i64 x.due, .int .i64 x.back], .int .i64 d] W fun e w' => e = .returned (.tuple #[.agg #[.string (ch x).p, .string (ch x).t, .int .i64 (ch x).out, .int .i64 (ch x).due, .int .i64 (ch x).back], .bool (ok x)]) ∧ Below W.heap.size W w')) (hw : ∀ x ∈ l, (ch x).wf) :
    Calls Try.prog 73 #[v, .string s, .func (.func f) #[] #[], .int .i64 d] w (LsPost w (chgL l s d ok ch) (chgE l s d ok)) := by
  by_cases h : whE l s d = 0
  · exact changed_ok v l s d f ok ch w hv hs h hEf hQ hw
  · obtain ⟨e1, e2⟩ := chg_err (ok := ok) (ch := ch) h
    rw [e1, e2]
    exact (changed_no v l s d f w hv hm hs h).mono fun e w' ⟨h1, h2⟩ => ⟨_, h1, ⟨none, 0, rfl, Nat.le_refl _, fun i x hx => by simp at hx⟩, h2⟩
theorem Back_any (v : Value) (l : List Loan) (s : ByteArray) (d : Int) (w : World) (hv : LS w v l) (hm : l.length ≤ 1000) (hs : s.size ≤ maxLen) : Calls Try.prog 33 #[v, .string s, .int .i64 d] w (LsPost w (chgL l s d (backOk d) (backL d)) (chgE l s d (backOk d))) := by
  have HN : Kp (Calls Try.prog 73 #[v, .string s, .func (.func 74) #[] #[], .int .i64 d] w (LsPost w (chgL l s d (backOk d) (backL d)) (chgE l s d (backOk d)))) := ⟨changed_any v l s d _ (backOk d) (backL d) w hv hm hs (enters_of Try.func74 (by kernel_rfl) rfl) ⟨fun W x _ => back_any x d W⟩ fun x hx => hv.wfs x hx⟩
  obtain ⟨g, c, rfl⟩ := hv.shape
  obtain ⟨N, hN⟩ : ∃ N, l.length = N := ⟨_, rfl⟩
  rw [hN] at HN ⊢
  clear hv hm hs hN
  go_enter Try.func33, Try.ntmps33
  go_wp2_with fail
  refine HN.out.mono ?_
  rintro en w1 ⟨u, rfl, hl, hb⟩
  have HR := Kp.mk (And.intro hl hb)
  clear hl hb
  go_wp2
  go_ret2
  exact ⟨_, rfl, HR.out.1, HR.out.2⟩
theorem Renew_any (v : Value) (l : List Loan) (s : ByteArray) (d : Int) (w : World) (hv : LS w v l) (hm : l.length ≤ 1000) (hs : s.size ≤ maxLen) : Calls Try.prog 35 #[v, .string s, .int .i64 d] w (LsPost w (chgL l s d (dueOk d) (dueL d)) (chgE l s d (dueOk d))) := by
  have HN : Kp (Calls Try.prog 73 #[v, .string s, .func (.func 76) #[] #[], .int .i64 d] w (LsPost w (chgL l s d (dueOk d) (dueL d)) (chgE l s d (dueOk d)))) := ⟨changed_any v l s d _ (dueOk d) (dueL d) w hv hm hs (enters_of Try.func76 (by kernel_rfl) rfl) ⟨fun W x _ => renewed_any x d W⟩ fun x hx => hv.wfs x hx⟩
  obtain ⟨g, c, rfl⟩ := hv.shape
  obtain ⟨N, hN⟩ : ∃ N, l.length = N := ⟨_, rfl⟩
  rw [hN] at HN ⊢
  clear hv hm hs hN
  go_enter Try.func35, Try.ntmps35
  go_wp2_with fail
  refine HN.out.mono ?_
  rintro en w1 ⟨u, rfl, hl, hb⟩
  have HR := Kp.mk (And.intro hl hb)
  clear hl hb
  go_wp2
  go_ret2
  exact ⟨_, rfl, HR.out.1, HR.out.2⟩
end Go.Proofs.Ytaofjomocefdkaa.Ln
