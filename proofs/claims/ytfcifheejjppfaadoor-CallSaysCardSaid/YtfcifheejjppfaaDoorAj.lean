/-
  The walks of the law's callOf, same, way. Condition: the ways lie in memory, of at most a million steps.
-/
import Derived.Test.YtfcifheejjppfaaDoorAi
namespace Go.Proofs.YtfcifheejjppfaaDoor
open Go.RowKit

theorem ints_is {A B : Option Addr} {a b c d : Nat} {l m : List Int} {x : Bool} {w : World} (ha : a = l.length) (hb : b = m.length) (hl : a ≤ 1000000) (hL : IntsAt w w.heap.size A l) (hM : IntsAt w w.heap.size B m) (hx : decide (l = m) = x) :
    Calls Tryd.prog 40 #[.slice A a c, .slice B b d] w fun e w' => e = .returned (.bool x) ∧ Below w.heap.size w w' := by
  subst ha hb hx
  refine (ints_any (c := c) (d := d) hl hL hM).mono ?_
  rintro e w' ⟨rfl, hb⟩
  refine ⟨?_, hb⟩
  congr 2
  by_cases e : l = m <;> simp [e]
theorem callof_is (o : Int) (A : Option Addr) (na ca : Nat) (B : Option Addr) (m cb : Nat) (x y : Int) (z : Nat) (w : World) :
    Calls Tryd.prog 14 #[.agg #[.int .i64 o, .slice A na ca, .slice B m cb, .int .i64 x, .int .i64 y, .int .u64 (z : Int)]] w fun e w' => e = .returned (.agg #[.int .i64 o, .slice A na ca, .slice B m cb, .int .i64 x, .int .i64 y, .int .u64 (z : Int)]) ∧ Below w.heap.size w w' := by
  go_enter Tryd.func14, Tryd.ntmps14
  go_wp2
  go_returns
  exact ⟨rfl, bal (bal (below_self w))⟩
theorem way_is (A : Option Addr) (n c : Nat) (w : World) : Calls Tryd.prog 8 #[.slice A n c] w fun e w' => e = .returned (.agg #[.slice A n c]) ∧ Below w.heap.size w w' := by
  go_enter Tryd.func8, Tryd.ntmps8
  go_wp2
  go_returns
  exact ⟨rfl, bal (below_self w)⟩
set_option maxHeartbeats 8000000 in
theorem same_is {o p : Int} {A B C D : Option Addr} {na ca nb cb nc cc nd cd : Nat} {a b c d : List Int} {x x' y y' : Int} {z z' : Nat} {r : Bool} {w : World} (ha : na = a.length) (hb : nb = b.length) (hc : nc = c.length) (hd : nd = d.length) (la : na ≤ 1000000) (lb : nb ≤ 1000000)
    (hA : IntsAt w w.heap.size A a) (hB : IntsAt w w.heap.size B b) (hC : IntsAt w w.heap.size C c) (hD : IntsAt w w.heap.size D d) (hr : Cl.eq ⟨o, a, b, x, y, z⟩ ⟨p, c, d, x', y', z'⟩ = r) :
    Calls Tryd.prog 19 #[.agg #[.int .i64 o, .slice A na ca, .slice B nb cb, .int .i64 x, .int .i64 y, .int .u64 (z : Int)], .agg #[.int .i64 p, .slice C nc cc, .slice D nd cd, .int .i64 x', .int .i64 y', .int .u64 (z' : Int)]] w fun e w' => e = .returned (.bool r) ∧ Below w.heap.size w w' := by
  have K1 := Bxs.new w [.int .i64 o, .slice A na ca, .slice B nb cb, .int .i64 x, .int .i64 y, .int .u64 (z : Int)] 39
  have K2 := Bxs.next w (.cells #[.int .i64 o, .slice A na ca, .slice B nb cb, .int .i64 x, .int .i64 y, .int .u64 (z : Int)] 39) [.int .i64 p, .slice C nc cc, .slice D nd cd, .int .i64 x', .int .i64 y', .int .u64 (z' : Int)] 39
  have H1 := Lib.hid (K1.on (below_alloc _ (.cells #[.int .i64 p, .slice C nc cc, .slice D nd cd, .int .i64 x', .int .i64 y', .int .u64 (z' : Int)] 39)))
  have H2 := Lib.hid K2
  have LA := Lib.hid hA
  have LB := Lib.hid hB
  have LC := Lib.hid hC
  have LD := Lib.hid hD
  have NA := Lib.hid ha
  have NB := Lib.hid hb
  have NC := Lib.hid hc
  have ND := Lib.hid hd
  have MA := Lib.hid la
  have MB := Lib.hid lb
  have HR := Lib.hid hr
  clear K1 K2 ha hb hc hd la lb hA hB hC hD hr
  go_enter Tryd.func19, Tryd.ntmps19
  by_cases ho : o = p
  · subst ho
    go_wp2_with fail
    generalize (w.alloc _).alloc _ = w1 at H1 H2 ⊢
    obtain ⟨e1, h1⟩ : ∃ e1, decide (a = c) = e1 := ⟨_, rfl⟩
    refine (ints_is (w := w1) NA.out NC.out MA.out (LA.out.on H1.out.old) (LC.out.on H1.out.old) h1).mono ?_
    have E1 := Lib.hid h1
    clear h1
    rintro e w2 ⟨rfl, hb⟩
    replace H1 := Lib.hid (H1.out.on hb)
    replace H2 := Lib.hid (H2.out.on hb)
    clear hb
    have f0 := H1.out.c 0 _ rfl
    have f1 := H1.out.c 1 _ rfl
    have f2 := H1.out.c 2 _ rfl
    have f3 := H1.out.c 3 _ rfl
    have f4 := H1.out.c 4 _ rfl
    have f5 := H1.out.c 5 _ rfl
    have q0 := H2.out.c 0 _ rfl
    have q1 := H2.out.c 1 _ rfl
    have q2 := H2.out.c 2 _ rfl
    have q3 := H2.out.c 3 _ rfl
    have q4 := H2.out.c 4 _ rfl
    have q5 := H2.out.c 5 _ rfl
    cases e1
    case false =>
      have := of_decide_eq_false E1.out
      go_wp2
      go_ret
      exact ⟨by rw [← HR.out]; simp [Cl.eq, this], H1.out.old⟩
    case true =>
      go_wp2_with fail
      obtain ⟨e2, h2⟩ : ∃ e2, decide (b = d) = e2 := ⟨_, rfl⟩
      refine (ints_is (w := w2) NB.out ND.out MB.out (LB.out.on H1.out.old) (LD.out.on H1.out.old) h2).mono ?_
      have E2 := Lib.hid h2
      clear h2 f0 f1 f2 f3 f4 f5 q0 q1 q2 q3 q4 q5
      rintro e w3 ⟨rfl, hb⟩
      replace H1 := Lib.hid (H1.out.on hb)
      replace H2 := Lib.hid (H2.out.on hb)
      clear hb
      have f0 := H1.out.c 0 _ rfl
      have f1 := H1.out.c 1 _ rfl
      have f2 := H1.out.c 2 _ rfl
      have f3 := H1.out.c 3 _ rfl
      have f4 := H1.out.c 4 _ rfl
      have f5 := H1.out.c 5 _ rfl
      have q0 := H2.out.c 0 _ rfl
      have q1 := H2.out.c 1 _ rfl
      have q2 := H2.out.c 2 _ rfl
      have q3 := H2.out.c 3 _ rfl
      have q4 := H2.out.c 4 _ rfl
      have q5 := H2.out.c 5 _ rfl
      cases e2
      case false =>
        have := of_decide_eq_false E2.out
        go_wp2
        go_ret
        exact ⟨by rw [← HR.out]; simp [Cl.eq, this], H1.out.old⟩
      case true =>
        have he1 := of_decide_eq_true E1.out
        have he2 := of_decide_eq_true E2.out
        have EE := Lib.hid (And.intro he1 he2)
        clear he1 he2
        by_cases hx : x = x'
        · subst hx
          by_cases hy : y = y'
          · subst hy
            by_cases hz : z = z'
            · subst hz
              go_wp2
              go_ret
              exact ⟨by rw [← HR.out]; simp [Cl.eq, EE.out], H1.out.old⟩
            · have hz2 : ¬ (z : Int) = (z' : Int) := by omega
              go_wp2
              go_ret
              exact ⟨by rw [← HR.out]; simp [Cl.eq, hz, hz2], H1.out.old⟩
          · go_wp2
            go_ret
            exact ⟨by rw [← HR.out]; simp [Cl.eq, hy], H1.out.old⟩
        · go_wp2
          go_ret
          exact ⟨by rw [← HR.out]; simp [Cl.eq, hx], H1.out.old⟩
  · go_wp2
    go_ret
    exact ⟨by rw [← HR.out]; simp [Cl.eq, ho], H1.out.old⟩
theorem same_at {v1 v2 : Value} {c d : Cl} {r : Bool} {w : World} (h1 : ClAt w v1 c) (h2 : ClAt w v2 d) (la : c.a.length ≤ 1000000) (lb : c.b.length ≤ 1000000) (hr : c.eq d = r) :
    Calls Tryd.prog 19 #[v1, v2] w fun e w' => e = .returned (.bool r) ∧ Below w.heap.size w w' := by
  obtain ⟨A, ca, B, cb, rfl, a1, a2⟩ := h1
  obtain ⟨C, cc, D, cd, rfl, b1, b2⟩ := h2
  exact same_is rfl rfl rfl rfl la lb a1 a2 b1 b2 hr
theorem callof_at {v : Value} {c : Cl} {w : World} (h : ClAt w v c) : Calls Tryd.prog 14 #[v] w fun e w' => e = .returned v ∧ Below w.heap.size w w' := by
  obtain ⟨A, ca, B, cb, rfl, -, -⟩ := h
  exact callof_is _ _ _ _ _ _ _ _ _ _ w
theorem good_at {v : Value} {c : Cl} {w : World} {r : Bool} (h : ClAt w v c) (hr : cgood c = r) : Calls Tryd.prog 9 #[v] w fun e w' => e = .returned (.bool r) ∧ Below w.heap.size w w' := by
  obtain ⟨A, ca, B, cb, rfl, a1, a2⟩ := h
  exact hr ▸ cgood_any c a1 a2
theorem words_of {v : Value} {c : Cl} {w : World} {q : List Nat} (h : ClAt w v c) (hq : cwords c = q) : Calls Tryd.prog 10 #[v] w fun e w' => (∃ v, e = .returned v ∧ Words w' v (q.map fun (n : Nat) => (n : Int))) ∧ Below w.heap.size w w' := by
  obtain ⟨A, ca, B, cb, rfl, a1, a2⟩ := h
  exact hq ▸ cwords_any c a1 a2
theorem text_of {v : Value} {c : Cl} {w : World} {t : ByteArray} (hT : Tab w) (h : ClAt w v c) (hw : c.w < 18446744073709551616) (ht : bar (ctext c) = t) : Calls Tryd.prog 11 #[v] w fun e w' => e = .returned (.string t) ∧ Below w.heap.size w w' := by
  obtain ⟨A, ca, B, cb, rfl, a1, a2⟩ := h
  exact ctext_is hT a1 a2 hw ht
end Go.Proofs.YtfcifheejjppfaaDoor
