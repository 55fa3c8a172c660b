/-
  The walks of the law's words and pairs. Condition: the lists lie in memory, at most a million.
-/
import Derived.Test.YtjmenekhdkpaaaaTe
import Derived.Laws.AppendOwn
import Derived.Laws.OwnMore
import Derived.Laws.MakeOwn
import Derived.Laws.AppendOwnNone
import Derived.Deep.AppendLies
import Derived.Deep.RegionLaw
namespace Go.Proofs.Ytjmenekhdkpaaaa
open Go.RowKit

def WordsRel (W : World) (n : Nat) (k : Nat) (p : Value) (wr : World) : Prop := ∃ i : Nat, k + i = n ∧ p = .int .i64 i ∧ Below W.heap.size W wr

set_option maxHeartbeats 1000000 in
theorem words_same (v1 v2 : Value) (l : List Nat) (w : World) (h1 : Words w v1 l) (h2 : Words w v2 l) (hl : l.length ≤ 1000000) :
    Calls Try.prog 21 #[v1, v2] w fun e w' => e = .returned (.bool true) ∧ Below w.heap.size w w' := by
  obtain ⟨A1, p1, rfl, h1⟩ := h1
  obtain ⟨A2, p2, rfl, h2⟩ := h2
  obtain ⟨n, hn⟩ : ∃ n, n = l.length := ⟨_, rfl⟩
  rw [← hn] at hl ⊢
  have HN := Lib.hid hn
  have H1 := Lib.hid h1
  have H2 := Lib.hid h2
  clear hn h1 h2
  go_enter Try.func21, Try.ntmps21
  go_wp2_with fail
  go_loopg [5] n (fun k p wr => WordsRel w n k p wr)
  case atStart => exact ⟨0, by omega, rfl, Below.refl _ _⟩
  case round =>
    obtain ⟨i, hk, rfl, hb⟩ := hrel
    have HK := Lib.hid hk
    have HB := Lib.hid hb
    clear hk hb
    by_cases hlt : i < n
    · have HLT := Lib.hid hlt
      have hlt2 : (i : Int) < (n : Int) := by omega
      obtain ⟨g1, o1, rfl, x1, y1⟩ := H1.out (by rw [← HN.out]; omega)
      obtain ⟨g2, o2, rfl, x2, y2⟩ := H2.out (by rw [← HN.out]; omega)
      obtain ⟨z, hz⟩ : ∃ z, l[i]? = some z := ⟨l[i]'(by rw [← HN.out]; exact hlt), List.getElem?_eq_getElem _⟩
      have c1 : wr.cell? ⟨g1, o1 + i, none⟩ = some (.int .u64 (z : Int)) := by rw [HB.out.cell (p := ⟨g1, _, none⟩) x1]; exact y1 i z hz
      have c2 : wr.cell? ⟨g2, o2 + i, none⟩ = some (.int .u64 (z : Int)) := by rw [HB.out.cell (p := ⟨g2, _, none⟩) x2]; exact y2 i z hz
      clear x1 x2 y1 y2 hz H1 H2
      go_wp2_with fail
      go_quiet (fail)
      go_wp2
      go_roundg (n - (i + 1))
      case measure => have := HK.out; have := HLT.out; omega
      case rel => exact ⟨i + 1, by have := HLT.out; omega, by go_num, below_draws HB.out _⟩
    · go_wp2
      go_ret
      exact ⟨rfl, HB.out⟩

/-- a list of the call's own grows; all that was there is as it was -/
structure Bld (W w : World) (e : TypeId) (s : Nat) (v : Value) (n : Nat) (xs : List Value) : Prop where
  own : w.ownsRow W.heap.size e s v n xs
  old : Below W.heap.size W w
section
variable {W w w' : World} {e : TypeId} {s : Nat} {v v' : Value} {n : Nat} {xs ys : List Value}
theorem Bld.alloc (h : Bld W w e s v n xs) (ob : Obj) : Bld W (w.alloc ob) e s v n xs := ⟨h.own.alloc ob, h.old.alloc h.old.size _⟩
theorem Bld.drewN (h : Bld W w e s v n xs) (k : Nat) : Bld W (w.drewN k) e s v n xs := ⟨h.own, below_draws h.old k⟩
theorem Bld.more {m : Nat} (h : Bld W w e s v n xs) (hg : w.grownBy w' v.ownBlock) (ho : w'.ownsRow W.heap.size e s v' m ys) : Bld W w' e s v' m ys :=
  ⟨ho, h.old.grown hg h.old.size fun k hk => (h.own.lt k hk).1⟩
end

def fcells (l : List Fd) : List Value := l.flatMap fun x => [.int .i64 x.f, .int .i64 x.n]
theorem fcells_length (l : List Fd) : (fcells l).length = l.length * 2 := by
  unfold fcells
  induction l with
  | nil => rfl
  | cons x xs ih => rw [List.flatMap_cons, List.length_append, ih]; simp; omega
theorem fcells_get {l : List Fd} {j : Nat} {x : Fd} (h : l[j]? = some x) : (fcells l)[j * 2]? = some (.int .i64 x.f) ∧ (fcells l)[j * 2 + 1]? = some (.int .i64 x.n) := by
  induction l generalizing j with
  | nil => simp at h
  | cons y ys ih =>
    have e : fcells (y :: ys) = .int .i64 y.f :: .int .i64 y.n :: fcells ys := rfl
    rw [e]
    cases j with
    | zero => simp at h; subst h; exact ⟨rfl, rfl⟩
    | succ j =>
      have := ih (j := j) (by simpa using h)
      rw [show (j + 1) * 2 = j * 2 + 1 + 1 by omega]
      simpa using this
theorem fcells_succ {l : List Fd} {i : Nat} {x : Fd} (h : l[i]? = some x) : fcells (l.take (i + 1)) = fcells (l.take i) ++ [.int .i64 x.f, .int .i64 x.n] := by
  unfold fcells
  rw [List.take_add_one, h, List.flatMap_append]
  simp

/-- a list of fields, or of pairs -/
def Fds (w : World) (v : Value) (l : List Fd) : Prop := ∃ A cap, v = .slice A l.length cap ∧ FdsAt w w.heap.size A l
theorem fds_of_owns {w : World} {B : Nat} {e : TypeId} {v : Value} {l : List Fd} (h : w.ownsRow B e 2 v l.length (fcells l)) : Fds w v l := by
  rcases h.2 with ⟨rfl, h0⟩ | ⟨g, cap, cur, rfl, hb, hg, h1, h2, h3, h4⟩
  · exact ⟨none, 0, by rw [h0], fun hp => absurd hp (by omega)⟩
  · refine ⟨some ⟨g, 0, none⟩, cap, rfl, fun _ => ⟨g, 0, rfl, (Array.getElem?_eq_some_iff.1 hg).1, fun j x hx => ?_⟩⟩
    have hj : j < l.length := (List.getElem?_eq_some_iff.1 hx).1
    obtain ⟨e1, e2⟩ := fcells_get hx
    have := h.cellAt (j * 2) (by omega)
    have h2 := h.cellAt (j * 2 + 1) (by omega)
    rw [Nat.zero_add]
    exact ⟨this.trans e1, h2.trans e2⟩

theorem info53_all : (Try.prog.info? 53).map (fun i => (i.zero, i.size, i.bytes)) = some (some (.agg #[.int .i64 0, .int .i64 0]), 2, 16) := by kernel_rfl
theorem info53_parts : ∃ i : TypeInfo, Try.prog.info? 53 = some i ∧ i.zero = some (.agg #[.int .i64 0, .int .i64 0]) ∧ i.size = 2 ∧ i.bytes = 16 := by
  have h := info53_all
  cases hq : Try.prog.info? 53 with
  | none => simp [hq] at h
  | some i =>
    simp [hq] at h
    exact ⟨i, rfl, h.1, h.2.1, h.2.2⟩

def PairRel (W : World) (n : Nat) (l : List Fd) (k : Nat) (p q : Value) (wr : World) : Prop :=
  ∃ i : Nat, k + i = n ∧ q = .int .i64 i ∧ Bld W wr 53 2 p i (fcells (l.take i))

set_option maxHeartbeats 1000000 in
theorem pairs_any (A : Option Addr) (cap : Nat) (l : List Fd) (w : World) (hl : l.length ≤ 1000000) (hL : FdsAt w w.heap.size A l) :
    Calls Try.prog 17 #[.slice A l.length cap] w fun e w' => ∃ v, e = .returned v ∧ Fds w' v l ∧ Below w.heap.size w w' := by
  have LL := Lib.hid hL
  obtain ⟨n, hn⟩ : ∃ n, n = l.length := ⟨_, rfl⟩
  rw [← hn] at hl ⊢
  have HN := Lib.hid hn
  clear hn hL
  have H0 : Hid (Bld w w 53 2 (.slice none 0 0) 0 []) := Lib.hid ⟨World.ownsRow_nil _ _ _ _, Below.refl _ _⟩
  go_enter Try.func17, Try.ntmps17
  go_wp2_with fail
  go_loopg [3, 4] n (fun k p q wr => PairRel w n l k p q wr)
  case atStart => exact ⟨0, by omega, rfl, by simpa [fcells] using H0.out⟩
  case round =>
    obtain ⟨i, hk, rfl, hb⟩ := hrel
    have HK := Lib.hid hk
    have HB := Lib.hid hb
    clear hk hb H0
    by_cases hlt : i < n
    · have HLT := Lib.hid hlt
      have hlt2 : (i : Int) < (n : Int) := by omega
      obtain ⟨b, o, rfl, hblk, hc⟩ := LL.out (by rw [← HN.out]; omega)
      obtain ⟨x, hx⟩ : ∃ x, l[i]? = some x := ⟨l[i]'(by rw [← HN.out]; exact hlt), List.getElem?_eq_getElem _⟩
      obtain ⟨c1, c2⟩ := hc i x hx
      rw [← HB.out.old.cell (p := ⟨b, _, none⟩) hblk] at c1 c2
      have HX := Lib.hid hx
      have hb2 := (HB.out.alloc (.cells #[.int .i64 x.f, .int .i64 x.n] 53)).drewN 1
      have HB2 : Hid (Bld w (wr.alloc (.cells #[.int .i64 x.f, .int .i64 x.n] 53)).drew 53 2 _ i (fcells (l.take i))) := Lib.hid hb2
      have hnew : ∀ j u, [Value.int .i64 x.f, .int .i64 x.n][j]? = some u → (wr.alloc (.cells #[.int .i64 x.f, .int .i64 x.n] 53)).drew.cell? ((⟨wr.heap.size, 0, none⟩ : Addr).add j) = some u := fun j u hu => by
        rw [Addr.add_mid, Nat.zero_add]
        show (wr.alloc (.cells #[.int .i64 x.f, .int .i64 x.n] 53)).cell? _ = _
        rw [cell_of_row _ _ j _ _ _ (heap_alloc_new wr _), ← hu]; simp
      have HNEW := Lib.hid hnew
      have HS : Hid (w.heap.size ≤ (wr.alloc (.cells #[.int .i64 x.f, .int .i64 x.n] 53)).drew.heap.size) := Lib.hid HB2.out.old.size
      obtain ⟨i0, hii, hz0, hz1, hz2⟩ := info53_parts
      have HONE : Hid (∀ u ∈ [Value.int .i64 x.f, .int .i64 x.n], u.oneCell' = true) := Lib.hid (by intro u hu; simp at hu; rcases hu with rfl | rfl <;> rfl)
      have HC3 : Hid (i + 1 ≤ maxLen) := Lib.hid (by unfold maxLen; omega)
      have HC4 : Hid ((i + 1) * 16 ≤ 140737488355328) := Lib.hid (by omega)
      clear hc hblk hx hb2 hnew
      go_wp2_with fail
      go_region_law (first
        | (refine step_append_lies _ (by rfl) _ _ 40 (by rfl) w.heap.size 53 i0 (.agg #[.int .i64 0, .int .i64 0]) 2 16 Try.underlying40 hii hz0 hz1 hz2 (by rfl) (by decide) _ i (fcells (l.take i)) (by rfl) HB2.out.own ⟨wr.heap.size, 0, none⟩ 1 1 [.int .i64 x.f, .int .i64 x.n] (by rfl) (by rfl) HNEW.out HONE.out (by decide) HC3.out HC4.out HS.out _ (by rfl) ?_; intro g gcap w4 hown hgrow _ _))
      all_goals
        have HB3 := Lib.hid (HB2.out.more hgrow hown)
        clear hown hgrow
        go_wp2
        go_roundg (n - (i + 1))
        case measure => have := HK.out; have := HN.out; have := HLT.out; omega
        case rel =>
          have hb3 := HB3.out
          rw [← fcells_succ HX.out] at hb3
          exact ⟨i + 1, by have := HN.out; have := HLT.out; omega, by go_num, hb3⟩
    · go_wp2
      go_ret
      refine ⟨_, rfl, ?_, HB.out.old⟩
      have hi : i = l.length := by have := HK.out; have := HN.out; omega
      have hown := HB.out.own
      rw [List.take_of_length_le (by omega), hi] at hown
      exact fds_of_owns hown
end Go.Proofs.Ytjmenekhdkpaaaa
