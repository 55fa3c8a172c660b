/-
  Fields and words in memory; the walk of package tag's Good. Condition: the fields lie in memory, at most a million.
-/
import Derived.Test.YtglibcmlophieaaTb
namespace Go.Proofs.Ytglibcmlophieaa
open Go.RowKit

/-- fields lie in a block below B -/
def FdsAt (w : World) (B : Nat) (A : Option Addr) (l : List Fd) : Prop :=
  0 < l.length → ∃ b o, A = some ⟨b, o, none⟩ ∧ b < B ∧ ∀ (j : Nat) (x : Fd), l[j]? = some x → w.cell? ⟨b, o + j * 2, none⟩ = some (.int .i64 x.f) ∧ w.cell? ⟨b, o + j * 2 + 1, none⟩ = some (.int .i64 x.n)
theorem FdsAt.below {w w' : World} {B : Nat} {A : Option Addr} {l : List Fd} (h : FdsAt w B A l) (hb : Below B w w') : FdsAt w' B A l := fun h0 => by
  obtain ⟨b, o, e, hlt, hc⟩ := h h0
  refine ⟨b, o, e, hlt, fun j a ha => ?_⟩
  rw [hb.cell (p := ⟨b, _, none⟩) hlt, hb.cell (p := ⟨b, _, none⟩) hlt]
  exact hc j a ha
theorem FdsAt.mono {w : World} {B B' : Nat} {A : Option Addr} {l : List Fd} (h : FdsAt w B A l) (hB : B ≤ B') : FdsAt w B' A l := fun h0 => by
  obtain ⟨b, o, e, hlt, hc⟩ := h h0
  exact ⟨b, o, e, by omega, hc⟩
/-- words lie in a block below B -/
def WordsAt (w : World) (B : Nat) (A : Option Addr) (l : List Nat) : Prop :=
  0 < l.length → ∃ b o, A = some ⟨b, o, none⟩ ∧ b < B ∧ ∀ (j : Nat) (z : Nat), l[j]? = some z → w.cell? ⟨b, o + j, none⟩ = some (.int .u64 (z : Int))
theorem WordsAt.below {w w' : World} {B : Nat} {A : Option Addr} {l : List Nat} (h : WordsAt w B A l) (hb : Below B w w') : WordsAt w' B A l := fun h0 => by
  obtain ⟨b, o, e, hlt, hc⟩ := h h0
  exact ⟨b, o, e, hlt, fun j a ha => by rw [hb.cell (p := ⟨b, _, none⟩) hlt]; exact hc j a ha⟩
theorem WordsAt.mono {w : World} {B B' : Nat} {A : Option Addr} {l : List Nat} (h : WordsAt w B A l) (hB : B ≤ B') : WordsAt w B' A l := fun h0 => by
  obtain ⟨b, o, e, hlt, hc⟩ := h h0
  exact ⟨b, o, e, by omega, hc⟩
theorem below_on {w w0 w1 : World} (h : Below w.heap.size w w0) (k : Below w0.heap.size w0 w1) : Below w.heap.size w w1 := h.trans (k.mono h.size)
theorem drop_one {α : Type} {l : List α} {i : Nat} {x : α} (h : l[i]? = some x) : l.drop i = x :: l.drop (i + 1) := by
  obtain ⟨hi, rfl⟩ := List.getElem?_eq_some_iff.1 h
  exact List.drop_eq_getElem_cons hi

theorem inw_yes (x : Fd) (h : x.inw = true) (w : World) :
    Calls Try.prog 36 #[.agg #[.int .i64 x.f, .int .i64 x.n]] w fun e w' => e = .returned (.bool true) ∧ Below w.heap.size w w' := by
  have := inw_any x w
  rw [h] at this
  exact this
theorem inw_no (x : Fd) (h : x.inw = false) (w : World) :
    Calls Try.prog 36 #[.agg #[.int .i64 x.f, .int .i64 x.n]] w fun e w' => e = .returned (.bool false) ∧ Below w.heap.size w w' := by
  have := inw_any x w
  rw [h] at this
  exact this
theorem bits_at (x : Fd) (h : x.inw = true) (w : World) :
    Calls Try.prog 35 #[.agg #[.int .i64 x.f, .int .i64 x.n]] w fun e w' => e = .returned (.int .u64 (x.bits : Int)) ∧ Below w.heap.size w w' := by
  obtain ⟨f, n, rfl, h1, h2⟩ := inw_nat h
  exact bits_any f n h1 h2 w

/-- one field in a block of its own -/
structure Bx (w : World) (b : Nat) (x : Fd) : Prop where
  f : w.cell? ⟨b, 0, none⟩ = some (.int .i64 x.f)
  n : w.cell? ⟨b, 1, none⟩ = some (.int .i64 x.n)
  lt : b < w.heap.size
theorem Bx.new (w : World) (x : Fd) (t : TypeId) : Bx (w.alloc (.cells #[.int .i64 x.f, .int .i64 x.n] t)) w.heap.size x := by
  have hg := heap_alloc_new w (.cells #[.int .i64 x.f, .int .i64 x.n] t)
  exact ⟨by rw [cell_of_row _ _ 0 _ _ _ hg]; rfl, by rw [cell_of_row _ _ 1 _ _ _ hg]; rfl, by simp⟩
theorem Bx.below {w w' : World} {b B : Nat} {x : Fd} (h : Bx w b x) (hb : Below B w w') (hB : b < B) : Bx w' b x :=
  ⟨by rw [hb.cell (p := ⟨b, _, none⟩) hB]; exact h.f, by rw [hb.cell (p := ⟨b, _, none⟩) hB]; exact h.n, Nat.lt_of_lt_of_le h.lt hb.size⟩

def GoodRel (W : World) (n : Nat) (l : List Fd) (k : Nat) (p q : Value) (wr : World) : Prop :=
  ∃ i t : Nat, k + i = n ∧ p = .int .u64 (t : Int) ∧ q = .int .i64 i ∧ t ≤ top ∧ goodFrom t (l.drop i) = good l ∧ Below W.heap.size W wr

set_option maxHeartbeats 1000000 in
theorem good_any (A : Option Addr) (cap : Nat) (l : List Fd) (w : World) (hl : l.length ≤ 1000000) (hL : FdsAt w w.heap.size A l) :
    Calls Try.prog 34 #[.slice A l.length cap] w fun e w' => e = .returned (.bool (good l)) ∧ Below w.heap.size w w' := by
  have LL := Lib.hid hL
  obtain ⟨n, hn⟩ : ∃ n, n = l.length := ⟨_, rfl⟩
  rw [← hn] at hl ⊢
  have HN := Lib.hid hn
  clear hn hL
  go_enter Try.func34, Try.ntmps34
  go_wp2_with fail
  go_loopg [3, 8] n (fun k p q wr => GoodRel w n l k p q wr)
  case atStart => exact ⟨0, 0, by omega, rfl, rfl, Nat.zero_le _, rfl, Below.refl _ _⟩
  case round =>
    obtain ⟨i, t, hk, rfl, rfl, ht, hg, hb⟩ := hrel
    have HK := Lib.hid hk
    have HB := Lib.hid hb
    have HG := Lib.hid hg
    clear hk hb hg
    by_cases hlt : i < n
    · have HLT := Lib.hid hlt
      have hlt2 : (i : Int) < (n : Int) := by omega
      obtain ⟨b, o, rfl, hblk, hc⟩ := LL.out (by rw [← HN.out]; omega)
      obtain ⟨x, hx⟩ : ∃ x, l[i]? = some x := ⟨l[i]'(by rw [← HN.out]; exact hlt), List.getElem?_eq_getElem _⟩
      have HX := Lib.hid hx
      obtain ⟨c1, c2⟩ := hc i x hx
      rw [← HB.out.cell (p := ⟨b, _, none⟩) hblk] at c1 c2
      have HB2 := Lib.hid (HB.out.alloc HB.out.size (.cells #[.int .i64 x.f, .int .i64 x.n] 60))
      rw [drop_one hx] at HG
      clear hc hblk hx
      have HX0 := Lib.hid (Bx.new wr x 60)
      go_wp2_with fail
      rcases hi : x.inw with _ | _
      · refine (inw_no x hi _).mono ?_
        rintro e w1 ⟨rfl, hb1⟩
        have HB3 := Lib.hid (below_on HB2.out hb1)
        have HI := Lib.hid hi
        clear hi hb1
        go_wp2_with fail
        go_ret
        refine ⟨?_, HB3.out⟩
        have := HG.out
        unfold goodFrom at this
        rw [HI.out, Bool.false_and] at this
        rw [← this]
        rfl
      · refine (inw_yes x hi _).mono ?_
        rintro e w1 ⟨rfl, hb1⟩
        have hx1 := HX0.out.below hb1 (by simp)
        have c1 := hx1.f
        have c2 := hx1.n
        have HB3 := Lib.hid (below_on HB2.out hb1)
        have HI := Lib.hid hi
        have HX1 := Lib.hid hx1
        clear hi hb1 hx1
        go_wp2_with fail
        refine (bits_at x HI.out _).mono ?_
        rintro e w2 ⟨rfl, hb2⟩
        have hx2 := HX1.out.below hb2 HX1.out.lt
        have c1 := hx2.f
        have c2 := hx2.n
        have HB4 := Lib.hid (below_on HB3.out hb2)
        have HX2 := Lib.hid hx2
        have hxb : x.bits ≤ top := Fd.bits_le HI.out
        have ha : bits .and .u64 (t : Int) (x.bits : Int) = ((t &&& x.bits : Nat) : Int) := bits_and_u64_nat t x.bits (by unfold top at ht; omega) (by unfold top at hxb; omega)
        have ho : bits .or .u64 (t : Int) (x.bits : Int) = ((t ||| x.bits : Nat) : Int) := bits_or_u64_nat t x.bits (by unfold top at ht; omega) (by unfold top at hxb; omega)
        have HO := Lib.hid ho
        have hto : t ||| x.bits ≤ top := by
          have : t ||| x.bits < 2 ^ 64 := Nat.or_lt_two_pow (by unfold top at ht; omega) (by unfold top at hxb; omega)
          show t ||| x.bits ≤ 18446744073709551615
          omega
        have HTO := Lib.hid hto
        clear hb2 hx2 hto ho hxb
        by_cases hz : t &&& x.bits = 0
        · have hz2 : (bits .and .u64 (t : Int) (x.bits : Int) != 0) = false := by rw [ha, hz]; rfl
          have HZ := Lib.hid hz
          clear hz ha
          go_wp2_with fail
          refine (bits_at x HI.out _).mono ?_
          rintro e w3 ⟨rfl, hb3⟩
          have HB5 := Lib.hid (below_on HB4.out hb3)
          clear hb3
          go_wp2_with fail
          go_roundg (n - (i + 1))
          case measure => have := HK.out; have := HN.out; have := HLT.out; omega
          case rel =>
            refine ⟨i + 1, t ||| x.bits, by have := HN.out; have := HLT.out; omega, by rw [HO.out], by go_num, HTO.out, ?_, HB5.out⟩
            have := HG.out
            unfold goodFrom at this
            rw [HI.out, HZ.out] at this
            simpa using this
        · have hz2 : (bits .and .u64 (t : Int) (x.bits : Int) != 0) = true := by
            rw [ha]
            cases hq : t &&& x.bits with
            | zero => exact absurd hq hz
            | succ m => rfl
          have HZ := Lib.hid hz
          clear hz ha
          go_wp2_with fail
          go_ret
          refine ⟨?_, HB4.out⟩
          have := HG.out
          unfold goodFrom at this
          rw [HI.out, decide_eq_false HZ.out] at this
          rw [← this]
          rfl
    · go_wp2
      go_ret
      refine ⟨?_, HB.out⟩
      have hi : i = l.length := by have := HK.out; have := HN.out; omega
      have := HG.out
      rw [hi, List.drop_length] at this
      rw [← this]; rfl
end Go.Proofs.Ytglibcmlophieaa
