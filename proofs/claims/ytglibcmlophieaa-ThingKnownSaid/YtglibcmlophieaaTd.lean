/-
  The walks of package tag's Rest, Put, Make, Value, Version, Next. Condition: the fields and the values lie in memory, at most a million.
-/
import Derived.Test.YtglibcmlophieaaTc
namespace Go.Proofs.Ytglibcmlophieaa
open Go.RowKit

theorem Sep.inw {l : List Fd} (h : Sep l) {i : Nat} {x : Fd} (hx : l[i]? = some x) : x.inw = true := by
  induction l generalizing i with
  | nil => simp at hx
  | cons y ys ih =>
    cases i with
    | zero => simp at hx; subst hx; exact h.1
    | succ i => exact ih h.2.2 (by simpa using hx)
theorem good_inw {l : List Fd} (h : good l = true) {i : Nat} {x : Fd} (hx : l[i]? = some x) : x.inw = true := ((good_iff l).1 h).inw hx

theorem good_yes {A : Option Addr} {cap : Nat} {l : List Fd} {n : Nat} {w : World} (hn : n = l.length) (hl : n ≤ 1000000) (hL : FdsAt w w.heap.size A l) (h : good l = true) :
    Calls Try.prog 34 #[.slice A n cap] w fun e w' => e = .returned (.bool true) ∧ Below w.heap.size w w' := by
  subst hn
  have := good_any A cap l w hl hL
  rw [h] at this
  exact this
theorem good_no {A : Option Addr} {cap : Nat} {l : List Fd} {n : Nat} {w : World} (hn : n = l.length) (hl : n ≤ 1000000) (hL : FdsAt w w.heap.size A l) (h : good l = false) :
    Calls Try.prog 34 #[.slice A n cap] w fun e w' => e = .returned (.bool false) ∧ Below w.heap.size w w' := by
  subst hn
  have := good_any A cap l w hl hL
  rw [h] at this
  exact this

def RestRel (W : World) (n z : Nat) (l : List Fd) (k : Nat) (p q : Value) (wr : World) : Prop :=
  ∃ i t : Nat, k + i = n ∧ p = .int .u64 (t : Int) ∧ q = .int .i64 i ∧ t ≤ top ∧ restFrom t (l.drop i) = restFrom z l ∧ Below W.heap.size W wr

set_option maxHeartbeats 1000000 in
theorem rest_any (z : Nat) (A : Option Addr) (cap : Nat) (l : List Fd) (w : World) (hz : z ≤ top) (hl : l.length ≤ 1000000) (hL : FdsAt w w.heap.size A l) :
    Calls Try.prog 30 #[.int .u64 (z : Int), .slice A l.length cap] w fun e w' => e = .returned (.int .u64 (rest z l : Int)) ∧ Below w.heap.size w w' := by
  have LL := Lib.hid hL
  obtain ⟨n, hn⟩ : ∃ n, n = l.length := ⟨_, rfl⟩
  rw [← hn] at hl ⊢
  have HN := Lib.hid hn
  have HZ := Lib.hid hz
  clear hn hL hz
  unfold rest
  cases hg : good l
  · have HG := Lib.hid hg
    clear hg
    go_enter Try.func30, Try.ntmps30
    go_wp2_with (go_at_call 34; refine (good_no HN.out hl LL.out HG.out).mono ?_; rintro e w' ⟨rfl, hb⟩)
    go_ret
    exact ⟨rfl, hb⟩
  · have HG := Lib.hid hg
    clear hg
    rw [if_pos rfl]
    go_enter Try.func30, Try.ntmps30
    go_wp2_with fail
    refine (good_yes HN.out hl LL.out HG.out).mono ?_
    rintro e w0 ⟨rfl, hb⟩
    have HB0 := Lib.hid hb
    clear hb
    go_wp2_with fail
    go_loopg [0, 13] n (fun k p q wr => RestRel w n z l k p q wr)
    case atStart => exact ⟨0, z, by omega, rfl, rfl, HZ.out, rfl, HB0.out⟩
    case round =>
      obtain ⟨i, t, hk, rfl, rfl, ht, hr, hb⟩ := hrel
      have HK := Lib.hid hk
      have HB := Lib.hid hb
      have HR := Lib.hid hr
      clear hk hb hr HB0
      by_cases hlt : i < n
      · have HLT := Lib.hid hlt
        have hlt2 : (i : Int) < (n : Int) := by omega
        obtain ⟨b, o, rfl, hblk, hc⟩ := LL.out (by rw [← HN.out]; omega)
        obtain ⟨x, hx⟩ : ∃ x, l[i]? = some x := ⟨l[i]'(by rw [← HN.out]; exact hlt), List.getElem?_eq_getElem _⟩
        have HI := Lib.hid (good_inw HG.out hx)
        obtain ⟨c1, c2⟩ := hc i x hx
        rw [← HB.out.cell (p := ⟨b, _, none⟩) hblk] at c1 c2
        have HB2 := Lib.hid (HB.out.alloc HB.out.size (.cells #[.int .i64 x.f, .int .i64 x.n] 60))
        rw [drop_one hx] at HR
        have hxb : x.bits ≤ top := Fd.bits_le HI.out
        have hno : bits .andNot .u64 (t : Int) (x.bits : Int) = ((t &&& (top - x.bits) : Nat) : Int) := u64_andNot_nat t x.bits (by unfold top at ht; omega) (by unfold top at hxb; omega)
        have HNO := Lib.hid hno
        have HT := Lib.hid (Nat.le_trans (Nat.and_le_left (n := t) (m := top - x.bits)) ht)
        clear hc hblk hx hxb hno
        go_wp2_with fail
        refine (bits_at x HI.out _).mono ?_
        rintro e w2 ⟨rfl, hb2⟩
        have HB3 := Lib.hid (below_on HB2.out hb2)
        clear hb2
        go_wp2_with fail
        go_roundg (n - (i + 1))
        case measure => have := HK.out; have := HN.out; have := HLT.out; omega
        case rel => exact ⟨i + 1, t &&& (top - x.bits), by have := HN.out; have := HLT.out; omega, by rw [HNO.out], by go_num, HT.out, HR.out, HB3.out⟩
      · go_wp2
        go_ret
        refine ⟨?_, HB.out⟩
        have hi : i = l.length := by have := HK.out; have := HN.out; omega
        have := HR.out
        rw [hi, List.drop_length] at this
        rw [← this]; rfl

/-- what Put answers -/
def putV (r : Option Nat) : Value := .tuple #[.int .u64 ((r.getD 0 : Nat) : Int), .bool r.isSome]

def PutRel (W : World) (n : Nat) (r : Option Nat) (l : List Fd) (v : List Nat) (k : Nat) (p q : Value) (wr : World) : Prop :=
  ∃ i t : Nat, k + i = n ∧ p = .int .u64 (t : Int) ∧ q = .int .i64 i ∧ t ≤ top ∧ putFrom t (l.drop i) (v.drop i) = r ∧ Below W.heap.size W wr

theorem shl_word {v f n : Nat} (h : v < 2 ^ n) (hn : f + n ≤ 64) : v * 2 ^ f ≤ top := by
  have e : v * 2 ^ f < 2 ^ n * 2 ^ f := Nat.mul_lt_mul_of_pos_right h (Nat.two_pow_pos _)
  rw [← Nat.pow_add] at e
  have := Nat.lt_of_lt_of_le e (Nat.pow_le_pow_right (by decide) (show n + f ≤ 64 by omega))
  unfold top; omega

theorem or_top {a b : Nat} (ha : a ≤ top) (hb : b ≤ top) : a ||| b ≤ top := by
  have : a ||| b < 2 ^ 64 := Nat.or_lt_two_pow (by unfold top at ha; omega) (by unfold top at hb; omega)
  show a ||| b ≤ 18446744073709551615
  omega
theorem or_word {t y f : Nat} (ht : t ≤ top) (h : y * 2 ^ f ≤ top) : bits .or .u64 (t : Int) (IntKind.u64.wrap ((y : Int) * 2 ^ f)) = ((t ||| y * 2 ^ f : Nat) : Int) := by
  have e : (y : Int) * 2 ^ f = ((y * 2 ^ f : Nat) : Int) := by rw [Int.natCast_mul]; simp
  have e2 : IntKind.u64.wrap (((y * 2 ^ f : Nat) : Int)) = ((y * 2 ^ f : Nat) : Int) := by
    rw [IntKind.wrap_u64]; unfold top at h; omega
  rw [e, e2]
  exact bits_or_u64_nat _ _ (by unfold top at ht; omega) (by unfold top at h; omega)

set_option maxHeartbeats 1000000 in
theorem put_any (A : Option Addr) (cap : Nat) (l : List Fd) (A' : Option Addr) (cap' : Nat) (v : List Nat) (w : World) (hl : l.length ≤ 1000000) (hL : FdsAt w w.heap.size A l)
    (hv : v.length ≤ 1000000) (hV : WordsAt w w.heap.size A' v) (hw : ∀ z ∈ v, z ≤ top) :
    Calls Try.prog 23 #[.slice A l.length cap, .slice A' v.length cap'] w fun e w' => e = .returned (putV (put l v)) ∧ Below w.heap.size w w' := by
  have LL := Lib.hid hL
  have VV := Lib.hid hV
  have HW := Lib.hid hw
  obtain ⟨n, hn⟩ : ∃ n, n = l.length := ⟨_, rfl⟩
  obtain ⟨m, hm⟩ : ∃ m, m = v.length := ⟨_, rfl⟩
  rw [← hn] at hl ⊢
  rw [← hm] at hv ⊢
  have HN := Lib.hid hn
  have HM := Lib.hid hm
  clear hn hL hm hV hw
  cases hg : good l
  · have HG := Lib.hid hg
    clear hg
    go_enter Try.func23, Try.ntmps23
    go_wp2_with (go_at_call 34; refine (good_no HN.out hl LL.out HG.out).mono ?_; rintro e w' ⟨rfl, hb⟩)
    go_ret2
    refine ⟨?_, hb⟩
    unfold put
    rw [if_neg (fun q => by rw [HG.out] at q; cases q.1)]
    rfl
  · have HG := Lib.hid hg
    clear hg
    by_cases he : m = n
    · subst he
      have HP : Hid (put l v = putFrom 0 l v) := Lib.hid (by unfold put; rw [if_pos ⟨HG.out, by rw [← HM.out, ← HN.out]⟩])
      go_enter Try.func23, Try.ntmps23
      go_wp2_with fail
      refine (good_yes HN.out hl LL.out HG.out).mono ?_
      rintro e w0 ⟨rfl, hb⟩
      have HB0 := Lib.hid hb
      clear hb
      go_wp2_with fail
      go_loopg [6, 21] m (fun k p q wr => PutRel w m (put l v) l v k p q wr)
      case atStart => exact ⟨0, 0, by omega, rfl, rfl, Nat.zero_le _, by rw [HP.out]; rfl, HB0.out⟩
      case round =>
        obtain ⟨i, t, hk, rfl, rfl, ht, hr, hb⟩ := hrel
        have HK := Lib.hid hk
        have HB := Lib.hid hb
        have HR := Lib.hid hr
        have HT := Lib.hid ht
        clear hk hb hr HB0 ht
        by_cases hlt : i < m
        · have HLT := Lib.hid hlt
          have hlt2 : (i : Int) < (m : Int) := by omega
          obtain ⟨b, o, rfl, hblk, hc⟩ := LL.out (by rw [← HN.out]; omega)
          obtain ⟨b', o', rfl, hblk', hc'⟩ := VV.out (by rw [← HM.out]; omega)
          obtain ⟨x, hx⟩ : ∃ x, l[i]? = some x := ⟨l[i]'(by rw [← HN.out]; exact hlt), List.getElem?_eq_getElem _⟩
          obtain ⟨y, hy⟩ : ∃ y, v[i]? = some y := ⟨v[i]'(by rw [← HM.out]; exact hlt), List.getElem?_eq_getElem _⟩
          have HI := Lib.hid (good_inw HG.out hx)
          have hyt : y ≤ top := HW.out y (List.mem_of_getElem? hy)
          obtain ⟨c1, c2⟩ := hc i x hx
          have c3 := hc' i y hy
          rw [← HB.out.cell (p := ⟨b, _, none⟩) hblk] at c1 c2
          rw [← HB.out.cell (p := ⟨b', _, none⟩) hblk'] at c3
          have c4 : (wr.alloc (.cells #[.int .i64 x.f, .int .i64 x.n] 60)).cell? ⟨b', o' + i, none⟩ = some (.int .u64 (y : Int)) := by
            rw [World.cell?_of_block (w := wr) (a := ⟨b', o' + i, none⟩) (Below.heap_alloc _ _ _ (Nat.lt_of_lt_of_le hblk' HB.out.size))]; exact c3
          have HB2 := Lib.hid (HB.out.alloc HB.out.size (.cells #[.int .i64 x.f, .int .i64 x.n] 60))
          rw [drop_one hx, drop_one hy] at HR
          obtain ⟨f, k, hxe, h1, h2⟩ := inw_nat HI.out
          subst hxe
          have hk0 : (0 : Int) ≤ (k : Int) := by omega
          have hf0 : (0 : Int) ≤ (f : Int) := by omega
          clear hc hblk hx hc' hblk' hy
          by_cases hfit : y < 2 ^ k
          · have hq : ((y : Int) / 2 ^ k != 0) = false := by
              have e : (y : Int) / 2 ^ k = ((y / 2 ^ k : Nat) : Int) := by simp
              rw [e, Nat.div_eq_of_lt hfit]; rfl
            have hsh := shl_word hfit h2
            have HO := Lib.hid (or_word (f := f) HT.out hsh)
            have HTO : Hid (t ||| y * 2 ^ f ≤ top) := Lib.hid (or_top HT.out hsh)
            have HF := Lib.hid hfit
            clear hfit hsh hyt
            go_wp2_with fail
            go_quiet (fail)
            go_wp2_with fail
            go_quiet (fail)
            go_wp2_with fail
            go_roundg (m - (i + 1))
            case measure => have := HK.out; have := HN.out; have := HLT.out; omega
            case rel =>
              refine ⟨i + 1, t ||| y * 2 ^ f, by have := HN.out; have := HLT.out; omega, by rw [HO.out], by go_num, HTO.out, ?_, below_draws HB2.out _⟩
              have := HR.out
              rw [← this]
              show _ = if y < 2 ^ k then putFrom (t ||| y * 2 ^ f) _ _ else none
              rw [if_pos HF.out]
          · have hq : ((y : Int) / 2 ^ k != 0) = true := by
              have e : (y : Int) / 2 ^ k = ((y / 2 ^ k : Nat) : Int) := by simp
              rw [e]
              have : 0 < y / 2 ^ k := Nat.div_pos (by omega) (Nat.two_pow_pos _)
              simp; omega
            have HF := Lib.hid hfit
            clear hfit hyt
            go_wp2_with fail
            go_quiet (fail)
            go_wp2_with fail
            go_ret2
            refine ⟨?_, below_draws HB2.out _⟩
            have := HR.out
            rw [← this]
            show _ = Ending.returned (putV (if y < 2 ^ k then putFrom (t ||| y * 2 ^ f) _ _ else none))
            rw [if_neg HF.out]
            rfl
        · go_wp2
          go_ret2
          refine ⟨?_, HB.out⟩
          have hi : i = l.length := by have := HK.out; have := HN.out; omega
          have := HR.out
          rw [hi, List.drop_length] at this
          rw [← this]; rfl
    · have hne : ((m : Int) != (n : Int)) = true := by simp; omega
      go_enter Try.func23, Try.ntmps23
      go_wp2_with (go_at_call 34; refine (good_yes HN.out hl LL.out HG.out).mono ?_; rintro e w' ⟨rfl, hb⟩)
      go_ret2
      refine ⟨?_, hb⟩
      unfold put
      rw [if_neg (fun q => he (by rw [HM.out, HN.out]; exact q.2))]
      rfl

/-- a value and its version in one word -/
def mk (value : Nat) (version : Int) : Option Nat := if value ≤ 281474976710655 ∧ 0 ≤ version ∧ version ≤ 65535 then some (version.toNat * 281474976710656 + value) else none

theorem mk_yes {v k : Nat} (h1 : v ≤ 281474976710655) (h2 : k ≤ 65535) : mk v k = some (k * 281474976710656 + v) := by
  unfold mk
  rw [if_pos ⟨h1, by omega, by omega⟩]
  rfl
theorem mk_no {v : Nat} {k : Int} (h : ¬ (v ≤ 281474976710655 ∧ 0 ≤ k ∧ k ≤ 65535)) : mk v k = none := by
  unfold mk
  rw [if_neg h]
theorem or_ver {v k : Nat} (h1 : v ≤ 281474976710655) (h2 : k ≤ 65535) : bits .or .u64 ((k : Int) * 281474976710656) (v : Int) = ((k * 281474976710656 + v : Nat) : Int) := by
  have e : (k : Int) * 281474976710656 = ((k * 281474976710656 : Nat) : Int) := by simp
  rw [e, bits_or_u64_nat _ _ (by omega) (by omega), nat_join 48 (k * 281474976710656) v (by omega) (by omega)]

theorem and_ver {q : Nat} (h : q ≤ 65535) : bits .and .i64 ((q : Int) + 1) 65535 = (((q + 1) % 65536 : Nat) : Int) := by
  have e1 : (BitVec.ofInt 64 ((q : Int) + 1)).toNat = q + 1 := by
    rw [show (q : Int) + 1 = ((q + 1 : Nat) : Int) by simp, BitVec.ofInt_natCast, BitVec.toNat_ofNat]; exact Nat.mod_eq_of_lt (by omega)
  have e2 : (BitVec.ofInt 64 (65535 : Int)).toNat = 65535 := by decide
  show IntKind.i64.wrap ((BitVec.ofInt 64 ((q : Int) + 1) &&& BitVec.ofInt 64 65535).toNat : Int) = _
  rw [BitVec.toNat_and, e1, e2, show (q + 1) &&& 65535 = (q + 1) % 65536 from Nat.and_two_pow_sub_one_eq_mod (q + 1) 16, IntKind.wrap_i64]
  omega
end Go.Proofs.Ytglibcmlophieaa
