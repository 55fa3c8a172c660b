/-
  What the program's calls answer, gathered; the walks of the reference's PutThing, Cost and NewThing. Condition: the words lie in memory.
-/
import Derived.Test.YtglibcmlophieaaId
namespace Go.Proofs.Ytglibcmlophieaa
open Go.RowKit

/-- a call that hands back words -/
def WListF (w w' : World) (e : Ending) (L : List Nat) : Prop := ∃ B cb, e = .returned (.slice B L.length cb) ∧ L.length ≤ cb ∧ WordsAt w' w'.heap.size B L ∧ Below w.heap.size w w'
theorem WListF.to {w w' : World} {e : Ending} {L : List Nat} {n : Nat} (h : WListF w w' e L) (hn : n = L.length) : ∃ B cb, e = .returned (.slice B n cb) ∧ n ≤ cb ∧ WordsAt w' w'.heap.size B L ∧ Below w.heap.size w w' := hn ▸ h
def tv (r : Option Tng) : Value := .tuple #[(r.getD .zero).val, .bool r.isSome]
def cv (r : Option Int) : Value := .tuple #[.int .i64 (r.getD 0), .bool r.isSome]
/-- what each call answers, of any thing and any words -/
structure Cot : Prop where
  good : ∀ (t : Tng) (w : World), Calls Try.prog 9 #[t.val] w fun e w' => e = .returned (.bool t.good) ∧ Below w.heap.size w w'
  put : ∀ (t : Tng) (w : World), Calls Try.prog 10 #[t.val] w fun e w' => WListF w w' e (tput t)
  get : ∀ {A : Option Addr} {n cap : Nat} {l : List Nat} {w : World}, n = l.length → n ≤ cap → n ≤ 1000000 → WordsAt w w.heap.size A l → (∀ z ∈ l, z < 18446744073709551616) → ∀ {r : Option Tng}, tget l = r → Calls Try.prog 13 #[.slice A n cap] w fun e w' => e = .returned (tv r) ∧ Below w.heap.size w w'
  cost : ∀ {k s : Int} {w : World} {r : Option Int}, tcost k s = r → Calls Try.prog 11 #[.int .i64 k, .int .i64 s] w fun e w' => e = .returned (cv r) ∧ Below w.heap.size w w'
  new : ∀ {k s b : Int} {w : World} {r : Option Tng}, tnew k s b = r → Calls Try.prog 12 #[.int .i64 k, .int .i64 s, .int .i64 b] w fun e w' => e = .returned (tv r) ∧ Below w.heap.size w w'

/-! ### PutThing -/
theorem tw64 {x : Int} (h1 : -9223372036854775808 ≤ x) (h2 : x < 9223372036854775808) : wrap64 x = x := by unfold wrap64; omega
theorem tu64 {z : Int} (h1 : 0 ≤ z) (h2 : z < 18446744073709551616) : IntKind.u64.wrap z = z := by
  unfold IntKind.wrap
  simp only [show IntKind.u64.signed = false from rfl, show IntKind.u64.bits = 64 from rfl, Bool.false_and, Bool.false_eq_true, if_false]
  omega
theorem put_w0 {ty bits base size used frm badge : Int} {full : Bool} {word d0 d1 d2 d3 : Nat} (h : Smallth ⟨ty, bits, base, size, used, frm, badge, full, word, d0, d1, d2, d3⟩) (hf : full = false) :
    IntKind.u64.wrap (wrap64 (wrap64 (wrap64 (wrap64 (ty + wrap64 (bits * 256)) + wrap64 (base * 65536))) + wrap64 (wrap64 (frm * 65536) * 65536))) = ((Tng.w0 ⟨ty, bits, base, size, used, frm, badge, full, word, d0, d1, d2, d3⟩ : Nat) : Int) := by
  subst hf
  obtain ⟨⟨a1, a2⟩, ⟨b1, b2⟩, ⟨c1, c2⟩, _, _, ⟨g1, g2⟩, _⟩ := h
  simp only at a1 a2 b1 b2 c1 c2 g1 g2
  rw [tw64 (x := bits * 256) (by omega) (by omega), tw64 (x := ty + bits * 256) (by omega) (by omega), tw64 (x := base * 65536) (by omega) (by omega), tw64 (x := ty + bits * 256 + base * 65536) (by omega) (by omega), tw64 (x := ty + bits * 256 + base * 65536) (by omega) (by omega), tw64 (x := frm * 65536) (by omega) (by omega), tw64 (x := frm * 65536 * 65536) (by omega) (by omega), tw64 (by omega) (by omega), tu64 (by omega) (by omega), Tng.w0]
  simp only [Bool.false_eq_true, if_false]
  omega
theorem put_w0' {ty bits base size used frm badge : Int} {full : Bool} {word d0 d1 d2 d3 : Nat} (h : Smallth ⟨ty, bits, base, size, used, frm, badge, full, word, d0, d1, d2, d3⟩) (hf : full = true) :
    IntKind.u64.wrap (wrap64 (wrap64 (wrap64 (wrap64 (ty + wrap64 (bits * 256)) + wrap64 (base * 65536)) + 16777216) + wrap64 (wrap64 (frm * 65536) * 65536))) = ((Tng.w0 ⟨ty, bits, base, size, used, frm, badge, full, word, d0, d1, d2, d3⟩ : Nat) : Int) := by
  subst hf
  obtain ⟨⟨a1, a2⟩, ⟨b1, b2⟩, ⟨c1, c2⟩, _, _, ⟨g1, g2⟩, _⟩ := h
  simp only at a1 a2 b1 b2 c1 c2 g1 g2
  rw [tw64 (x := bits * 256) (by omega) (by omega), tw64 (x := ty + bits * 256) (by omega) (by omega), tw64 (x := base * 65536) (by omega) (by omega), tw64 (x := ty + bits * 256 + base * 65536) (by omega) (by omega), tw64 (x := ty + bits * 256 + base * 65536 + 16777216) (by omega) (by omega), tw64 (x := frm * 65536) (by omega) (by omega), tw64 (x := frm * 65536 * 65536) (by omega) (by omega), tw64 (by omega) (by omega), tu64 (by omega) (by omega), Tng.w0]
  simp only [if_true]
  omega
theorem put_w1 {ty bits base size used frm badge : Int} {full : Bool} {word d0 d1 d2 d3 : Nat} (h : Smallth ⟨ty, bits, base, size, used, frm, badge, full, word, d0, d1, d2, d3⟩) :
    IntKind.u64.wrap (wrap64 (wrap64 (size + wrap64 (used * 65536)) + wrap64 (wrap64 (badge * 65536) * 65536))) = ((Tng.w1 ⟨ty, bits, base, size, used, frm, badge, full, word, d0, d1, d2, d3⟩ : Nat) : Int) := by
  obtain ⟨_, _, _, ⟨a1, a2⟩, ⟨b1, b2⟩, _, ⟨c1, c2⟩⟩ := h
  simp only at a1 a2 b1 b2 c1 c2
  rw [tw64 (x := used * 65536) (by omega) (by omega), tw64 (x := size + used * 65536) (by omega) (by omega), tw64 (x := badge * 65536) (by omega) (by omega), tw64 (x := badge * 65536 * 65536) (by omega) (by omega), tw64 (by omega) (by omega), tu64 (by omega) (by omega), Tng.w1]
  show size + used * 65536 + badge * 65536 * 65536 = (((size + used * 65536 + badge * 65536 * 65536).toNat : Nat) : Int)
  omega
theorem put_list {w0 w : World} {t : Tng} {x y : Int} {L : List Nat} (hE : L = t.words) (hO : Below w0.heap.size w0 w) (hx : x = (t.w0 : Int)) (hy : y = (t.w1 : Int)) :
    WListF w0 (w.alloc (.cells #[.int .u64 x, .int .u64 y, .int .u64 (t.word : Int), .int .u64 (t.d0 : Int), .int .u64 (t.d1 : Int), .int .u64 (t.d2 : Int), .int .u64 (t.d3 : Int), .int .u64 0] 23)) (.returned (.slice (some ⟨w.heap.size, 0, none⟩) 8 8)) L := by
  subst hE hx hy
  exact ⟨_, 8, rfl, Nat.le_refl _, lit_words' w t.words 23 _ rfl, below_on hO (below_alloc _ _)⟩
set_option maxHeartbeats 4000000 in
theorem rputt_any (t : Tng) (w : World) : Calls Try.prog 20 #[t.val] w fun e w' => WListF w w' e (tput t) := by
  have hK := Tbx.new w t 36
  rcases hg : t.good with _ | _
  · have HE : Hid (tput t = []) := Lib.hid (by rw [tput, hg]; rfl)
    have hr := fun w => hg ▸ rgoodt_any t w
    have HR := Lib.hid hr
    clear hg hr
    generalize tput t = L at HE ⊢
    unfold Tng.val at *
    unfold tcells at *
    go_enter Try.func20, Try.ntmps20
    go_wp2_with fail
    generalize w.alloc _ = w1 at hK ⊢
    refine (HR.out w1).mono ?_
    rintro e w2 ⟨rfl, hb⟩
    have HO := Lib.hid (hK.on hb).old
    clear hK hb HR
    go_wp2
    go_ret
    rw [HE.out]
    exact ⟨none, 0, rfl, Nat.le_refl _, no_words _, HO.out⟩
  · have hs := (tng_good.1 hg).small
    have HE : Hid (tput t = t.words) := Lib.hid (by rw [tput, if_pos hg])
    have hr := fun w => hg ▸ rgoodt_any t w
    have HR := Lib.hid hr
    clear hg hr
    generalize tput t = L at HE ⊢
    obtain ⟨ty, bits, base, size, used, frm, badge, full, word, d0, d1, d2, d3⟩ := t
    have HS := Lib.hid hs
    clear hs
    unfold Tng.val at *
    unfold tcells at *
    simp only at HR hK ⊢
    cases full
    · go_enter Try.func20, Try.ntmps20
      go_wp2_with fail
      generalize w.alloc _ = w1 at hK ⊢
      refine (HR.out w1).mono ?_
      rintro e w2 ⟨rfl, hb⟩
      have hK2 := hK.on hb
      have HO := Lib.hid hK2.old
      obtain ⟨c0, c1, c2, c3, c4, c5, c6, c7, c8, c9, c10, c11, c12, _, _, _, lt⟩ := hK2
      simp only at c0 c1 c2 c3 c4 c5 c6 c7 c8 c9 c10 c11 c12
      clear hK hb HR
      go_wp2
      go_ret
      exact put_list HE.out HO.out (put_w0 HS.out rfl) (put_w1 HS.out)
    · go_enter Try.func20, Try.ntmps20
      go_wp2_with fail
      generalize w.alloc _ = w1 at hK ⊢
      refine (HR.out w1).mono ?_
      rintro e w2 ⟨rfl, hb⟩
      have hK2 := hK.on hb
      have HO := Lib.hid hK2.old
      obtain ⟨c0, c1, c2, c3, c4, c5, c6, c7, c8, c9, c10, c11, c12, _, _, _, lt⟩ := hK2
      simp only at c0 c1 c2 c3 c4 c5 c6 c7 c8 c9 c10 c11 c12
      clear hK hb HR
      go_wp2
      go_ret
      exact put_list HE.out HO.out (put_w0' HS.out rfl) (put_w1 HS.out)

/-! ### Cost -/
theorem rcost_is {k s : Int} {w : World} {r : Option Int} (hr : tcost k s = r) : Calls Try.prog 15 #[.int .i64 k, .int .i64 s] w fun e w' => e = .returned (cv r) ∧ w' = w := by
  unfold tcost at hr
  by_cases k1 : k = 1
  · rw [if_pos k1] at hr
    subst k1
    rcases h1 : inr3 s 1 4096 with _ | _
    · rw [h1] at hr
      have H1 := Lib.hid h1
      clear h1
      go_enter Try.func15, Try.ntmps15
      go_wp2_with (go_at_call 32; (with_reducible refine (rwithin_at H1.out _).mono ?_); rintro e w' ⟨rfl, rfl⟩)
      go_ret2
      exact ⟨by rw [← hr]; rfl, rfl⟩
    · rw [h1] at hr
      have H1 := Lib.hid h1
      clear h1
      go_enter Try.func15, Try.ntmps15
      go_wp2_with (go_at_call 32; (with_reducible refine (rwithin_at H1.out _).mono ?_); rintro e w' ⟨rfl, rfl⟩)
      go_ret2
      exact ⟨by rw [← hr]; rfl, rfl⟩
  rw [if_neg k1] at hr
  by_cases k2 : k = 2
  · rw [if_pos k2] at hr
    subst k2
    rcases h1 : inr3 s 1 4 with _ | _
    · rw [h1] at hr
      have H1 := Lib.hid h1
      clear h1 k1
      go_enter Try.func15, Try.ntmps15
      go_wp2_with (go_at_call 32; (with_reducible refine (rwithin_at H1.out _).mono ?_); rintro e w' ⟨rfl, rfl⟩)
      go_ret2
      exact ⟨by rw [← hr]; rfl, rfl⟩
    · rw [h1] at hr
      have H1 := Lib.hid h1
      have HB : Hid (0 ≤ s ∧ s ≤ 60) := Lib.hid (by have := inr3_iff.1 h1; omega)
      clear h1 k1
      go_enter Try.func15, Try.ntmps15
      go_wp2_with (first | (go_at_call 32; (with_reducible refine (rwithin_at H1.out _).mono ?_); rintro e w' ⟨rfl, rfl⟩) | (go_at_call 33; (with_reducible refine (two_is s HB.out.1 HB.out.2 _).mono ?_); rintro e w' ⟨rfl, rfl⟩))
      go_ret2
      exact ⟨by rw [← hr]; rfl, rfl⟩
  rw [if_neg k2] at hr
  by_cases k3 : k = 3
  · rw [if_pos k3] at hr
    subst k3
    go_enter Try.func15, Try.ntmps15
    go_wp2
    go_ret2
    exact ⟨by rw [← hr]; rfl, rfl⟩
  rw [if_neg k3] at hr
  by_cases k4 : k = 4
  · rw [if_pos k4] at hr
    subst k4
    go_enter Try.func15, Try.ntmps15
    go_wp2
    go_ret2
    exact ⟨by rw [← hr]; rfl, rfl⟩
  rw [if_neg k4] at hr
  by_cases k5 : k = 5
  · rw [if_pos k5] at hr
    subst k5
    go_enter Try.func15, Try.ntmps15
    go_wp2
    go_ret2
    exact ⟨by rw [← hr]; rfl, rfl⟩
  · rw [if_neg k5] at hr
    go_enter Try.func15, Try.ntmps15
    go_wp2
    go_ret2
    exact ⟨by rw [← hr]; rfl, rfl⟩
end Go.Proofs.Ytglibcmlophieaa
