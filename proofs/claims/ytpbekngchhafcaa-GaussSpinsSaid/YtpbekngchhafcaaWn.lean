/-
  The walk of the law GaussSays of reevelaw1: package gauss answers as the document does. Condition: the floats are words below 2^64; the list lies in memory and has words in it.
-/
import Derived.Test.YtpbekngchhafcaaWm
namespace Go.Proofs.Ytpbekngchhafcaa
open Go.RowKit Flo

theorem below_drewN {B : Nat} {a w : World} (h : Below B a w) (n : Nat) : Below B a (w.drewN n) := ⟨h.os, h.tape, h.output, h.size, h.block⟩
theorem Lies.more {w : World} {B B' : Nat} {A : Option Addr} {zs : List Int} (h : Lies w B A zs) (hB : B ≤ B') : Lies w B' A zs := by
  intro h0
  obtain ⟨ad, e, hb, hc⟩ := h h0
  exact ⟨ad, e, by omega, hc⟩

/-- 'same' tells true of these parts -/
def SameAt (u v : Nat) : Prop := ∀ w, Calls Try.prog 24 #[.complex .f64 u v, .complex .f64 u v] w fun e w' => e = .returned (.bool true) ∧ w = w'
theorem sameAt_F {a b : Int} (ha : a.natAbs < 2 ^ 53) (hb : b.natAbs < 2 ^ 53) : SameAt (F a) (F b) := fun w => same_self a b (Lib.hid ha) (Lib.hid hb) w
theorem sameAt_zero : SameAt 0 0 := by
  have := sameAt_F (a := 0) (b := 0) (by decide) (by decide)
  rw [c_zero] at this; exact this
theorem use_same (u v : Nat) (h : Hid (SameAt u v)) (w : World) : Calls Try.prog 24 #[.complex .f64 u v, .complex .f64 u v] w fun e w' => e = .returned (.bool true) ∧ w = w' := h.out w

/-- one answer, of two functions -/
def Gives (f : FuncId) (args : Array Value) (v : Value) : Prop := ∀ w, Calls Try.prog f args w fun e w' => e = .returned v ∧ Below w.heap.size w w'
theorem use_gives (f : FuncId) (args : Array Value) (v : Value) (h : Hid (Gives f args v)) (w : World) : Calls Try.prog f args w fun e w' => e = .returned v ∧ Below w.heap.size w w' := h.out w
theorem gives_still {f : FuncId} {args : Array Value} {v : Value} (h : ∀ w, Calls Try.prog f args w fun e w' => e = .returned v ∧ w = w') : Gives f args v :=
  fun w => (h w).mono fun _ _ ⟨h1, h2⟩ => ⟨h1, h2 ▸ Below.refl _ _⟩
theorem gives_drawn {f : FuncId} {args : Array Value} {v : Value} (h : ∀ w, Calls Try.prog f args w fun e w' => e = .returned v ∧ Drawn w w') : Gives f args v :=
  fun w => (h w).mono fun _ _ ⟨h1, n, h2⟩ => ⟨h1, h2 ▸ below_drewN (Below.refl _ _) n⟩

theorem ans_pair (p q : Int) : ∃ u v k, ans p q = .tuple #[.complex .f64 u v, .bool k] ∧ SameAt u v := by
  unfold ans
  cases h : (inT p && inT q)
  · exact ⟨0, 0, false, rfl, sameAt_zero⟩
  · rw [Bool.and_eq_true] at h
    exact ⟨F p, F q, true, rfl, sameAt_F (nA h.1) (nA h.2)⟩

theorem add_same (x y u v : Nat) (hx : x < 2 ^ 64) (hy : y < 2 ^ 64) (hu : u < 2 ^ 64) (hv : v < 2 ^ 64) :
    ∃ r i k, SameAt r i ∧ Gives 12 #[.complex .f64 x y, .complex .f64 u v] (.tuple #[.complex .f64 r i, .bool k]) ∧ Gives 19 #[.complex .f64 x y, .complex .f64 u v] (.tuple #[.complex .f64 r i, .bool k]) := by
  cases h : ((wh x && wh y) && (wh u && wh v))
  · exact ⟨0, 0, false, sameAt_zero, gives_drawn (add_no x y u v (Lib.hid hx) (Lib.hid hy) (Lib.hid hu) (Lib.hid hv) (Lib.hid h)), gives_still (radd_no x y u v (Lib.hid hx) (Lib.hid hy) (Lib.hid hu) (Lib.hid hv) (Lib.hid h))⟩
  · simp only [Bool.and_eq_true] at h
    obtain ⟨⟨h1, h2⟩, h3, h4⟩ := h
    obtain ⟨a, a1, a2, rfl⟩ := of_wh h1
    obtain ⟨b, b1, b2, rfl⟩ := of_wh h2
    obtain ⟨c, c1, c2, rfl⟩ := of_wh h3
    obtain ⟨d, d1, d2, rfl⟩ := of_wh h4
    obtain ⟨r, i, k, e, hs⟩ := ans_pair (a + c) (b + d)
    refine ⟨r, i, k, hs, gives_still fun w => ?_, gives_still fun w => ?_⟩
    · rw [← e]; exact add_yes a b c d (Lib.hid (inT_mk a1 a2)) (Lib.hid (inT_mk b1 b2)) (Lib.hid (inT_mk c1 c2)) (Lib.hid (inT_mk d1 d2)) w
    · rw [← e]; exact radd_yes a b c d _ _ (Lib.hid (inT_mk a1 a2)) (Lib.hid (inT_mk b1 b2)) (Lib.hid (inT_mk c1 c2)) (Lib.hid (inT_mk d1 d2)) rfl rfl w

theorem mul_same (x y u v : Nat) (hx : x < 2 ^ 64) (hy : y < 2 ^ 64) (hu : u < 2 ^ 64) (hv : v < 2 ^ 64) :
    ∃ r i k, SameAt r i ∧ Gives 13 #[.complex .f64 x y, .complex .f64 u v] (.tuple #[.complex .f64 r i, .bool k]) ∧ Gives 20 #[.complex .f64 x y, .complex .f64 u v] (.tuple #[.complex .f64 r i, .bool k]) := by
  cases h : ((nr x && nr y) && (nr u && nr v))
  · exact ⟨0, 0, false, sameAt_zero, gives_still (mul_no x y u v (Lib.hid hx) (Lib.hid hy) (Lib.hid hu) (Lib.hid hv) (Lib.hid h)), gives_still (rmul_no x y u v (Lib.hid hx) (Lib.hid hy) (Lib.hid hu) (Lib.hid hv) (Lib.hid h))⟩
  · simp only [Bool.and_eq_true] at h
    obtain ⟨⟨h1, h2⟩, h3, h4⟩ := h
    obtain ⟨a, ha, rfl⟩ := of_nr h1
    obtain ⟨b, hb, rfl⟩ := of_nr h2
    obtain ⟨c, hc, rfl⟩ := of_nr h3
    obtain ⟨d, hd, rfl⟩ := of_nr h4
    obtain ⟨r, i, k, e, hs⟩ := ans_pair (a * c - b * d) (a * d + b * c)
    refine ⟨r, i, k, hs, gives_still fun w => ?_, gives_still fun w => ?_⟩
    · rw [← e]; exact mul_yes a b c d (Lib.hid ha) (Lib.hid hb) (Lib.hid hc) (Lib.hid hd) w
    · rw [← e]; exact rmul_yes a b c d _ _ (Lib.hid ha) (Lib.hid hb) (Lib.hid hc) (Lib.hid hd) rfl rfl w

theorem of_same (p q : Int) :
    ∃ r i k, SameAt r i ∧ Gives 11 #[.int .i64 p, .int .i64 q] (.tuple #[.complex .f64 r i, .bool k]) ∧ Gives 21 #[.int .i64 p, .int .i64 q] (.tuple #[.complex .f64 r i, .bool k]) := by
  obtain ⟨r, i, k, e, hs⟩ := ans_pair p q
  refine ⟨r, i, k, hs, gives_still fun w => ?_, gives_still fun w => ?_⟩
  · rw [← e]; exact of_is p q _ _ (Lib.hid rfl) (Lib.hid rfl) w
  · rw [← e]; exact rof_any p q w

/-- parts and words -/
theorem parts_same (x y : Nat) (hx : x < 2 ^ 64) (hy : y < 2 ^ 64) :
    ∃ a b k c m, Gives 14 #[.complex .f64 x y] (.tuple #[.int .i64 a, .int .i64 b, .bool k]) ∧ Gives 22 #[.complex .f64 x y] (.tuple #[.int .i64 a, .int .i64 b, .bool k]) ∧ Gives 25 #[.complex .f64 x y] (.bool k) ∧
      Gives 15 #[.complex .f64 x y] (.tuple #[.int .u64 c, .bool m]) ∧ Gives 23 #[.complex .f64 x y] (.tuple #[.int .u64 c, .bool m]) := by
  have X := Lib.hid hx
  have Y := Lib.hid hy
  cases h : (wh x && wh y)
  · refine ⟨0, 0, false, 0, false, gives_still (parts_no x y X Y (Lib.hid h)), gives_still (rparts_no x y X Y (Lib.hid h)), gives_still fun w => ?_, gives_still (word_no x y X Y (Lib.hid h)), gives_still (rword_no x y X Y (Lib.hid h))⟩
    rw [← h]; exact whole_any x y hx hy w
  · have h' := h
    rw [Bool.and_eq_true] at h'
    obtain ⟨a, a1, a2, rfl⟩ := of_wh h'.1
    obtain ⟨b, b1, b2, rfl⟩ := of_wh h'.2
    have TA := Lib.hid (inT_mk a1 a2)
    have TB := Lib.hid (inT_mk b1 b2)
    cases hw : (inW a && inW b)
    · refine ⟨a, b, true, 0, false, gives_still (parts_yes a b TA TB), gives_still (rparts_yes a b TA TB), gives_still fun w => ?_, gives_still (word_not a b TA TB (Lib.hid hw)), gives_still (rword_not a b TA TB (Lib.hid hw))⟩
      rw [← h]; exact whole_any _ _ hx hy w
    · rw [Bool.and_eq_true] at hw
      refine ⟨a, b, true, b * 4294967296 + a, true, gives_still (parts_yes a b TA TB), gives_still (rparts_yes a b TA TB), gives_still fun w => ?_, gives_still (word_yes a b (Lib.hid hw.1) (Lib.hid hw.2)), gives_still (rword_yes a b (Lib.hid hw.1) (Lib.hid hw.2))⟩
      rw [← h]; exact whole_any _ _ hx hy w

theorem norm_same (x y : Nat) (hx : x < 2 ^ 64) (hy : y < 2 ^ 64) :
    ∃ n, Gives 16 #[.complex .f64 x y] (.int .i64 n) ∧ Gives 27 #[.complex .f64 x y] (.int .i64 n) := by
  have X := Lib.hid hx
  have Y := Lib.hid hy
  cases h : (nr x && nr y)
  · exact ⟨-1, gives_still (norm_no x y X Y (Lib.hid h)), gives_still (rnorm_no x y X Y (Lib.hid h))⟩
  · rw [Bool.and_eq_true] at h
    obtain ⟨a, ha, rfl⟩ := of_nr h.1
    obtain ⟨b, hb, rfl⟩ := of_nr h.2
    exact ⟨a * a + b * b, gives_still (norm_yes a b (Lib.hid ha) (Lib.hid hb)), gives_still (rnorm_yes a b (Lib.hid ha) (Lib.hid hb))⟩

theorem turn_same (x y : Nat) (q : Int) (hx : x < 2 ^ 64) (hy : y < 2 ^ 64) :
    ∃ r i, SameAt r i ∧ Gives 17 #[.complex .f64 x y, .int .i64 q] (.complex .f64 r i) ∧ Gives 26 #[.complex .f64 x y, .int .i64 q] (.complex .f64 r i) := by
  have X := Lib.hid hx
  have Y := Lib.hid hy
  cases h : (wh x && wh y)
  · exact ⟨0, 0, sameAt_zero, gives_still (turn_no x y q X Y (Lib.hid h)), gives_still (rturn_no x y q X Y (Lib.hid h))⟩
  · rw [Bool.and_eq_true] at h
    obtain ⟨a, a1, a2, rfl⟩ := of_wh h.1
    obtain ⟨b, b1, b2, rfl⟩ := of_wh h.2
    have TA := Lib.hid (inT_mk a1 a2)
    have TB := Lib.hid (inT_mk b1 b2)
    have r := rot_range (k := q % 4) TA.out TB.out
    exact ⟨_, _, sameAt_F (nA r.1) (nA r.2), turn_yes a b q TA TB, gives_still (rturn_yes a b q TA TB)⟩

set_option maxRecDepth 100000 in
set_option maxHeartbeats 4000000 in
/-- GaussSays. -/
theorem says_walk (x y u v : Nat) (hx : x < 2 ^ 64) (hy : y < 2 ^ 64) (hu : u < 2 ^ 64) (hv : v < 2 ^ 64) (p q n : Int) (A : Option Addr) (cap : Nat) (zs : List Int) (w : World) (hl : zs.length ≤ maxLen) (hL : Lies w w.heap.size A zs) (hW : Wds zs) :
    Calls Try.prog 4 #[.float .f64 x, .float .f64 y, .float .f64 u, .float .f64 v, .int .i64 p, .int .i64 q, .int .i64 n, .slice A zs.length cap] w fun e w' => e = .returned (.bool true) ∧ Below w.heap.size w w' := by
  have HB := Lib.hid (Below.refl w.heap.size w)
  have hl' := hl
  unfold maxLen at hl'
  by_cases hlong : 200 < zs.length
  · clear hx hy hu hv hl hL hW
    generalize zs.length = len at *
    go_enter Try.func4, Try.ntmps4
    go_wp2_with (go_at_call 10; refine (awake_any _).mono ?_; rintro e w' ⟨rfl, hb⟩; replace HB := Lib.hid (HB.out.trans (hb.mono HB.out.size)); clear hb)
    go_ret
    exact ⟨rfl, HB.out⟩
  · obtain ⟨r1, i1, k1, s1, a1, b1⟩ := add_same x y u v hx hy hu hv
    obtain ⟨r2, i2, k2, s2, a2, b2⟩ := mul_same x y u v hx hy hu hv
    obtain ⟨r3, i3, k3, s3, a3, b3⟩ := of_same p q
    obtain ⟨a, b, k, c, m, a4, b4, c4, a5, b5⟩ := parts_same x y hx hy
    obtain ⟨nn, a6, b6⟩ := norm_same x y hx hy
    obtain ⟨r7, i7, s7, a7, b7⟩ := turn_same x y n hx hy
    have sr := spin_range zs
    have s8 : SameAt (F (spin zs).1) (F (spin zs).2) := sameAt_F (by omega) (by omega)
    have hs : ∀ w', Below w.heap.size w w' → Calls Try.prog 18 #[.slice A zs.length cap] w' fun e w'' => e = .returned (.complex .f64 (F (spin zs).1) (F (spin zs).2)) ∧ Below w'.heap.size w' w'' :=
      fun w' hb => spin_any A cap zs w' hl ((hL.below hb).more hb.size) hW
    have hr : ∀ w', Below w.heap.size w w' → Calls Try.prog 28 #[.slice A zs.length cap] w' fun e w'' => e = .returned (.complex .f64 (F (spin zs).1) (F (spin zs).2)) ∧ w' = w'' :=
      fun w' hb => rspin_any A cap zs w' hl ((hL.below hb).more hb.size) hW
    have S1 := Lib.hid s1; have S2 := Lib.hid s2; have S3 := Lib.hid s3; have S7 := Lib.hid s7; have S8 := Lib.hid s8
    have A1 := Lib.hid a1; have A2 := Lib.hid a2; have A3 := Lib.hid a3; have A4 := Lib.hid a4; have A5 := Lib.hid a5; have A6 := Lib.hid a6; have A7 := Lib.hid a7
    have B1 := Lib.hid b1; have B2 := Lib.hid b2; have B3 := Lib.hid b3; have B4 := Lib.hid b4; have B5 := Lib.hid b5; have B6 := Lib.hid b6; have B7 := Lib.hid b7
    have C4 := Lib.hid c4
    have HS := Lib.hid hs
    have HR := Lib.hid hr
    clear hx hy hu hv hl hL hW s1 s2 s3 s7 s8 a1 a2 a3 a4 a5 a6 a7 b1 b2 b3 b4 b5 b6 b7 c4 hs hr sr
    generalize F (spin zs).1 = f1 at *
    generalize F (spin zs).2 = f2 at *
    generalize zs.length = len at *
    go_enter Try.func4, Try.ntmps4
    go_wp2_with (first
      | (go_at_call 10; refine (awake_any _).mono ?_; rintro e w' ⟨rfl, hb⟩; replace HB := Lib.hid (HB.out.trans (hb.mono HB.out.size)); clear hb)
      | (go_at_call 12; ((with_reducible refine (use_gives 12 _ _ A1 _).mono ?_); rintro e w' ⟨rfl, hb⟩; replace HB := Lib.hid (HB.out.trans (hb.mono HB.out.size)); clear hb))
      | (go_at_call 19; ((with_reducible refine (use_gives 19 _ _ B1 _).mono ?_); rintro e w' ⟨rfl, hb⟩; replace HB := Lib.hid (HB.out.trans (hb.mono HB.out.size)); clear hb))
      | (go_at_call 13; ((with_reducible refine (use_gives 13 _ _ A2 _).mono ?_); rintro e w' ⟨rfl, hb⟩; replace HB := Lib.hid (HB.out.trans (hb.mono HB.out.size)); clear hb))
      | (go_at_call 20; ((with_reducible refine (use_gives 20 _ _ B2 _).mono ?_); rintro e w' ⟨rfl, hb⟩; replace HB := Lib.hid (HB.out.trans (hb.mono HB.out.size)); clear hb))
      | (go_at_call 11; ((with_reducible refine (use_gives 11 _ _ A3 _).mono ?_); rintro e w' ⟨rfl, hb⟩; replace HB := Lib.hid (HB.out.trans (hb.mono HB.out.size)); clear hb))
      | (go_at_call 21; ((with_reducible refine (use_gives 21 _ _ B3 _).mono ?_); rintro e w' ⟨rfl, hb⟩; replace HB := Lib.hid (HB.out.trans (hb.mono HB.out.size)); clear hb))
      | (go_at_call 14; ((with_reducible refine (use_gives 14 _ _ A4 _).mono ?_); rintro e w' ⟨rfl, hb⟩; replace HB := Lib.hid (HB.out.trans (hb.mono HB.out.size)); clear hb))
      | (go_at_call 22; ((with_reducible refine (use_gives 22 _ _ B4 _).mono ?_); rintro e w' ⟨rfl, hb⟩; replace HB := Lib.hid (HB.out.trans (hb.mono HB.out.size)); clear hb))
      | (go_at_call 25; ((with_reducible refine (use_gives 25 _ _ C4 _).mono ?_); rintro e w' ⟨rfl, hb⟩; replace HB := Lib.hid (HB.out.trans (hb.mono HB.out.size)); clear hb))
      | (go_at_call 15; ((with_reducible refine (use_gives 15 _ _ A5 _).mono ?_); rintro e w' ⟨rfl, hb⟩; replace HB := Lib.hid (HB.out.trans (hb.mono HB.out.size)); clear hb))
      | (go_at_call 23; ((with_reducible refine (use_gives 23 _ _ B5 _).mono ?_); rintro e w' ⟨rfl, hb⟩; replace HB := Lib.hid (HB.out.trans (hb.mono HB.out.size)); clear hb))
      | (go_at_call 16; ((with_reducible refine (use_gives 16 _ _ A6 _).mono ?_); rintro e w' ⟨rfl, hb⟩; replace HB := Lib.hid (HB.out.trans (hb.mono HB.out.size)); clear hb))
      | (go_at_call 27; ((with_reducible refine (use_gives 27 _ _ B6 _).mono ?_); rintro e w' ⟨rfl, hb⟩; replace HB := Lib.hid (HB.out.trans (hb.mono HB.out.size)); clear hb))
      | (go_at_call 17; ((with_reducible refine (use_gives 17 _ _ A7 _).mono ?_); rintro e w' ⟨rfl, hb⟩; replace HB := Lib.hid (HB.out.trans (hb.mono HB.out.size)); clear hb))
      | (go_at_call 26; ((with_reducible refine (use_gives 26 _ _ B7 _).mono ?_); rintro e w' ⟨rfl, hb⟩; replace HB := Lib.hid (HB.out.trans (hb.mono HB.out.size)); clear hb))
      | (go_at_call 18; refine (HS.out _ HB.out).mono ?_; rintro e w' ⟨rfl, hb⟩; replace HB := Lib.hid (HB.out.trans (hb.mono HB.out.size)); clear hb)
      | (go_at_call 28; refine (HR.out _ HB.out).mono ?_; rintro e w' ⟨rfl, rfl⟩)
      | (go_at_call 24; first
        | ((with_reducible refine (use_same r1 i1 S1 _).mono ?_); rintro e w' ⟨rfl, rfl⟩)
        | ((with_reducible refine (use_same r2 i2 S2 _).mono ?_); rintro e w' ⟨rfl, rfl⟩)
        | ((with_reducible refine (use_same r3 i3 S3 _).mono ?_); rintro e w' ⟨rfl, rfl⟩)
        | ((with_reducible refine (use_same r7 i7 S7 _).mono ?_); rintro e w' ⟨rfl, rfl⟩)
        | ((with_reducible refine (use_same f1 f2 S8 _).mono ?_); rintro e w' ⟨rfl, rfl⟩)))
    go_ret
    exact ⟨rfl, HB.out⟩
end Go.Proofs.Ytpbekngchhafcaa
