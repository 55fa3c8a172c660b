/-
  The walks of package call's fits, Good. Condition: the ways lie in memory.
-/
import Derived.Test.YtfcifheejjppfaaDoorAb
namespace Go.Proofs.YtfcifheejjppfaaDoor
open Go.RowKit

set_option maxHeartbeats 8000000 in
theorem fits_any (s : ByteArray) (bl bm xl xm yl ym : Nat) (fw : Bool) (o : Int) (A : Option Addr) (na ca : Nat) (B : Option Addr) (m cb : Nat) (l : List Int) (x y : Int) (z : Nat) (w : World) (hm : m = l.length) (hB : IntsAt w w.heap.size B l) {b0 bg bx byy : Bool}
    (h0 : inSpan bl bm m = b0) (hg : pgood l = bg) (hx : inSpan xl xm x = bx) (hy : inSpan yl ym y = byy) :
    Calls Tryd.prog 22 #[.agg #[.string s, .int .i64 (bl : Int), .int .i64 (bm : Int), .int .i64 (xl : Int), .int .i64 (xm : Int), .int .i64 (yl : Int), .int .i64 (ym : Int), .bool fw], .agg #[.int .i64 o, .slice A na ca, .slice B m cb, .int .i64 x, .int .i64 y, .int .u64 (z : Int)]] w fun e w' => e = .returned (.bool (b0 && ((decide (m = 0) || bg) && (bx && (byy && (fw || decide (z = 0))))))) ∧ Below w.heap.size w w' := by
  have K1 := Bxs.new w [.string s, .int .i64 (bl : Int), .int .i64 (bm : Int), .int .i64 (xl : Int), .int .i64 (xm : Int), .int .i64 (yl : Int), .int .i64 (ym : Int), .bool fw] 52
  have K2 := Bxs.next w (.cells #[.string s, .int .i64 (bl : Int), .int .i64 (bm : Int), .int .i64 (xl : Int), .int .i64 (xm : Int), .int .i64 (yl : Int), .int .i64 (ym : Int), .bool fw] 52) [.int .i64 o, .slice A na ca, .slice B m cb, .int .i64 x, .int .i64 y, .int .u64 (z : Int)] 29
  have HB := Lib.hid K2.old
  have HI := Lib.hid (hB.on HB.out)
  have H1 := Lib.hid (K1.on (below_alloc _ (.cells #[.int .i64 o, .slice A na ca, .slice B m cb, .int .i64 x, .int .i64 y, .int .u64 (z : Int)] 29)))
  have H2 := Lib.hid K2
  clear K1 K2
  have HM := Lib.hid hm
  have E0 := Lib.hid h0
  have EG := Lib.hid hg
  have EX := Lib.hid hx
  have EY := Lib.hid hy
  clear hm hB h0 hg hx hy
  go_enter Tryd.func22, Tryd.ntmps22
  go_wp2_with fail
  generalize (w.alloc (.cells #[.string s, .int .i64 (bl : Int), .int .i64 (bm : Int), .int .i64 (xl : Int), .int .i64 (xm : Int), .int .i64 (yl : Int), .int .i64 (ym : Int), .bool fw] 52)).alloc (.cells #[.int .i64 o, .slice A na ca, .slice B m cb, .int .i64 x, .int .i64 y, .int .u64 (z : Int)] 29) = w1 at H1 H2 HB HI ⊢
  refine (holds_at E0.out w1).mono ?_
  rintro e w2 ⟨rfl, hb⟩
  replace H1 := Lib.hid (H1.out.on hb)
  replace H2 := Lib.hid (H2.out.on hb)
  replace HI := Lib.hid (HI.out.on hb)
  replace HB := Lib.hid (below_on HB.out hb)
  clear hb
  have f1 := H1.out.c 1 _ rfl
  have f2 := H1.out.c 2 _ rfl
  have f3 := H1.out.c 3 _ rfl
  have f4 := H1.out.c 4 _ rfl
  have f5 := H1.out.c 5 _ rfl
  have f6 := H1.out.c 6 _ rfl
  have f7 := H1.out.c 7 _ rfl
  have q2 := H2.out.c 2 _ rfl
  have q3 := H2.out.c 3 _ rfl
  have q4 := H2.out.c 4 _ rfl
  have q5 := H2.out.c 5 _ rfl
  cases b0
  case false =>
    go_wp2
    go_ret
    exact ⟨by simp [*], HB.out⟩
  case true =>
    by_cases hm0 : m = 0
    · have hm1 : (m : Int) = 0 := by omega
      go_wp2_with fail
      refine (holds_at EX.out w2).mono ?_
      rintro e u0 ⟨rfl, hb⟩
      clear f1 f2 f3 f4 f5 f6 f7 q2 q3 q4 q5
      replace H1 := Lib.hid (H1.out.on hb)
      replace H2 := Lib.hid (H2.out.on hb)
      replace HI := Lib.hid (HI.out.on hb)
      replace HB := Lib.hid (below_on HB.out hb)
      clear hb
      have f1 := H1.out.c 1 _ rfl
      have f2 := H1.out.c 2 _ rfl
      have f3 := H1.out.c 3 _ rfl
      have f4 := H1.out.c 4 _ rfl
      have f5 := H1.out.c 5 _ rfl
      have f6 := H1.out.c 6 _ rfl
      have f7 := H1.out.c 7 _ rfl
      have q2 := H2.out.c 2 _ rfl
      have q3 := H2.out.c 3 _ rfl
      have q4 := H2.out.c 4 _ rfl
      have q5 := H2.out.c 5 _ rfl
      cases bx
      case false =>
        go_wp2
        go_ret
        exact ⟨by simp [*], HB.out⟩
      case true =>
        go_wp2_with fail
        refine (holds_at EY.out u0).mono ?_
        rintro e v0 ⟨rfl, hb⟩
        clear f1 f2 f3 f4 f5 f6 f7 q2 q3 q4 q5
        replace H1 := Lib.hid (H1.out.on hb)
        replace H2 := Lib.hid (H2.out.on hb)
        replace HI := Lib.hid (HI.out.on hb)
        replace HB := Lib.hid (below_on HB.out hb)
        clear hb
        have f1 := H1.out.c 1 _ rfl
        have f2 := H1.out.c 2 _ rfl
        have f3 := H1.out.c 3 _ rfl
        have f4 := H1.out.c 4 _ rfl
        have f5 := H1.out.c 5 _ rfl
        have f6 := H1.out.c 6 _ rfl
        have f7 := H1.out.c 7 _ rfl
        have q2 := H2.out.c 2 _ rfl
        have q3 := H2.out.c 3 _ rfl
        have q4 := H2.out.c 4 _ rfl
        have q5 := H2.out.c 5 _ rfl
        cases byy
        case false =>
          go_wp2
          go_ret
          exact ⟨by simp [*], HB.out⟩
        case true =>
          cases fw
          case false =>
            by_cases hz0 : z = 0
            · have hz1 : (z : Int) = 0 := by omega
              go_wp2
              go_ret
              exact ⟨by simp [*], HB.out⟩
            · have hz1 : ¬ (z : Int) = 0 := by omega
              go_wp2
              go_ret
              exact ⟨by simp [*], HB.out⟩
          case true =>
            go_wp2
            go_ret
            exact ⟨by simp [*], HB.out⟩
    · have hm1 : ¬ (m : Int) = 0 := by omega
      go_wp2_with fail
      refine (good_is (w := w2) HM.out HI.out EG.out).mono ?_
      rintro e w3 ⟨rfl, hb⟩
      clear f1 f2 f3 f4 f5 f6 f7 q2 q3 q4 q5
      replace H1 := Lib.hid (H1.out.on hb)
      replace H2 := Lib.hid (H2.out.on hb)
      replace HI := Lib.hid (HI.out.on hb)
      replace HB := Lib.hid (below_on HB.out hb)
      clear hb
      have f1 := H1.out.c 1 _ rfl
      have f2 := H1.out.c 2 _ rfl
      have f3 := H1.out.c 3 _ rfl
      have f4 := H1.out.c 4 _ rfl
      have f5 := H1.out.c 5 _ rfl
      have f6 := H1.out.c 6 _ rfl
      have f7 := H1.out.c 7 _ rfl
      have q2 := H2.out.c 2 _ rfl
      have q3 := H2.out.c 3 _ rfl
      have q4 := H2.out.c 4 _ rfl
      have q5 := H2.out.c 5 _ rfl
      cases bg
      case false =>
        go_wp2
        go_ret
        exact ⟨by simp [*], HB.out⟩
      case true =>
        go_wp2_with fail
        refine (holds_at EX.out w3).mono ?_
        rintro e u1 ⟨rfl, hb⟩
        clear f1 f2 f3 f4 f5 f6 f7 q2 q3 q4 q5
        replace H1 := Lib.hid (H1.out.on hb)
        replace H2 := Lib.hid (H2.out.on hb)
        replace HI := Lib.hid (HI.out.on hb)
        replace HB := Lib.hid (below_on HB.out hb)
        clear hb
        have f1 := H1.out.c 1 _ rfl
        have f2 := H1.out.c 2 _ rfl
        have f3 := H1.out.c 3 _ rfl
        have f4 := H1.out.c 4 _ rfl
        have f5 := H1.out.c 5 _ rfl
        have f6 := H1.out.c 6 _ rfl
        have f7 := H1.out.c 7 _ rfl
        have q2 := H2.out.c 2 _ rfl
        have q3 := H2.out.c 3 _ rfl
        have q4 := H2.out.c 4 _ rfl
        have q5 := H2.out.c 5 _ rfl
        cases bx
        case false =>
          go_wp2
          go_ret
          exact ⟨by simp [*], HB.out⟩
        case true =>
          go_wp2_with fail
          refine (holds_at EY.out u1).mono ?_
          rintro e v1 ⟨rfl, hb⟩
          clear f1 f2 f3 f4 f5 f6 f7 q2 q3 q4 q5
          replace H1 := Lib.hid (H1.out.on hb)
          replace H2 := Lib.hid (H2.out.on hb)
          replace HI := Lib.hid (HI.out.on hb)
          replace HB := Lib.hid (below_on HB.out hb)
          clear hb
          have f1 := H1.out.c 1 _ rfl
          have f2 := H1.out.c 2 _ rfl
          have f3 := H1.out.c 3 _ rfl
          have f4 := H1.out.c 4 _ rfl
          have f5 := H1.out.c 5 _ rfl
          have f6 := H1.out.c 6 _ rfl
          have f7 := H1.out.c 7 _ rfl
          have q2 := H2.out.c 2 _ rfl
          have q3 := H2.out.c 3 _ rfl
          have q4 := H2.out.c 4 _ rfl
          have q5 := H2.out.c 5 _ rfl
          cases byy
          case false =>
            go_wp2
            go_ret
            exact ⟨by simp [*], HB.out⟩
          case true =>
            cases fw
            case false =>
              by_cases hz0 : z = 0
              · have hz1 : (z : Int) = 0 := by omega
                go_wp2
                go_ret
                exact ⟨by simp [*], HB.out⟩
              · have hz1 : ¬ (z : Int) = 0 := by omega
                go_wp2
                go_ret
                exact ⟨by simp [*], HB.out⟩
            case true =>
              go_wp2
              go_ret
              exact ⟨by simp [*], HB.out⟩
end Go.Proofs.YtfcifheejjppfaaDoor
