/-
  The walk of package call's Good. Condition: the ways lie in memory.
-/
import Derived.Test.YtfcifheejjppfaaDoorAc
namespace Go.Proofs.YtfcifheejjppfaaDoor
open Go.RowKit

theorem form_is {op : Int} {f : Fm} {s : ByteArray} {bl bm xl xm yl ym : Nat} {fw : Bool} (h : fmOf op = some f) (hs : (⟨f.s.toArray⟩ : ByteArray) = s) (h1 : f.bl = bl) (h2 : f.bm = bm) (h3 : f.xl = xl) (h4 : f.xm = xm) (h5 : f.yl = yl) (h6 : f.ym = ym) (h7 : f.w = fw) (w : World) :
    Calls Tryd.prog 20 #[.int .i64 op] w fun e w' => e = .returned (.tuple #[.agg #[.string s, .int .i64 (bl : Int), .int .i64 (bm : Int), .int .i64 (xl : Int), .int .i64 (xm : Int), .int .i64 (yl : Int), .int .i64 (ym : Int), .bool fw], .bool true]) ∧ Below w.heap.size w w' := by
  obtain ⟨k, rfl, k1, k2, rfl⟩ := fm_some h
  subst hs h1 h2 h3 h4 h5 h6 h7
  exact form_at k1 k2 w
theorem form_none {op : Int} (h : fmOf op = none) (w : World) : Calls Tryd.prog 20 #[.int .i64 op] w fun e w' => e = .returned (.tuple #[.agg #[.string ⟨#[]⟩, .int .i64 0, .int .i64 0, .int .i64 0, .int .i64 0, .int .i64 0, .int .i64 0, .bool false], .bool false]) ∧ Below w.heap.size w w' := by
  refine form_no ?_ w
  unfold fmOf at h
  intro hc
  rw [if_pos hc] at h
  cases h
set_option maxHeartbeats 4000000 in
theorem cgood_no {o : Int} {A : Option Addr} {na ca : Nat} {B : Option Addr} {m cb : Nat} {x y : Int} {z : Nat} (h : fmOf o = none) (w : World) :
    Calls Tryd.prog 9 #[.agg #[.int .i64 o, .slice A na ca, .slice B m cb, .int .i64 x, .int .i64 y, .int .u64 (z : Int)]] w fun e w' => e = .returned (.bool false) ∧ Below w.heap.size w w' := by
  have HB := Lib.hid (below_alloc w (.cells #[.int .i64 o, .slice A na ca, .slice B m cb, .int .i64 x, .int .i64 y, .int .u64 (z : Int)] 29))
  have HN := Lib.hid h
  clear h
  go_enter Tryd.func9, Tryd.ntmps9
  go_wp2_with fail
  generalize w.alloc _ = w1 at HB ⊢
  refine (form_none HN.out w1).mono ?_
  rintro e w2 ⟨rfl, hb⟩
  replace HB := Lib.hid (below_on HB.out hb)
  clear hb
  go_wp2
  go_ret
  exact ⟨rfl, bal HB.out⟩
set_option maxHeartbeats 4000000 in
theorem cgood_yes {f : Fm} {o : Int} {A : Option Addr} {na ca : Nat} {B : Option Addr} {m cb : Nat} {a l : List Int} {x y : Int} {z : Nat} {w : World} (h : fmOf o = some f) (hn : na = a.length) (hA : IntsAt w w.heap.size A a) (hm : m = l.length) (hB : IntsAt w w.heap.size B l) {g1 g2 : Bool}
    (hg1 : pgood a = g1) (hg2 : fits f ⟨o, a, l, x, y, z⟩ = g2) :
    Calls Tryd.prog 9 #[.agg #[.int .i64 o, .slice A na ca, .slice B m cb, .int .i64 x, .int .i64 y, .int .u64 (z : Int)]] w fun e w' => e = .returned (.bool (g1 && g2)) ∧ Below w.heap.size w w' := by
  have K2 := Bxs.new w [.int .i64 o, .slice A na ca, .slice B m cb, .int .i64 x, .int .i64 y, .int .u64 (z : Int)] 29
  have HB := Lib.hid K2.old
  have HI := Lib.hid (hA.on HB.out)
  have HJ := Lib.hid (hB.on HB.out)
  have H2 := Lib.hid K2
  have HF := Lib.hid h
  have HN := Lib.hid hn
  have HM := Lib.hid hm
  have E1 := Lib.hid hg1
  have E2 := Lib.hid hg2
  clear K2 h hn hA hm hB hg1 hg2
  go_enter Tryd.func9, Tryd.ntmps9
  go_wp2_with fail
  generalize w.alloc _ = w1 at HB HI HJ H2 ⊢
  obtain ⟨s, hs⟩ : ∃ s, (⟨f.s.toArray⟩ : ByteArray) = s := ⟨_, rfl⟩
  obtain ⟨bl, h1⟩ : ∃ n, f.bl = n := ⟨_, rfl⟩
  obtain ⟨bm, h2⟩ : ∃ n, f.bm = n := ⟨_, rfl⟩
  obtain ⟨xl, h3⟩ : ∃ n, f.xl = n := ⟨_, rfl⟩
  obtain ⟨xm, h4⟩ : ∃ n, f.xm = n := ⟨_, rfl⟩
  obtain ⟨yl, h5⟩ : ∃ n, f.yl = n := ⟨_, rfl⟩
  obtain ⟨ym, h6⟩ : ∃ n, f.ym = n := ⟨_, rfl⟩
  obtain ⟨fw, h7⟩ : ∃ n, f.w = n := ⟨_, rfl⟩
  have HV := Lib.hid (show fits f ⟨o, a, l, x, y, z⟩ = (inSpan bl bm m && ((decide (m = 0) || pgood l) && (inSpan xl xm x && (inSpan yl ym y && (fw || decide (z = 0)))))) by rw [← h1, ← h2, ← h3, ← h4, ← h5, ← h6, ← h7, HM.out]; rfl)
  refine (form_is HF.out hs h1 h2 h3 h4 h5 h6 h7 w1).mono ?_
  clear hs h1 h2 h3 h4 h5 h6 h7
  rintro e w2 ⟨rfl, hb⟩
  replace HB := Lib.hid (below_on HB.out hb)
  replace HI := Lib.hid (HI.out.on hb)
  replace HJ := Lib.hid (HJ.out.on hb)
  replace H2 := Lib.hid (H2.out.on hb)
  have K1 := Bxs.new w2 [.string s, .int .i64 (bl : Int), .int .i64 (bm : Int), .int .i64 (xl : Int), .int .i64 (xm : Int), .int .i64 (yl : Int), .int .i64 (ym : Int), .bool fw] 52
  have H1 := Lib.hid K1
  replace HB := Lib.hid (below_on HB.out K1.old)
  replace HI := Lib.hid (HI.out.on K1.old)
  replace HJ := Lib.hid (HJ.out.on K1.old)
  replace H2 := Lib.hid (H2.out.on K1.old)
  clear hb K1
  go_upto_region 2 with fail
  obtain ⟨g, hg⟩ : ∃ g, g = w2.heap.size := ⟨_, rfl⟩
  rw [← hg] at H1 ⊢
  clear hg
  generalize w2.alloc _ = w3 at HB HI HJ H2 H1 ⊢
  have f0 := H1.out.c 0 _ rfl
  have f1 := H1.out.c 1 _ rfl
  have f2 := H1.out.c 2 _ rfl
  have f3 := H1.out.c 3 _ rfl
  have f4 := H1.out.c 4 _ rfl
  have f5 := H1.out.c 5 _ rfl
  have f6 := H1.out.c 6 _ rfl
  have f7 := H1.out.c 7 _ rfl
  have q0 := H2.out.c 0 _ rfl
  have q1 := H2.out.c 1 _ rfl
  have q2 := H2.out.c 2 _ rfl
  have q3 := H2.out.c 3 _ rfl
  have q4 := H2.out.c 4 _ rfl
  have q5 := H2.out.c 5 _ rfl
  go_wp2_with fail
  refine (good_is (w := w3) HN.out HI.out E1.out).mono ?_
  rintro e w4 ⟨rfl, hb⟩
  clear f0 f1 f2 f3 f4 f5 f6 f7 q0 q1 q2 q3 q4 q5
  replace HB := Lib.hid (below_on HB.out hb)
  replace HJ := Lib.hid (HJ.out.on hb)
  replace H1 := Lib.hid (H1.out.on hb)
  replace H2 := Lib.hid (H2.out.on hb)
  clear hb
  have f0 := H1.out.c 0 _ rfl
  have f1 := H1.out.c 1 _ rfl
  have f2 := H1.out.c 2 _ rfl
  have f3 := H1.out.c 3 _ rfl
  have f4 := H1.out.c 4 _ rfl
  have f5 := H1.out.c 5 _ rfl
  have f6 := H1.out.c 6 _ rfl
  have f7 := H1.out.c 7 _ rfl
  have q0 := H2.out.c 0 _ rfl
  have q1 := H2.out.c 1 _ rfl
  have q2 := H2.out.c 2 _ rfl
  have q3 := H2.out.c 3 _ rfl
  have q4 := H2.out.c 4 _ rfl
  have q5 := H2.out.c 5 _ rfl
  cases g1
  case false =>
    go_wp2
    go_ret
    exact ⟨by simp, HB.out⟩
  case true =>
    go_wp2_with fail
    refine (fits_any s bl bm xl xm yl ym fw o A na ca B m cb l x y z w4 HM.out HJ.out rfl rfl rfl rfl).mono ?_
    rintro e w5 ⟨rfl, hb⟩
    rw [← HV.out, E2.out]
    replace HB := Lib.hid (below_on HB.out hb)
    clear hb
    go_wp2
    go_ret
    exact ⟨by simp, HB.out⟩
theorem cgood_any (c : Cl) {A B : Option Addr} {ca cb : Nat} {w : World} (hA : IntsAt w w.heap.size A c.a) (hB : IntsAt w w.heap.size B c.b) :
    Calls Tryd.prog 9 #[.agg #[.int .i64 c.op, .slice A c.a.length ca, .slice B c.b.length cb, .int .i64 c.x, .int .i64 c.y, .int .u64 (c.w : Int)]] w fun e w' => e = .returned (.bool (cgood c)) ∧ Below w.heap.size w w' := by
  cases hf : fmOf c.op with
  | none =>
    have e : cgood c = false := by simp [cgood, hf]
    rw [e]
    exact cgood_no hf w
  | some f =>
    have e : cgood c = (pgood c.a && fits f c) := by simp [cgood, hf]
    rw [e]
    exact cgood_yes hf rfl hA rfl hB rfl rfl
theorem cgood_at {o : Int} {A : Option Addr} {na ca : Nat} {B : Option Addr} {m cb : Nat} {a l : List Int} {x y : Int} {z : Nat} {w : World} {g : Bool} (hn : na = a.length) (hA : IntsAt w w.heap.size A a) (hm : m = l.length) (hB : IntsAt w w.heap.size B l) (hg : cgood ⟨o, a, l, x, y, z⟩ = g) :
    Calls Tryd.prog 9 #[.agg #[.int .i64 o, .slice A na ca, .slice B m cb, .int .i64 x, .int .i64 y, .int .u64 (z : Int)]] w fun e w' => e = .returned (.bool g) ∧ Below w.heap.size w w' := by
  subst hn hm hg
  exact cgood_any ⟨o, a, l, x, y, z⟩ hA hB
end Go.Proofs.YtfcifheejjppfaaDoor
