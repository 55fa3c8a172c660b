/-
  The walks of package call's textOf, Text. Conditions: the ways lie in memory; the library's table of tens is there.
-/
import Derived.Test.YtfcifheejjppfaaDoorAh
import Derived.Laws.AppendOwn
import Derived.Laws.OwnMore
namespace Go.Proofs.YtfcifheejjppfaaDoor
open Go.RowKit

def bar (l : List UInt8) : ByteArray := ⟨l.toArray⟩
theorem btextof_is {A : Option Addr} {n cap : Nat} {l : List Int} {s : ByteArray} {w : World} (hn : n = l.length) (hL : IntsAt w w.heap.size A l) (hs : bar (btext l) = s) :
    Calls Tryd.prog 26 #[.agg #[.slice A n cap]] w fun e w' => e = .returned (.string s) ∧ Below w.heap.size w w' := by
  have HB := Lib.hid (below_alloc w (.cells #[.slice A n cap] 25))
  have HL := Lib.hid (hL.on HB.out)
  have HN := Lib.hid hn
  have HS := Lib.hid hs
  by_cases h0 : n = 0
  · have h1 : (n : Int) = 0 := by omega
    have hl : l = [] := List.eq_nil_of_length_eq_zero (by omega)
    have HE : Hid (s = ⟨#[45]⟩) := Lib.hid (by rw [← hs, btext, if_pos hl]; rfl)
    clear hL hn hs hl
    go_enter Tryd.func26, Tryd.ntmps26
    go_wp2
    go_ret
    rw [HE.out]
    exact ⟨rfl, below_alloc w _⟩
  · have h1 : ¬ (n : Int) = 0 := by omega
    have hl : ¬ l = [] := fun e => h0 (by rw [hn, e]; rfl)
    have HE : Hid ((⟨(ptext l).toArray⟩ : ByteArray) = s) := Lib.hid (by rw [← hs, btext, if_neg hl]; rfl)
    clear hL hn hs hl
    go_enter Tryd.func26, Tryd.ntmps26
    go_wp2_with fail
    generalize w.alloc _ = w1 at HB HL ⊢
    refine (text_is (w := w1) HN.out HL.out HE.out).mono ?_
    rintro e w2 ⟨rfl, hb⟩
    replace HB := Lib.hid (below_on HB.out hb)
    clear hb
    go_wp2
    go_ret
    exact ⟨rfl, HB.out⟩

/-- a list of texts of the call's own -/
def scells (l : List ByteArray) : List Value := l.map .string
structure Swn (W w : World) (v : Value) (l : List ByteArray) : Prop where
  own : w.ownsRow W.heap.size 9 1 v l.length (scells l)
  old : Below W.heap.size W w
section
variable {W w w' : World} {v v' : Value} {l l' : List ByteArray}
theorem Swn.alloc (h : Swn W w v l) (ob : Obj) : Swn W (w.alloc ob) v l := ⟨h.own.alloc ob, h.old.alloc h.old.size _⟩
theorem Swn.more (h : Swn W w v l) (hg : w.grownBy w' v.ownBlock) (ho : w'.ownsRow W.heap.size 9 1 v' l'.length (scells l')) : Swn W w' v' l' :=
  ⟨ho, h.old.grown hg h.old.size fun k hk => (h.own.lt k hk).1⟩
theorem Swn.on (h : Swn W w v l) (hb : Below w.heap.size w w') : Swn W w' v l :=
  ⟨h.own.kept (row := none) ⟨hb.os, hb.tape, hb.output, hb.size, fun k hk _ => hb.block k hk⟩ (by cases hv : v.ownBlock <;> simp), below_on h.old hb⟩
theorem Swn.lit {W w : World} (h : Below W.heap.size W w) (a b : ByteArray) : Swn W (w.alloc (.cells #[.string a, .string b] 9)) (.slice (some ⟨w.heap.size, 0, none⟩) 2 2) [a, b] :=
  ⟨World.ownsRow_lit (size := 1) w #[.string a, .string b] 2 h.size (by decide) rfl, below_on h (below_alloc _ _)⟩
theorem Swn.cells (h : Swn W w v l) (h0 : l ≠ []) : ∃ g cap, v = .slice (some ⟨g, 0, none⟩) l.length cap ∧ g < w.heap.size ∧ l.length ≤ cap ∧ ∀ (j : Nat) (x : ByteArray), l[j]? = some x → w.cell? ⟨g, 0 + j, none⟩ = some (.string x) := by
  have ho := h.own
  rcases ho.2 with ⟨rfl, hz⟩ | ⟨g, cap, cur, rfl, hb, hg, h1, h2, h3, h4⟩
  · exact absurd (List.length_eq_zero_iff.1 hz) h0
  · refine ⟨g, cap, rfl, (Array.getElem?_eq_some_iff.1 hg).1, h1, fun j x hx => ?_⟩
    have hj : j < l.length := (List.getElem?_eq_some_iff.1 hx).1
    have := ho.cellAt j (by omega)
    rw [Nat.zero_add, this, scells, List.getElem?_map, hx]
    rfl
end
theorem text_new (w : World) (s : ByteArray) : ∀ j u, [Value.string s][j]? = some u → (w.alloc (.cells #[.string s] 9)).cell? ((⟨w.heap.size, 0, none⟩ : Addr).add j) = some u := fun j u hu => by
  rw [Addr.add_mid, Nat.zero_add, cell_of_row _ _ j _ _ _ (heap_alloc_new w _), ← hu]
  simp
theorem text_plain (s : ByteArray) : ∀ u ∈ [Value.string s], u.oneCell' = true := by
  intro u hu
  simp at hu
  subst hu
  rfl
theorem tail_len : ∀ (r : List (List UInt8)), (∀ x ∈ r, x.length ≤ 20) → (Lib.joinTail [32] r).length ≤ 21 * r.length
  | [], _ => by simp [Lib.joinTail]
  | x :: r, h => by
    have ih := tail_len r fun y hy => h y (by simp [hy])
    have hx := h x (by simp)
    have e : Lib.joinTail [32] (x :: r) = 32 :: (x ++ Lib.joinTail [32] r) := by simp [Lib.joinTail]
    rw [e]
    simp only [List.length_cons, List.length_append]
    omega
theorem join_len {l : List ByteArray} (h : ∀ s ∈ l, s.size ≤ 20) (h6 : l.length ≤ 6) : (Lib.join (l.map (·.data.toList)) (⟨#[32]⟩ : ByteArray).data.toList).length ≤ 140737488355328 := by
  match l, h, h6 with
  | [], _, _ => simp [Lib.join_nil]
  | a :: r, h, h6 =>
    rw [List.map_cons, Lib.join_cons, List.length_append]
    have ha : a.data.toList.length ≤ 20 := by rw [Array.length_toList]; exact h a (by simp)
    have := tail_len (r.map (·.data.toList)) fun x hx => by
      obtain ⟨s, hs, rfl⟩ := List.mem_map.1 hx
      rw [Array.length_toList]
      exact h s (by simp [hs])
    simp only [List.length_map, List.length_cons] at this h6
    show _ + (Lib.joinTail [32] _).length ≤ _
    omega
theorem forms_size : ∀ k < 14, (⟨(forms k).s.toArray⟩ : ByteArray).size ≤ 20 := by decide +kernel
theorem ctext_no {o : Int} {A : Option Addr} {na ca : Nat} {B : Option Addr} {m cb : Nat} {a l : List Int} {x y : Int} {z : Nat} {w : World} (hn : na = a.length) (hA : IntsAt w w.heap.size A a) (hm : m = l.length) (hB : IntsAt w w.heap.size B l) (hg : cgood ⟨o, a, l, x, y, z⟩ = false) :
    Calls Tryd.prog 11 #[.agg #[.int .i64 o, .slice A na ca, .slice B m cb, .int .i64 x, .int .i64 y, .int .u64 (z : Int)]] w fun e w' => e = .returned (.string ⟨#[]⟩) ∧ Below w.heap.size w w' := by
  have HB := Lib.hid (below_alloc w (.cells #[.int .i64 o, .slice A na ca, .slice B m cb, .int .i64 x, .int .i64 y, .int .u64 (z : Int)] 29))
  have HI := Lib.hid (hA.on HB.out)
  have HJ := Lib.hid (hB.on HB.out)
  have HN := Lib.hid hn
  have HM := Lib.hid hm
  have HG := Lib.hid hg
  clear hn hA hm hB hg
  go_enter Tryd.func11, Tryd.ntmps11
  go_wp2_with fail
  generalize w.alloc _ = w1 at HB HI HJ ⊢
  refine (cgood_at (w := w1) HN.out HI.out HM.out HJ.out HG.out).mono ?_
  rintro e w2 ⟨rfl, hb⟩
  replace HB := Lib.hid (below_on HB.out hb)
  clear hb
  go_wp2
  go_ret
  exact ⟨rfl, HB.out⟩
theorem itoa_is {n : Nat} {s : ByteArray} (hn : n < 1000000) {w : World} (h : Tab w) (hs : dct n = s) : Calls Tryd.prog 27 #[.int .i64 (n : Int)] w fun e w' => e = .returned (.string s) ∧ Below w.heap.size w w' := hs ▸ itoa_dct hn h
theorem fmt_is {n : Nat} {s : ByteArray} (hn : n < 18446744073709551616) {w : World} (h : Tab w) (hs : dct n = s) : Calls Tryd.prog 28 #[.int .u64 (n : Int), .int .i64 10] w fun e w' => e = .returned (.string s) ∧ Below w.heap.size w w' := hs ▸ fmt_any hn h
set_option maxHeartbeats 16000000 in
theorem ctext_yes {f : Fm} {bl bm xl xm yl ym : Nat} {fw zb zx zy : Bool} {o : Int} {A : Option Addr} {na ca : Nat} {B : Option Addr} {m cb : Nat} {a l : List Int} {x y z : Nat} {s1 s2 s3 s4 s5 s6 t : ByteArray} {w : World} (hT : Tab w) (hn : na = a.length) (hA : IntsAt w w.heap.size A a) (hm : m = l.length) (hB : IntsAt w w.heap.size B l)
    (hg : cgood ⟨o, a, l, x, y, z⟩ = true) (hf : fmOf o = some f) (hs : (⟨f.s.toArray⟩ : ByteArray) = s1) (h1 : f.bl = bl) (h2 : f.bm = bm) (h3 : f.xl = xl) (h4 : f.xm = xm) (h5 : f.yl = yl) (h6 : f.ym = ym) (h7 : f.w = fw) (hzb : decide (0 < bm) = zb) (hzx : decide (0 < xm) = zx) (hzy : decide (0 < ym) = zy)
    (hx : x < 1000000) (hy : y < 1000000) (hz : z < 18446744073709551616) (e2 : (⟨(ptext a).toArray⟩ : ByteArray) = s2) (e3 : bar (btext l) = s3) (e4 : dct x = s4) (e5 : dct y = s5) (e6 : dct z = s6) (hsz : ∀ s ∈ [s1, s2, s3, s4, s5, s6], s.size ≤ 20)
    (ht : t = bar (Lib.join (([s1, s2] ++ ((if zb = true then [s3] else []) ++ ((if zx = true then [s4] else []) ++ ((if zy = true then [s5] else []) ++ (if fw = true then [s6] else []))))).map (·.data.toList)) [32])) :
    Calls Tryd.prog 11 #[.agg #[.int .i64 o, .slice A na ca, .slice B m cb, .int .i64 (x : Int), .int .i64 (y : Int), .int .u64 (z : Int)]] w fun e w' => e = .returned (.string t) ∧ Below w.heap.size w w' := by
  have K2 := Bxs.new w [.int .i64 o, .slice A na ca, .slice B m cb, .int .i64 (x : Int), .int .i64 (y : Int), .int .u64 (z : Int)] 29
  have H2 := Lib.hid K2
  have HI := Lib.hid hA
  have HJ := Lib.hid hB
  have HTB := Lib.hid hT
  have HN := Lib.hid hn
  have HM := Lib.hid hm
  have HG := Lib.hid hg
  have HX := Lib.hid hx
  have HY := Lib.hid hy
  have HZ := Lib.hid hz
  have E2 := Lib.hid e2
  have E3 := Lib.hid e3
  have E4 := Lib.hid e4
  have E5 := Lib.hid e5
  have E6 := Lib.hid e6
  have HSZ := Lib.hid hsz
  have HT := Lib.hid ht
  have HF := Lib.hid fun w1 => form_is hf hs h1 h2 h3 h4 h5 h6 h7 w1
  have ZB := Lib.hid hzb
  have ZX := Lib.hid hzx
  have ZY := Lib.hid hzy
  clear K2 hT hn hA hm hB hg hf hs h1 h2 h3 h4 h5 h6 h7 hzb hzx hzy hx hy hz e2 e3 e4 e5 e6 hsz ht
  go_enter Tryd.func11, Tryd.ntmps11
  go_wp2_with fail
  obtain ⟨b, hbb⟩ : ∃ b, b = w.heap.size := ⟨_, rfl⟩
  rw [← hbb] at H2 ⊢
  clear hbb
  generalize w.alloc _ = w1 at H2 ⊢
  refine (cgood_at (w := w1) HN.out (HI.out.on H2.out.old) HM.out (HJ.out.on H2.out.old) HG.out).mono ?_
  rintro e w2 ⟨rfl, hb⟩
  replace H2 := Lib.hid (H2.out.on hb)
  clear hb
  have c0 := H2.out.c 0 _ rfl
  go_wp2_with fail
  refine (HF.out w2).mono ?_
  rintro e w3 ⟨rfl, hb⟩
  replace H2 := Lib.hid (H2.out.on hb)
  have H1 := Lib.hid (Bxs.more H2.out.old [.string s1, .int .i64 (bl : Int), .int .i64 (bm : Int), .int .i64 (xl : Int), .int .i64 (xm : Int), .int .i64 (yl : Int), .int .i64 (ym : Int), .bool fw] 52)
  have hba := below_alloc w3 (.cells #[.string s1, .int .i64 (bl : Int), .int .i64 (bm : Int), .int .i64 (xl : Int), .int .i64 (xm : Int), .int .i64 (yl : Int), .int .i64 (ym : Int), .bool fw] 52)
  replace H2 := Lib.hid (H2.out.on hba)
  clear hb hba c0
  go_upto_region 4 with fail
  obtain ⟨g, hg⟩ : ∃ g, g = w3.heap.size := ⟨_, rfl⟩
  rw [← hg] at H1 ⊢
  clear hg
  generalize w3.alloc _ = w4 at H2 H1 ⊢
  have HA4 := Lib.hid fun w' (h : Below w4.heap.size w4 w') => HI.out.on (below_on H2.out.old h)
  have HB4 := Lib.hid fun w' (h : Below w4.heap.size w4 w') => HJ.out.on (below_on H2.out.old h)
  have HT4 := Lib.hid fun w' (h : Below w4.heap.size w4 w') => HTB.out.on (below_on H2.out.old h)
  have HO4 := Lib.hid fun w' (h : Below w4.heap.size w4 w') => below_on H2.out.old h
  have HC4 := Lib.hid fun w' (h : Below w4.heap.size w4 w') => (H2.out.on h).c
  have HF4 := Lib.hid fun w' (h : Below w4.heap.size w4 w') => (H1.out.on h).c
  clear HI HJ HTB H2 H1
  have hb0 := below_self w4
  have c1 := HC4.out w4 hb0 1 _ rfl
  have f0 := HF4.out w4 hb0 0 _ rfl
  have R2 := Lib.hid fun w' (h : Below w4.heap.size w4 w') => (text_is (w := w') (cap := ca) HN.out (HA4.out w' h) E2.out).mono fun e w'' he => (⟨he.1, HC4.out w'' (below_on h he.2) 1 _ rfl, HF4.out w'' (below_on h he.2) 0 _ rfl, below_on h he.2⟩ : e = .returned (.string s2) ∧ w''.cell? ⟨b, 1, none⟩ = some (.slice A na ca) ∧ w''.cell? ⟨g, 0, none⟩ = some (.string s1) ∧ Below w4.heap.size w4 w'')
  have hb1 : Below w4.heap.size w4 w4.drew := hb0.drew
  have c1' : w4.drew.cell? ⟨b, 1, none⟩ = some (.slice A na ca) := c1
  have f0' : w4.drew.cell? ⟨g, 0, none⟩ = some (.string s1) := f0
  go_wp2_with fail
  go_region_held3 (fun w' => w'.cell? ⟨b, 1, none⟩ = some (.slice A na ca) ∧ w'.cell? ⟨g, 0, none⟩ = some (.string s1) ∧ Below w4.heap.size w4 w')
    (first | exact ⟨by with_reducible assumption, by with_reducible assumption, by with_reducible assumption⟩ | exact ⟨HC4.out _ (bal (by with_reducible assumption)) 1 _ rfl, HF4.out _ (bal (by with_reducible assumption)) 0 _ rfl, bal (by with_reducible assumption)⟩ | exact ⟨HC4.out _ hb0.drew 1 _ rfl, HF4.out _ hb0.drew 0 _ rfl, hb0.drew⟩ | fail)
    (first
      | (go_at_call 24; ((with_reducible refine (R2.out _ (by with_reducible assumption)).mono ?_); rintro e w' ⟨rfl, y0, y1, y2⟩))
      | fail)
  have HS := Lib.hid (Swn.lit y2 s1 s2)
  obtain ⟨i0, hii, hz0, hz1, hz2⟩ := info9_parts
  clear c1 f0 hb0 hb1 c1' f0' y0 y1 y2 R2
  rename_i hHeld
  clear hHeld
  obtain ⟨v, hv⟩ : ∃ v, v = Value.slice (some ⟨w'.heap.size, 0, none⟩) 2 2 := ⟨_, rfl⟩
  rw [← hv] at HS ⊢
  clear hv
  generalize w'.alloc _ = u at HS ⊢
  have f1 := HF4.out u HS.out.old 1 _ rfl
  have f2 := HF4.out u HS.out.old 2 _ rfl
  go_wp2_with fail
  refine (has_at ZB.out u).mono ?_
  rintro e u1 ⟨rfl, hb⟩
  replace HS := Lib.hid (HS.out.on hb)
  clear hb
  clear f1 f2
  cases zb
  case false =>
    have f3 := HF4.out u1 HS.out.old 3 _ rfl
    have f4 := HF4.out u1 HS.out.old 4 _ rfl
    go_wp2_with fail
    refine (has_at ZX.out u1).mono ?_
    rintro e u2 ⟨rfl, hb⟩
    replace HS := Lib.hid (HS.out.on hb)
    clear hb
    clear f3 f4
    cases zx
    case false =>
      have f5 := HF4.out u2 HS.out.old 5 _ rfl
      have f6 := HF4.out u2 HS.out.old 6 _ rfl
      go_wp2_with fail
      refine (has_at ZY.out u2).mono ?_
      rintro e u3 ⟨rfl, hb⟩
      replace HS := Lib.hid (HS.out.on hb)
      clear hb
      clear f5 f6
      cases zy
      case false =>
        have f7 := HF4.out u3 HS.out.old 7 _ rfl
        cases fw
        case false =>
          obtain ⟨gg, cap, rfl, hgl, hcap, hcl⟩ := HS.out.cells (by simp)
          have HGL := Lib.hid hgl
          have HCAP := Lib.hid hcap
          have HCL := Lib.hid hcl
          clear hgl hcap hcl
          go_wp2_with fail
          refine (Tryd.strings_Join gg 0 cap [s1, s2] ⟨#[32]⟩ u3 HCL.out HGL.out (by simp) HCAP.out (join_len (fun s hs => HSZ.out s ((by simp : [s1, s2] ⊆ [s1, s2, s3, s4, s5, s6]) hs)) (by simp))).mono ?_
          rintro e u4 ⟨rfl, hb⟩
          have HBZ := Lib.hid (HO4.out _ (below_on HS.out.old hb))
          clear hb
          go_wp2
          go_ret
          exact ⟨by rw [HT.out]; rfl, HBZ.out⟩
        case true =>
          have q5 := HC4.out u3 HS.out.old 5 _ rfl
          go_wp2_with fail
          refine (fmt_is HZ.out (HT4.out _ HS.out.old) E6.out).mono ?_
          rintro e u5 ⟨rfl, hb⟩
          replace HS := Lib.hid (HS.out.on hb)
          clear hb
          clear f7 q5
          have HS1 := Lib.hid (HS.out.alloc (.cells #[.string s6] 9))
          have HNEW := Lib.hid (text_new u5 s6)
          have HBS : Hid (w4.heap.size ≤ (u5.alloc (.cells #[.string s6] 9)).heap.size) := Lib.hid HS1.out.old.size
          go_wp2_with (at_builtin; refine wpList_append_own _ rfl _ _ 60 rfl w4.heap.size 9 i0 (.string ByteArray.empty) 1 16 Tryd.underlying60 hii hz0 hz1 hz2 rfl (by decide) _ _ _ rfl HS1.out.own ⟨u5.heap.size, 0, none⟩ 1 1 [.string s6] rfl rfl HNEW.out (text_plain s6) ?ca6 ?cb7 HBS.out ?_)
          case ca6 => simp [maxLen]
          case cb7 => simp
          intro v8 u9 hown hgrow _
          replace HS := Lib.hid (HS1.out.more (l' := [s1, s2, s6]) hgrow hown)
          clear hown hgrow HS1 HNEW HBS
          obtain ⟨gg, cap, rfl, hgl, hcap, hcl⟩ := HS.out.cells (by simp)
          have HGL := Lib.hid hgl
          have HCAP := Lib.hid hcap
          have HCL := Lib.hid hcl
          clear hgl hcap hcl
          go_wp2_with fail
          refine (Tryd.strings_Join gg 0 cap [s1, s2, s6] ⟨#[32]⟩ u9 HCL.out HGL.out (by simp) HCAP.out (join_len (fun s hs => HSZ.out s ((by simp : [s1, s2, s6] ⊆ [s1, s2, s3, s4, s5, s6]) hs)) (by simp))).mono ?_
          rintro e u10 ⟨rfl, hb⟩
          have HBZ := Lib.hid (HO4.out _ (below_on HS.out.old hb))
          clear hb
          go_wp2
          go_ret
          exact ⟨by rw [HT.out]; rfl, HBZ.out⟩
      case true =>
        have q4 := HC4.out u3 HS.out.old 4 _ rfl
        go_wp2_with fail
        refine (itoa_is HY.out (HT4.out _ HS.out.old) E5.out).mono ?_
        rintro e u11 ⟨rfl, hb⟩
        replace HS := Lib.hid (HS.out.on hb)
        clear hb
        clear q4
        have HS1 := Lib.hid (HS.out.alloc (.cells #[.string s5] 9))
        have HNEW := Lib.hid (text_new u11 s5)
        have HBS : Hid (w4.heap.size ≤ (u11.alloc (.cells #[.string s5] 9)).heap.size) := Lib.hid HS1.out.old.size
        go_wp2_with (at_builtin; refine wpList_append_own _ rfl _ _ 60 rfl w4.heap.size 9 i0 (.string ByteArray.empty) 1 16 Tryd.underlying60 hii hz0 hz1 hz2 rfl (by decide) _ _ _ rfl HS1.out.own ⟨u11.heap.size, 0, none⟩ 1 1 [.string s5] rfl rfl HNEW.out (text_plain s5) ?ca12 ?cb13 HBS.out ?_)
        case ca12 => simp [maxLen]
        case cb13 => simp
        intro v14 u15 hown hgrow _
        replace HS := Lib.hid (HS1.out.more (l' := [s1, s2, s5]) hgrow hown)
        clear hown hgrow HS1 HNEW HBS
        have f7 := HF4.out u15 HS.out.old 7 _ rfl
        cases fw
        case false =>
          obtain ⟨gg, cap, rfl, hgl, hcap, hcl⟩ := HS.out.cells (by simp)
          have HGL := Lib.hid hgl
          have HCAP := Lib.hid hcap
          have HCL := Lib.hid hcl
          clear hgl hcap hcl
          go_wp2_with fail
          refine (Tryd.strings_Join gg 0 cap [s1, s2, s5] ⟨#[32]⟩ u15 HCL.out HGL.out (by simp) HCAP.out (join_len (fun s hs => HSZ.out s ((by simp : [s1, s2, s5] ⊆ [s1, s2, s3, s4, s5, s6]) hs)) (by simp))).mono ?_
          rintro e u16 ⟨rfl, hb⟩
          have HBZ := Lib.hid (HO4.out _ (below_on HS.out.old hb))
          clear hb
          go_wp2
          go_ret
          exact ⟨by rw [HT.out]; rfl, HBZ.out⟩
        case true =>
          have q5 := HC4.out u15 HS.out.old 5 _ rfl
          go_wp2_with fail
          refine (fmt_is HZ.out (HT4.out _ HS.out.old) E6.out).mono ?_
          rintro e u17 ⟨rfl, hb⟩
          replace HS := Lib.hid (HS.out.on hb)
          clear hb
          clear f7 q5
          have HS1 := Lib.hid (HS.out.alloc (.cells #[.string s6] 9))
          have HNEW := Lib.hid (text_new u17 s6)
          have HBS : Hid (w4.heap.size ≤ (u17.alloc (.cells #[.string s6] 9)).heap.size) := Lib.hid HS1.out.old.size
          go_wp2_with (at_builtin; refine wpList_append_own _ rfl _ _ 60 rfl w4.heap.size 9 i0 (.string ByteArray.empty) 1 16 Tryd.underlying60 hii hz0 hz1 hz2 rfl (by decide) _ _ _ rfl HS1.out.own ⟨u17.heap.size, 0, none⟩ 1 1 [.string s6] rfl rfl HNEW.out (text_plain s6) ?ca18 ?cb19 HBS.out ?_)
          case ca18 => simp [maxLen]
          case cb19 => simp
          intro v20 u21 hown hgrow _
          replace HS := Lib.hid (HS1.out.more (l' := [s1, s2, s5, s6]) hgrow hown)
          clear hown hgrow HS1 HNEW HBS
          obtain ⟨gg, cap, rfl, hgl, hcap, hcl⟩ := HS.out.cells (by simp)
          have HGL := Lib.hid hgl
          have HCAP := Lib.hid hcap
          have HCL := Lib.hid hcl
          clear hgl hcap hcl
          go_wp2_with fail
          refine (Tryd.strings_Join gg 0 cap [s1, s2, s5, s6] ⟨#[32]⟩ u21 HCL.out HGL.out (by simp) HCAP.out (join_len (fun s hs => HSZ.out s ((by simp : [s1, s2, s5, s6] ⊆ [s1, s2, s3, s4, s5, s6]) hs)) (by simp))).mono ?_
          rintro e u22 ⟨rfl, hb⟩
          have HBZ := Lib.hid (HO4.out _ (below_on HS.out.old hb))
          clear hb
          go_wp2
          go_ret
          exact ⟨by rw [HT.out]; rfl, HBZ.out⟩
    case true =>
      have q3 := HC4.out u2 HS.out.old 3 _ rfl
      go_wp2_with fail
      refine (itoa_is HX.out (HT4.out _ HS.out.old) E4.out).mono ?_
      rintro e u23 ⟨rfl, hb⟩
      replace HS := Lib.hid (HS.out.on hb)
      clear hb
      clear q3
      have HS1 := Lib.hid (HS.out.alloc (.cells #[.string s4] 9))
      have HNEW := Lib.hid (text_new u23 s4)
      have HBS : Hid (w4.heap.size ≤ (u23.alloc (.cells #[.string s4] 9)).heap.size) := Lib.hid HS1.out.old.size
      go_wp2_with (at_builtin; refine wpList_append_own _ rfl _ _ 60 rfl w4.heap.size 9 i0 (.string ByteArray.empty) 1 16 Tryd.underlying60 hii hz0 hz1 hz2 rfl (by decide) _ _ _ rfl HS1.out.own ⟨u23.heap.size, 0, none⟩ 1 1 [.string s4] rfl rfl HNEW.out (text_plain s4) ?ca24 ?cb25 HBS.out ?_)
      case ca24 => simp [maxLen]
      case cb25 => simp
      intro v26 u27 hown hgrow _
      replace HS := Lib.hid (HS1.out.more (l' := [s1, s2, s4]) hgrow hown)
      clear hown hgrow HS1 HNEW HBS
      have f5 := HF4.out u27 HS.out.old 5 _ rfl
      have f6 := HF4.out u27 HS.out.old 6 _ rfl
      go_wp2_with fail
      refine (has_at ZY.out u27).mono ?_
      rintro e u28 ⟨rfl, hb⟩
      replace HS := Lib.hid (HS.out.on hb)
      clear hb
      clear f5 f6
      cases zy
      case false =>
        have f7 := HF4.out u28 HS.out.old 7 _ rfl
        cases fw
        case false =>
          obtain ⟨gg, cap, rfl, hgl, hcap, hcl⟩ := HS.out.cells (by simp)
          have HGL := Lib.hid hgl
          have HCAP := Lib.hid hcap
          have HCL := Lib.hid hcl
          clear hgl hcap hcl
          go_wp2_with fail
          refine (Tryd.strings_Join gg 0 cap [s1, s2, s4] ⟨#[32]⟩ u28 HCL.out HGL.out (by simp) HCAP.out (join_len (fun s hs => HSZ.out s ((by simp : [s1, s2, s4] ⊆ [s1, s2, s3, s4, s5, s6]) hs)) (by simp))).mono ?_
          rintro e u29 ⟨rfl, hb⟩
          have HBZ := Lib.hid (HO4.out _ (below_on HS.out.old hb))
          clear hb
          go_wp2
          go_ret
          exact ⟨by rw [HT.out]; rfl, HBZ.out⟩
        case true =>
          have q5 := HC4.out u28 HS.out.old 5 _ rfl
          go_wp2_with fail
          refine (fmt_is HZ.out (HT4.out _ HS.out.old) E6.out).mono ?_
          rintro e u30 ⟨rfl, hb⟩
          replace HS := Lib.hid (HS.out.on hb)
          clear hb
          clear f7 q5
          have HS1 := Lib.hid (HS.out.alloc (.cells #[.string s6] 9))
          have HNEW := Lib.hid (text_new u30 s6)
          have HBS : Hid (w4.heap.size ≤ (u30.alloc (.cells #[.string s6] 9)).heap.size) := Lib.hid HS1.out.old.size
          go_wp2_with (at_builtin; refine wpList_append_own _ rfl _ _ 60 rfl w4.heap.size 9 i0 (.string ByteArray.empty) 1 16 Tryd.underlying60 hii hz0 hz1 hz2 rfl (by decide) _ _ _ rfl HS1.out.own ⟨u30.heap.size, 0, none⟩ 1 1 [.string s6] rfl rfl HNEW.out (text_plain s6) ?ca31 ?cb32 HBS.out ?_)
          case ca31 => simp [maxLen]
          case cb32 => simp
          intro v33 u34 hown hgrow _
          replace HS := Lib.hid (HS1.out.more (l' := [s1, s2, s4, s6]) hgrow hown)
          clear hown hgrow HS1 HNEW HBS
          obtain ⟨gg, cap, rfl, hgl, hcap, hcl⟩ := HS.out.cells (by simp)
          have HGL := Lib.hid hgl
          have HCAP := Lib.hid hcap
          have HCL := Lib.hid hcl
          clear hgl hcap hcl
          go_wp2_with fail
          refine (Tryd.strings_Join gg 0 cap [s1, s2, s4, s6] ⟨#[32]⟩ u34 HCL.out HGL.out (by simp) HCAP.out (join_len (fun s hs => HSZ.out s ((by simp : [s1, s2, s4, s6] ⊆ [s1, s2, s3, s4, s5, s6]) hs)) (by simp))).mono ?_
          rintro e u35 ⟨rfl, hb⟩
          have HBZ := Lib.hid (HO4.out _ (below_on HS.out.old hb))
          clear hb
          go_wp2
          go_ret
          exact ⟨by rw [HT.out]; rfl, HBZ.out⟩
      case true =>
        have q4 := HC4.out u28 HS.out.old 4 _ rfl
        go_wp2_with fail
        refine (itoa_is HY.out (HT4.out _ HS.out.old) E5.out).mono ?_
        rintro e u36 ⟨rfl, hb⟩
        replace HS := Lib.hid (HS.out.on hb)
        clear hb
        clear q4
        have HS1 := Lib.hid (HS.out.alloc (.cells #[.string s5] 9))
        have HNEW := Lib.hid (text_new u36 s5)
        have HBS : Hid (w4.heap.size ≤ (u36.alloc (.cells #[.string s5] 9)).heap.size) := Lib.hid HS1.out.old.size
        go_wp2_with (at_builtin; refine wpList_append_own _ rfl _ _ 60 rfl w4.heap.size 9 i0 (.string ByteArray.empty) 1 16 Tryd.underlying60 hii hz0 hz1 hz2 rfl (by decide) _ _ _ rfl HS1.out.own ⟨u36.heap.size, 0, none⟩ 1 1 [.string s5] rfl rfl HNEW.out (text_plain s5) ?ca37 ?cb38 HBS.out ?_)
        case ca37 => simp [maxLen]
        case cb38 => simp
        intro v39 u40 hown hgrow _
        replace HS := Lib.hid (HS1.out.more (l' := [s1, s2, s4, s5]) hgrow hown)
        clear hown hgrow HS1 HNEW HBS
        have f7 := HF4.out u40 HS.out.old 7 _ rfl
        cases fw
        case false =>
          obtain ⟨gg, cap, rfl, hgl, hcap, hcl⟩ := HS.out.cells (by simp)
          have HGL := Lib.hid hgl
          have HCAP := Lib.hid hcap
          have HCL := Lib.hid hcl
          clear hgl hcap hcl
          go_wp2_with fail
          refine (Tryd.strings_Join gg 0 cap [s1, s2, s4, s5] ⟨#[32]⟩ u40 HCL.out HGL.out (by simp) HCAP.out (join_len (fun s hs => HSZ.out s ((by simp : [s1, s2, s4, s5] ⊆ [s1, s2, s3, s4, s5, s6]) hs)) (by simp))).mono ?_
          rintro e u41 ⟨rfl, hb⟩
          have HBZ := Lib.hid (HO4.out _ (below_on HS.out.old hb))
          clear hb
          go_wp2
          go_ret
          exact ⟨by rw [HT.out]; rfl, HBZ.out⟩
        case true =>
          have q5 := HC4.out u40 HS.out.old 5 _ rfl
          go_wp2_with fail
          refine (fmt_is HZ.out (HT4.out _ HS.out.old) E6.out).mono ?_
          rintro e u42 ⟨rfl, hb⟩
          replace HS := Lib.hid (HS.out.on hb)
          clear hb
          clear f7 q5
          have HS1 := Lib.hid (HS.out.alloc (.cells #[.string s6] 9))
          have HNEW := Lib.hid (text_new u42 s6)
          have HBS : Hid (w4.heap.size ≤ (u42.alloc (.cells #[.string s6] 9)).heap.size) := Lib.hid HS1.out.old.size
          go_wp2_with (at_builtin; refine wpList_append_own _ rfl _ _ 60 rfl w4.heap.size 9 i0 (.string ByteArray.empty) 1 16 Tryd.underlying60 hii hz0 hz1 hz2 rfl (by decide) _ _ _ rfl HS1.out.own ⟨u42.heap.size, 0, none⟩ 1 1 [.string s6] rfl rfl HNEW.out (text_plain s6) ?ca43 ?cb44 HBS.out ?_)
          case ca43 => simp [maxLen]
          case cb44 => simp
          intro v45 u46 hown hgrow _
          replace HS := Lib.hid (HS1.out.more (l' := [s1, s2, s4, s5, s6]) hgrow hown)
          clear hown hgrow HS1 HNEW HBS
          obtain ⟨gg, cap, rfl, hgl, hcap, hcl⟩ := HS.out.cells (by simp)
          have HGL := Lib.hid hgl
          have HCAP := Lib.hid hcap
          have HCL := Lib.hid hcl
          clear hgl hcap hcl
          go_wp2_with fail
          refine (Tryd.strings_Join gg 0 cap [s1, s2, s4, s5, s6] ⟨#[32]⟩ u46 HCL.out HGL.out (by simp) HCAP.out (join_len (fun s hs => HSZ.out s ((by simp : [s1, s2, s4, s5, s6] ⊆ [s1, s2, s3, s4, s5, s6]) hs)) (by simp))).mono ?_
          rintro e u47 ⟨rfl, hb⟩
          have HBZ := Lib.hid (HO4.out _ (below_on HS.out.old hb))
          clear hb
          go_wp2
          go_ret
          exact ⟨by rw [HT.out]; rfl, HBZ.out⟩
  case true =>
    have q2 := HC4.out u1 HS.out.old 2 _ rfl
    go_wp2_with fail
    refine (btextof_is (w := u1) HM.out (HB4.out _ HS.out.old) E3.out).mono ?_
    rintro e u48 ⟨rfl, hb⟩
    replace HS := Lib.hid (HS.out.on hb)
    clear hb
    clear q2
    have HS1 := Lib.hid (HS.out.alloc (.cells #[.string s3] 9))
    have HNEW := Lib.hid (text_new u48 s3)
    have HBS : Hid (w4.heap.size ≤ (u48.alloc (.cells #[.string s3] 9)).heap.size) := Lib.hid HS1.out.old.size
    go_wp2_with (at_builtin; refine wpList_append_own _ rfl _ _ 60 rfl w4.heap.size 9 i0 (.string ByteArray.empty) 1 16 Tryd.underlying60 hii hz0 hz1 hz2 rfl (by decide) _ _ _ rfl HS1.out.own ⟨u48.heap.size, 0, none⟩ 1 1 [.string s3] rfl rfl HNEW.out (text_plain s3) ?ca49 ?cb50 HBS.out ?_)
    case ca49 => simp [maxLen]
    case cb50 => simp
    intro v51 u52 hown hgrow _
    replace HS := Lib.hid (HS1.out.more (l' := [s1, s2, s3]) hgrow hown)
    clear hown hgrow HS1 HNEW HBS
    have f3 := HF4.out u52 HS.out.old 3 _ rfl
    have f4 := HF4.out u52 HS.out.old 4 _ rfl
    go_wp2_with fail
    refine (has_at ZX.out u52).mono ?_
    rintro e u53 ⟨rfl, hb⟩
    replace HS := Lib.hid (HS.out.on hb)
    clear hb
    clear f3 f4
    cases zx
    case false =>
      have f5 := HF4.out u53 HS.out.old 5 _ rfl
      have f6 := HF4.out u53 HS.out.old 6 _ rfl
      go_wp2_with fail
      refine (has_at ZY.out u53).mono ?_
      rintro e u54 ⟨rfl, hb⟩
      replace HS := Lib.hid (HS.out.on hb)
      clear hb
      clear f5 f6
      cases zy
      case false =>
        have f7 := HF4.out u54 HS.out.old 7 _ rfl
        cases fw
        case false =>
          obtain ⟨gg, cap, rfl, hgl, hcap, hcl⟩ := HS.out.cells (by simp)
          have HGL := Lib.hid hgl
          have HCAP := Lib.hid hcap
          have HCL := Lib.hid hcl
          clear hgl hcap hcl
          go_wp2_with fail
          refine (Tryd.strings_Join gg 0 cap [s1, s2, s3] ⟨#[32]⟩ u54 HCL.out HGL.out (by simp) HCAP.out (join_len (fun s hs => HSZ.out s ((by simp : [s1, s2, s3] ⊆ [s1, s2, s3, s4, s5, s6]) hs)) (by simp))).mono ?_
          rintro e u55 ⟨rfl, hb⟩
          have HBZ := Lib.hid (HO4.out _ (below_on HS.out.old hb))
          clear hb
          go_wp2
          go_ret
          exact ⟨by rw [HT.out]; rfl, HBZ.out⟩
        case true =>
          have q5 := HC4.out u54 HS.out.old 5 _ rfl
          go_wp2_with fail
          refine (fmt_is HZ.out (HT4.out _ HS.out.old) E6.out).mono ?_
          rintro e u56 ⟨rfl, hb⟩
          replace HS := Lib.hid (HS.out.on hb)
          clear hb
          clear f7 q5
          have HS1 := Lib.hid (HS.out.alloc (.cells #[.string s6] 9))
          have HNEW := Lib.hid (text_new u56 s6)
          have HBS : Hid (w4.heap.size ≤ (u56.alloc (.cells #[.string s6] 9)).heap.size) := Lib.hid HS1.out.old.size
          go_wp2_with (at_builtin; refine wpList_append_own _ rfl _ _ 60 rfl w4.heap.size 9 i0 (.string ByteArray.empty) 1 16 Tryd.underlying60 hii hz0 hz1 hz2 rfl (by decide) _ _ _ rfl HS1.out.own ⟨u56.heap.size, 0, none⟩ 1 1 [.string s6] rfl rfl HNEW.out (text_plain s6) ?ca57 ?cb58 HBS.out ?_)
          case ca57 => simp [maxLen]
          case cb58 => simp
          intro v59 u60 hown hgrow _
          replace HS := Lib.hid (HS1.out.more (l' := [s1, s2, s3, s6]) hgrow hown)
          clear hown hgrow HS1 HNEW HBS
          obtain ⟨gg, cap, rfl, hgl, hcap, hcl⟩ := HS.out.cells (by simp)
          have HGL := Lib.hid hgl
          have HCAP := Lib.hid hcap
          have HCL := Lib.hid hcl
          clear hgl hcap hcl
          go_wp2_with fail
          refine (Tryd.strings_Join gg 0 cap [s1, s2, s3, s6] ⟨#[32]⟩ u60 HCL.out HGL.out (by simp) HCAP.out (join_len (fun s hs => HSZ.out s ((by simp : [s1, s2, s3, s6] ⊆ [s1, s2, s3, s4, s5, s6]) hs)) (by simp))).mono ?_
          rintro e u61 ⟨rfl, hb⟩
          have HBZ := Lib.hid (HO4.out _ (below_on HS.out.old hb))
          clear hb
          go_wp2
          go_ret
          exact ⟨by rw [HT.out]; rfl, HBZ.out⟩
      case true =>
        have q4 := HC4.out u54 HS.out.old 4 _ rfl
        go_wp2_with fail
        refine (itoa_is HY.out (HT4.out _ HS.out.old) E5.out).mono ?_
        rintro e u62 ⟨rfl, hb⟩
        replace HS := Lib.hid (HS.out.on hb)
        clear hb
        clear q4
        have HS1 := Lib.hid (HS.out.alloc (.cells #[.string s5] 9))
        have HNEW := Lib.hid (text_new u62 s5)
        have HBS : Hid (w4.heap.size ≤ (u62.alloc (.cells #[.string s5] 9)).heap.size) := Lib.hid HS1.out.old.size
        go_wp2_with (at_builtin; refine wpList_append_own _ rfl _ _ 60 rfl w4.heap.size 9 i0 (.string ByteArray.empty) 1 16 Tryd.underlying60 hii hz0 hz1 hz2 rfl (by decide) _ _ _ rfl HS1.out.own ⟨u62.heap.size, 0, none⟩ 1 1 [.string s5] rfl rfl HNEW.out (text_plain s5) ?ca63 ?cb64 HBS.out ?_)
        case ca63 => simp [maxLen]
        case cb64 => simp
        intro v65 u66 hown hgrow _
        replace HS := Lib.hid (HS1.out.more (l' := [s1, s2, s3, s5]) hgrow hown)
        clear hown hgrow HS1 HNEW HBS
        have f7 := HF4.out u66 HS.out.old 7 _ rfl
        cases fw
        case false =>
          obtain ⟨gg, cap, rfl, hgl, hcap, hcl⟩ := HS.out.cells (by simp)
          have HGL := Lib.hid hgl
          have HCAP := Lib.hid hcap
          have HCL := Lib.hid hcl
          clear hgl hcap hcl
          go_wp2_with fail
          refine (Tryd.strings_Join gg 0 cap [s1, s2, s3, s5] ⟨#[32]⟩ u66 HCL.out HGL.out (by simp) HCAP.out (join_len (fun s hs => HSZ.out s ((by simp : [s1, s2, s3, s5] ⊆ [s1, s2, s3, s4, s5, s6]) hs)) (by simp))).mono ?_
          rintro e u67 ⟨rfl, hb⟩
          have HBZ := Lib.hid (HO4.out _ (below_on HS.out.old hb))
          clear hb
          go_wp2
          go_ret
          exact ⟨by rw [HT.out]; rfl, HBZ.out⟩
        case true =>
          have q5 := HC4.out u66 HS.out.old 5 _ rfl
          go_wp2_with fail
          refine (fmt_is HZ.out (HT4.out _ HS.out.old) E6.out).mono ?_
          rintro e u68 ⟨rfl, hb⟩
          replace HS := Lib.hid (HS.out.on hb)
          clear hb
          clear f7 q5
          have HS1 := Lib.hid (HS.out.alloc (.cells #[.string s6] 9))
          have HNEW := Lib.hid (text_new u68 s6)
          have HBS : Hid (w4.heap.size ≤ (u68.alloc (.cells #[.string s6] 9)).heap.size) := Lib.hid HS1.out.old.size
          go_wp2_with (at_builtin; refine wpList_append_own _ rfl _ _ 60 rfl w4.heap.size 9 i0 (.string ByteArray.empty) 1 16 Tryd.underlying60 hii hz0 hz1 hz2 rfl (by decide) _ _ _ rfl HS1.out.own ⟨u68.heap.size, 0, none⟩ 1 1 [.string s6] rfl rfl HNEW.out (text_plain s6) ?ca69 ?cb70 HBS.out ?_)
          case ca69 => simp [maxLen]
          case cb70 => simp
          intro v71 u72 hown hgrow _
          replace HS := Lib.hid (HS1.out.more (l' := [s1, s2, s3, s5, s6]) hgrow hown)
          clear hown hgrow HS1 HNEW HBS
          obtain ⟨gg, cap, rfl, hgl, hcap, hcl⟩ := HS.out.cells (by simp)
          have HGL := Lib.hid hgl
          have HCAP := Lib.hid hcap
          have HCL := Lib.hid hcl
          clear hgl hcap hcl
          go_wp2_with fail
          refine (Tryd.strings_Join gg 0 cap [s1, s2, s3, s5, s6] ⟨#[32]⟩ u72 HCL.out HGL.out (by simp) HCAP.out (join_len (fun s hs => HSZ.out s ((by simp : [s1, s2, s3, s5, s6] ⊆ [s1, s2, s3, s4, s5, s6]) hs)) (by simp))).mono ?_
          rintro e u73 ⟨rfl, hb⟩
          have HBZ := Lib.hid (HO4.out _ (below_on HS.out.old hb))
          clear hb
          go_wp2
          go_ret
          exact ⟨by rw [HT.out]; rfl, HBZ.out⟩
    case true =>
      have q3 := HC4.out u53 HS.out.old 3 _ rfl
      go_wp2_with fail
      refine (itoa_is HX.out (HT4.out _ HS.out.old) E4.out).mono ?_
      rintro e u74 ⟨rfl, hb⟩
      replace HS := Lib.hid (HS.out.on hb)
      clear hb
      clear q3
      have HS1 := Lib.hid (HS.out.alloc (.cells #[.string s4] 9))
      have HNEW := Lib.hid (text_new u74 s4)
      have HBS : Hid (w4.heap.size ≤ (u74.alloc (.cells #[.string s4] 9)).heap.size) := Lib.hid HS1.out.old.size
      go_wp2_with (at_builtin; refine wpList_append_own _ rfl _ _ 60 rfl w4.heap.size 9 i0 (.string ByteArray.empty) 1 16 Tryd.underlying60 hii hz0 hz1 hz2 rfl (by decide) _ _ _ rfl HS1.out.own ⟨u74.heap.size, 0, none⟩ 1 1 [.string s4] rfl rfl HNEW.out (text_plain s4) ?ca75 ?cb76 HBS.out ?_)
      case ca75 => simp [maxLen]
      case cb76 => simp
      intro v77 u78 hown hgrow _
      replace HS := Lib.hid (HS1.out.more (l' := [s1, s2, s3, s4]) hgrow hown)
      clear hown hgrow HS1 HNEW HBS
      have f5 := HF4.out u78 HS.out.old 5 _ rfl
      have f6 := HF4.out u78 HS.out.old 6 _ rfl
      go_wp2_with fail
      refine (has_at ZY.out u78).mono ?_
      rintro e u79 ⟨rfl, hb⟩
      replace HS := Lib.hid (HS.out.on hb)
      clear hb
      clear f5 f6
      cases zy
      case false =>
        have f7 := HF4.out u79 HS.out.old 7 _ rfl
        cases fw
        case false =>
          obtain ⟨gg, cap, rfl, hgl, hcap, hcl⟩ := HS.out.cells (by simp)
          have HGL := Lib.hid hgl
          have HCAP := Lib.hid hcap
          have HCL := Lib.hid hcl
          clear hgl hcap hcl
          go_wp2_with fail
          refine (Tryd.strings_Join gg 0 cap [s1, s2, s3, s4] ⟨#[32]⟩ u79 HCL.out HGL.out (by simp) HCAP.out (join_len (fun s hs => HSZ.out s ((by simp : [s1, s2, s3, s4] ⊆ [s1, s2, s3, s4, s5, s6]) hs)) (by simp))).mono ?_
          rintro e u80 ⟨rfl, hb⟩
          have HBZ := Lib.hid (HO4.out _ (below_on HS.out.old hb))
          clear hb
          go_wp2
          go_ret
          exact ⟨by rw [HT.out]; rfl, HBZ.out⟩
        case true =>
          have q5 := HC4.out u79 HS.out.old 5 _ rfl
          go_wp2_with fail
          refine (fmt_is HZ.out (HT4.out _ HS.out.old) E6.out).mono ?_
          rintro e u81 ⟨rfl, hb⟩
          replace HS := Lib.hid (HS.out.on hb)
          clear hb
          clear f7 q5
          have HS1 := Lib.hid (HS.out.alloc (.cells #[.string s6] 9))
          have HNEW := Lib.hid (text_new u81 s6)
          have HBS : Hid (w4.heap.size ≤ (u81.alloc (.cells #[.string s6] 9)).heap.size) := Lib.hid HS1.out.old.size
          go_wp2_with (at_builtin; refine wpList_append_own _ rfl _ _ 60 rfl w4.heap.size 9 i0 (.string ByteArray.empty) 1 16 Tryd.underlying60 hii hz0 hz1 hz2 rfl (by decide) _ _ _ rfl HS1.out.own ⟨u81.heap.size, 0, none⟩ 1 1 [.string s6] rfl rfl HNEW.out (text_plain s6) ?ca82 ?cb83 HBS.out ?_)
          case ca82 => simp [maxLen]
          case cb83 => simp
          intro v84 u85 hown hgrow _
          replace HS := Lib.hid (HS1.out.more (l' := [s1, s2, s3, s4, s6]) hgrow hown)
          clear hown hgrow HS1 HNEW HBS
          obtain ⟨gg, cap, rfl, hgl, hcap, hcl⟩ := HS.out.cells (by simp)
          have HGL := Lib.hid hgl
          have HCAP := Lib.hid hcap
          have HCL := Lib.hid hcl
          clear hgl hcap hcl
          go_wp2_with fail
          refine (Tryd.strings_Join gg 0 cap [s1, s2, s3, s4, s6] ⟨#[32]⟩ u85 HCL.out HGL.out (by simp) HCAP.out (join_len (fun s hs => HSZ.out s ((by simp : [s1, s2, s3, s4, s6] ⊆ [s1, s2, s3, s4, s5, s6]) hs)) (by simp))).mono ?_
          rintro e u86 ⟨rfl, hb⟩
          have HBZ := Lib.hid (HO4.out _ (below_on HS.out.old hb))
          clear hb
          go_wp2
          go_ret
          exact ⟨by rw [HT.out]; rfl, HBZ.out⟩
      case true =>
        have q4 := HC4.out u79 HS.out.old 4 _ rfl
        go_wp2_with fail
        refine (itoa_is HY.out (HT4.out _ HS.out.old) E5.out).mono ?_
        rintro e u87 ⟨rfl, hb⟩
        replace HS := Lib.hid (HS.out.on hb)
        clear hb
        clear q4
        have HS1 := Lib.hid (HS.out.alloc (.cells #[.string s5] 9))
        have HNEW := Lib.hid (text_new u87 s5)
        have HBS : Hid (w4.heap.size ≤ (u87.alloc (.cells #[.string s5] 9)).heap.size) := Lib.hid HS1.out.old.size
        go_wp2_with (at_builtin; refine wpList_append_own _ rfl _ _ 60 rfl w4.heap.size 9 i0 (.string ByteArray.empty) 1 16 Tryd.underlying60 hii hz0 hz1 hz2 rfl (by decide) _ _ _ rfl HS1.out.own ⟨u87.heap.size, 0, none⟩ 1 1 [.string s5] rfl rfl HNEW.out (text_plain s5) ?ca88 ?cb89 HBS.out ?_)
        case ca88 => simp [maxLen]
        case cb89 => simp
        intro v90 u91 hown hgrow _
        replace HS := Lib.hid (HS1.out.more (l' := [s1, s2, s3, s4, s5]) hgrow hown)
        clear hown hgrow HS1 HNEW HBS
        have f7 := HF4.out u91 HS.out.old 7 _ rfl
        cases fw
        case false =>
          obtain ⟨gg, cap, rfl, hgl, hcap, hcl⟩ := HS.out.cells (by simp)
          have HGL := Lib.hid hgl
          have HCAP := Lib.hid hcap
          have HCL := Lib.hid hcl
          clear hgl hcap hcl
          go_wp2_with fail
          refine (Tryd.strings_Join gg 0 cap [s1, s2, s3, s4, s5] ⟨#[32]⟩ u91 HCL.out HGL.out (by simp) HCAP.out (join_len (fun s hs => HSZ.out s ((by simp : [s1, s2, s3, s4, s5] ⊆ [s1, s2, s3, s4, s5, s6]) hs)) (by simp))).mono ?_
          rintro e u92 ⟨rfl, hb⟩
          have HBZ := Lib.hid (HO4.out _ (below_on HS.out.old hb))
          clear hb
          go_wp2
          go_ret
          exact ⟨by rw [HT.out]; rfl, HBZ.out⟩
        case true =>
          have q5 := HC4.out u91 HS.out.old 5 _ rfl
          go_wp2_with fail
          refine (fmt_is HZ.out (HT4.out _ HS.out.old) E6.out).mono ?_
          rintro e u93 ⟨rfl, hb⟩
          replace HS := Lib.hid (HS.out.on hb)
          clear hb
          clear f7 q5
          have HS1 := Lib.hid (HS.out.alloc (.cells #[.string s6] 9))
          have HNEW := Lib.hid (text_new u93 s6)
          have HBS : Hid (w4.heap.size ≤ (u93.alloc (.cells #[.string s6] 9)).heap.size) := Lib.hid HS1.out.old.size
          go_wp2_with (at_builtin; refine wpList_append_own _ rfl _ _ 60 rfl w4.heap.size 9 i0 (.string ByteArray.empty) 1 16 Tryd.underlying60 hii hz0 hz1 hz2 rfl (by decide) _ _ _ rfl HS1.out.own ⟨u93.heap.size, 0, none⟩ 1 1 [.string s6] rfl rfl HNEW.out (text_plain s6) ?ca94 ?cb95 HBS.out ?_)
          case ca94 => simp [maxLen]
          case cb95 => simp
          intro v96 u97 hown hgrow _
          replace HS := Lib.hid (HS1.out.more (l' := [s1, s2, s3, s4, s5, s6]) hgrow hown)
          clear hown hgrow HS1 HNEW HBS
          obtain ⟨gg, cap, rfl, hgl, hcap, hcl⟩ := HS.out.cells (by simp)
          have HGL := Lib.hid hgl
          have HCAP := Lib.hid hcap
          have HCL := Lib.hid hcl
          clear hgl hcap hcl
          go_wp2_with fail
          refine (Tryd.strings_Join gg 0 cap [s1, s2, s3, s4, s5, s6] ⟨#[32]⟩ u97 HCL.out HGL.out (by simp) HCAP.out (join_len (fun s hs => HSZ.out s ((by simp : [s1, s2, s3, s4, s5, s6] ⊆ [s1, s2, s3, s4, s5, s6]) hs)) (by simp))).mono ?_
          rintro e u98 ⟨rfl, hb⟩
          have HBZ := Lib.hid (HO4.out _ (below_on HS.out.old hb))
          clear hb
          go_wp2
          go_ret
          exact ⟨by rw [HT.out]; rfl, HBZ.out⟩
theorem ctext_is {c : Cl} {A B : Option Addr} {ca cb : Nat} {t : ByteArray} {w : World} (hT : Tab w) (hA : IntsAt w w.heap.size A c.a) (hB : IntsAt w w.heap.size B c.b) (hw : c.w < 18446744073709551616) (ht : bar (ctext c) = t) :
    Calls Tryd.prog 11 #[.agg #[.int .i64 c.op, .slice A c.a.length ca, .slice B c.b.length cb, .int .i64 c.x, .int .i64 c.y, .int .u64 (c.w : Int)]] w fun e w' => e = .returned (.string t) ∧ Below w.heap.size w w' := by
  subst ht
  cases hg : cgood c
  · have e : ctext c = [] := by
      unfold ctext
      split
      · rfl
      · rw [hg]; rfl
    rw [e]
    exact ctext_no (a := c.a) (l := c.b) rfl hA rfl hB hg
  · obtain ⟨k, hk, k1, k2, hf, ha, hfit⟩ := cgood_some hg
    have F := fits_fit hfit
    have hl := forms_le k (by omega)
    obtain ⟨o, a, b, x, y, z⟩ := c
    obtain ⟨X, rfl⟩ : ∃ X : Nat, x = X := ⟨x.toNat, by have := F.x; simp at this; omega⟩
    obtain ⟨Y, rfl⟩ : ∃ Y : Nat, y = Y := ⟨y.toNat, by have := F.y; simp at this; omega⟩
    have hx : X < 1000000 := by have := F.x; simp at this; omega
    have hy : Y < 1000000 := by have := F.y; simp at this; omega
    refine ctext_yes hT rfl hA rfl hB hg hf rfl rfl rfl rfl rfl rfl rfl rfl rfl rfl rfl hx hy hw rfl rfl rfl rfl rfl ?_ ?_
    · intro s hs
      simp only [List.mem_cons, List.not_mem_nil, or_false] at hs
      rcases hs with rfl | rfl | rfl | rfl | rfl | rfl
      · exact forms_size k (by omega)
      · have : (ptext a).length ≤ 8 := ptext_length ha
        show (ptext a).toArray.size ≤ 20
        rw [List.size_toArray]
        omega
      · show (btext b).toArray.size ≤ 20
        rw [List.size_toArray, btext]
        rcases F.bg with hb | hb
        · rw [if_pos hb]; decide
        · have hne : ¬ b = [] := fun e => by
            have hb2 : pgood b = true := hb
            rw [e] at hb2
            exact absurd hb2 (by decide)
          rw [if_neg hne]
          have : (ptext b).length ≤ 8 := ptext_length hb
          omega
      · exact dct_size (by omega)
      · exact dct_size (by omega)
      · exact dct_size hw
    · rw [ctext, hf]
      simp only [if_pos hg]
      rw [cparts]
      simp only [decide_eq_true_eq, List.map_append, List.map_cons, List.map_nil, apply_ite (List.map fun (x : ByteArray) => x.data.toList), bar, dct, Int.toNat_natCast]
end Go.Proofs.YtfcifheejjppfaaDoor
