/-
  The walk of the reference's GetThing. Condition: the words lie in memory.
-/
import Derived.Test.YtglibcmlophieaaIf
namespace Go.Proofs.Ytglibcmlophieaa
open Go.RowKit
theorem tdn (a k : Nat) : (a : Int).tdiv (k : Int) = ((a / k : Nat) : Int) := by rw [Int.tdiv_eq_ediv_of_nonneg (by omega)]; exact (Int.natCast_ediv a k).symm
theorem tmn (a k : Nat) : (a : Int).tmod (k : Int) = ((a % k : Nat) : Int) := by rw [Int.tmod_eq_emod_of_nonneg (by omega)]; exact (Int.natCast_emod a k).symm
theorem ten (a k : Nat) : (a : Int) / (k : Int) = ((a / k : Nat) : Int) := (Int.natCast_ediv a k).symm
/-- the parts of a first word and of a second -/
structure Parts (a b : Nat) (ty bits base size used frm badge : Int) (full : Bool) : Prop where
  e0 : (a : Int) % 256 = ty
  e1 : wrap64 ((IntKind.u64.wrap ((a : Int) / 256)).tmod 256) = bits
  e2 : wrap64 ((IntKind.u64.wrap ((a : Int) / 65536)).tmod 256) = base
  e3 : (b : Int) % 65536 = size
  e4 : wrap64 ((IntKind.u64.wrap ((b : Int) / 65536)).tmod 65536) = used
  e5 : wrap64 ((IntKind.u64.wrap ((IntKind.u64.wrap ((a : Int) / 65536)).tdiv 65536)).tmod 256) = frm
  e6 : wrap64 ((IntKind.u64.wrap ((IntKind.u64.wrap ((b : Int) / 65536)).tdiv 65536)).tmod 65536) = badge
  e7 : ((IntKind.u64.wrap ((IntKind.u64.wrap ((a : Int) / 65536)).tdiv 256)).tmod 256 == 1) = full
theorem parts_of {a b : Nat} (ha : a < 18446744073709551616) (hb : b < 18446744073709551616) (x d0 d1 d2 d3 : Nat) :
    Parts a b (tofw a b x d0 d1 d2 d3).ty (tofw a b x d0 d1 d2 d3).bits (tofw a b x d0 d1 d2 d3).base (tofw a b x d0 d1 d2 d3).size (tofw a b x d0 d1 d2 d3).used (tofw a b x d0 d1 d2 d3).frm (tofw a b x d0 d1 d2 d3).badge (tofw a b x d0 d1 d2 d3).full := by
  have n1 : ((256 : Nat) : Int) = 256 := rfl
  have n2 : ((65536 : Nat) : Int) = 65536 := rfl
  have a1 := ten a 256
  have a2 := ten a 65536
  have b2 := ten b 65536
  rw [n1] at a1
  rw [n2] at a2 b2
  have u1 := tu64 (z := ((a / 256 : Nat) : Int)) (by omega) (by omega)
  have u2 := tu64 (z := ((a / 65536 : Nat) : Int)) (by omega) (by omega)
  have v2 := tu64 (z := ((b / 65536 : Nat) : Int)) (by omega) (by omega)
  have a3 := tdn (a / 65536) 65536
  have a4 := tdn (a / 65536) 256
  have b3 := tdn (b / 65536) 65536
  rw [n2] at a3 b3
  rw [n1] at a4
  have u3 := tu64 (z := ((a / 65536 / 65536 : Nat) : Int)) (by omega) (by omega)
  have u4 := tu64 (z := ((a / 65536 / 256 : Nat) : Int)) (by omega) (by omega)
  have v3 := tu64 (z := ((b / 65536 / 65536 : Nat) : Int)) (by omega) (by omega)
  have m := fun x => tmn x 256
  have m2 := fun x => tmn x 65536
  rw [n1] at m
  rw [n2] at m2
  refine ⟨?_, ?_, ?_, ?_, ?_, ?_, ?_, ?_⟩
  · show _ = ((a % 256 : Nat) : Int)
    omega
  · rw [a1, u1, m, tw64 (by omega) (by omega)]; rfl
  · rw [a2, u2, m, tw64 (by omega) (by omega)]; rfl
  · show _ = ((b % 65536 : Nat) : Int)
    omega
  · rw [b2, v2, m2, tw64 (by omega) (by omega)]; rfl
  · rw [a2, u2, a3, u3, m, tw64 (by omega) (by omega)]; rfl
  · rw [b2, v2, b3, v3, m2, tw64 (by omega) (by omega)]; rfl
  · rw [a2, u2, a4, u4, m]
    show _ = (a / 65536 / 256 % 256 == 1)
    rw [Bool.eq_iff_iff, beq_iff_eq, beq_iff_eq]
    omega

/-- eight words in memory -/
structure W8 (w : World) (bk o : Nat) (a b x d0 d1 d2 d3 z : Nat) : Prop where
  c0 : w.cell? ⟨bk, o, none⟩ = some (.int .u64 (a : Int))
  c1 : w.cell? ⟨bk, o + 1, none⟩ = some (.int .u64 (b : Int))
  c2 : w.cell? ⟨bk, o + 2, none⟩ = some (.int .u64 (x : Int))
  c3 : w.cell? ⟨bk, o + 3, none⟩ = some (.int .u64 (d0 : Int))
  c4 : w.cell? ⟨bk, o + 4, none⟩ = some (.int .u64 (d1 : Int))
  c5 : w.cell? ⟨bk, o + 5, none⟩ = some (.int .u64 (d2 : Int))
  c6 : w.cell? ⟨bk, o + 6, none⟩ = some (.int .u64 (d3 : Int))
  c7 : w.cell? ⟨bk, o + 7, none⟩ = some (.int .u64 (z : Int))
theorem W8.of {w w' : World} {bk o a b x d0 d1 d2 d3 z : Nat} (h : W8 w bk o a b x d0 d1 d2 d3 z) (hb : Below w.heap.size w w') (lt : bk < w.heap.size) : W8 w' bk o a b x d0 d1 d2 d3 z := by
  have e : ∀ k, w'.cell? ⟨bk, k, none⟩ = w.cell? ⟨bk, k, none⟩ := fun k => hb.cell (p := ⟨bk, k, none⟩) lt
  refine ⟨?_, ?_, ?_, ?_, ?_, ?_, ?_, ?_⟩
  all_goals rw [e]
  · exact h.c0
  · exact h.c1
  · exact h.c2
  · exact h.c3
  · exact h.c4
  · exact h.c5
  · exact h.c6
  · exact h.c7
theorem W8.at {w : World} {bk o a b x d0 d1 d2 d3 z : Nat} (h : WordsAt w w.heap.size (some ⟨bk, o, none⟩) [a, b, x, d0, d1, d2, d3, z]) : bk < w.heap.size ∧ W8 w bk o a b x d0 d1 d2 d3 z := by
  obtain ⟨b', o', e, hlt, hc⟩ := h (by simp)
  injection e with e
  injection e with e1 e2
  subst e1 e2
  exact ⟨hlt, hc 0 a rfl, hc 1 b rfl, hc 2 x rfl, hc 3 d0 rfl, hc 4 d1 rfl, hc 5 d2 rfl, hc 6 d3 rfl, hc 7 z rfl⟩
def RGetTRel (W : World) (L l : List Nat) (k : Nat) (p : Value) (wr : World) : Prop :=
  ∃ i : Nat, k + i = 8 ∧ p = .int .i64 i ∧ L.take i = l.take i ∧ Below W.heap.size W wr
set_option maxHeartbeats 8000000 in
theorem rget_walk {bk o cap : Nat} {a b x d0 d1 d2 d3 z : Nat} {ty bits base size used frm badge : Int} {full : Bool} {l L : List Nat} {r : Option Tng} {w : World} (hl : [a, b, x, d0, d1, d2, d3, z] = l) (hA : WordsAt w w.heap.size (some ⟨bk, o, none⟩) l) (hP : Parts a b ty bits base size used frm badge full) (hL : tput ⟨ty, bits, base, size, used, frm, badge, full, x, d0, d1, d2, d3⟩ = L) (hL8 : L = [] ∨ L.length = 8) (hr : (if L = l then some (⟨ty, bits, base, size, used, frm, badge, full, x, d0, d1, d2, d3⟩ : Tng) else none) = r) :
    Calls Try.prog 14 #[.slice (some ⟨bk, o, none⟩) 8 cap] w fun e w' => e = .returned (tv r) ∧ Below w.heap.size w w' := by
  obtain ⟨lt, h8⟩ := W8.at (hl ▸ hA)
  have HLL := Lib.hid (show l.length = 8 by rw [← hl]; rfl)
  have HA := Lib.hid hA
  have H8 := Lib.hid h8
  have HP := Lib.hid hP
  have HR := Lib.hid hr
  have HL8 := Lib.hid hL8
  have hput := fun w => rputt_any ⟨ty, bits, base, size, used, frm, badge, full, x, d0, d1, d2, d3⟩ w
  rw [hL] at hput
  have HPUT := Lib.hid hput
  have hZ : Tbx w (w.alloc (.cells #[.int .i64 0, .int .i64 0, .int .i64 0, .int .i64 0, .int .i64 0, .int .i64 0, .int .i64 0, .bool false, .int .u64 0, .int .u64 0, .int .u64 0, .int .u64 0, .int .u64 0] 36)) w.heap.size .zero := Tbx.new w .zero 36
  have HLT := Lib.hid lt
  clear h8 hP lt hl hA hL hL8 hr hput
  go_enter Try.func14, Try.ntmps14
  go_wp2_with fail
  generalize w.alloc (.cells #[.int .i64 0, .int .i64 0, .int .i64 0, .int .i64 0, .int .i64 0, .int .i64 0, .int .i64 0, .bool false, .int .u64 0, .int .u64 0, .int .u64 0, .int .u64 0, .int .u64 0] 36) = w1 at hZ ⊢
  have HZ := Lib.hid hZ
  have h8 := H8.out.of hZ.old HLT.out
  have c0 := h8.c0
  have c1 := h8.c1
  clear h8 hZ
  go_quiet (fail)
  have HZ2 : Hid (Tbx w (w1.drewN nq) w.heap.size .zero) := Lib.hid (HZ.out.on (below_draws (below_self _) _))
  have H82 : Hid (W8 (w1.drewN nq) bk o a b x d0 d1 d2 d3 z) := Lib.hid (H8.out.of HZ2.out.old HLT.out)
  go_upto_region 4 with fail
  clear c0 c1
  generalize w1.drewN nq = w2 at HZ2 H82 ⊢
  go_cut [6] from 13 to 68 (fun c wx => c = .pointer (some ⟨w2.heap.size, 0, none⟩) ∧ Tbx w2 wx w2.heap.size ⟨ty, bits, base, size, used, frm, badge, full, x, d0, d1, d2, d3⟩)
  case first =>
    have c2 := H82.out.c2
    have c3 := H82.out.c3
    have c4 := H82.out.c4
    have c5 := H82.out.c5
    have c6 := H82.out.c6
    have hl2 : bk < w2.heap.size := Nat.lt_of_lt_of_le HLT.out HZ2.out.old.size
    go_region
    go_wp2_with fail
    simp only [HP.out.e0, HP.out.e1, HP.out.e2, HP.out.e3, HP.out.e4, HP.out.e5, HP.out.e6, HP.out.e7]
    go_meet
    exact ⟨rfl, (Tbx.new w2 ⟨ty, bits, base, size, used, frm, badge, full, x, d0, d1, d2, d3⟩ 36).on (below_self _).drew⟩
  obtain ⟨rfl, hT⟩ := hcut
  have HZ3 := Lib.hid (HZ2.out.on hT.old)
  have HT := Lib.hid hT
  clear hT HZ2 HZ H82 H8 HP
  obtain ⟨e0, e1, e2, e3, e4, e5, e6, e7, e8, e9, e10, e11, e12, _, _, _, _⟩ := HT.out
  simp only at e0 e1 e2 e3 e4 e5 e6 e7 e8 e9 e10 e11 e12
  go_wp2_with fail
  clear e0 e1 e2 e3 e4 e5 e6 e7 e8 e9 e10 e11 e12
  refine (HPUT.out wc).mono ?_
  rintro e w4 ⟨B, cb, rfl, hcb, hi, hb⟩
  have HZ4 := Lib.hid (HZ3.out.on hb)
  have HT4 := Lib.hid (HT.out.on hb)
  have HI := Lib.hid hi
  have HA4 := Lib.hid (HA.out.grow HZ4.out.old)
  clear hb hi HZ3 HT hcb HPUT HA
  rcases HL8.out with e | hn
  · have HE : Hid (r = none) := Lib.hid (by rw [← HR.out, if_neg]; intro q; have := HLL.out; rw [← q, e] at this; simp at this)
    subst e
    obtain ⟨c0, c1, c2, c3, c4, c5, c6, c7, c8, c9, c10, c11, c12, hf, _, _, _⟩ := HZ4.out
    simp only [Tng.zero, Tng.of, Int.ofNat_zero] at c0 c1 c2 c3 c4 c5 c6 c7 c8 c9 c10 c11 c12
    have f0 := hf 0
    have f1 := hf 1
    have f2 := hf 2
    have f3 := hf 3
    have f4 := hf 4
    have f5 := hf 5
    have f6 := hf 6
    have f7 := hf 7
    have f8 := hf 8
    have f9 := hf 9
    have f10 := hf 10
    have f11 := hf 11
    have f12 := hf 12
    clear hf
    go_wp2
    refine bodyPost_ret (by simp [results, Try.results14, go_sem, c0, c1, c2, c3, c4, c5, c6, c7, c8, c9, c10, c11, c12]; rfl) rfl ?_
    rw [HE.out]
    exact ⟨rfl, below_put HZ4.out.old (Nat.le_refl _) _ _ _ _ _ _ _ _ _ _ _ _ _⟩
  · rw [hn]
    have HN := Lib.hid hn
    clear hn HL8
    go_wp2_with fail
    go_loopg [8] 8 (fun k p wr => RGetTRel w4 L l k p wr)
    case atStart => exact ⟨0, by omega, rfl, rfl, below_self _⟩
    case round =>
      obtain ⟨i, hk, rfl, ht, hb⟩ := hrel
      have HK := Lib.hid hk
      have HB := Lib.hid hb
      have HTK := Lib.hid ht
      clear hk hb ht
      have HZ5 := Lib.hid (HZ4.out.on HB.out)
      have HT5 := Lib.hid (HT4.out.on HB.out)
      by_cases hlt : i < 8
      · have HLT8 := Lib.hid hlt
        have hlt2 : (i : Int) < 8 := by omega
        obtain ⟨g1, o1, rfl, x1, y1⟩ := HI.out (by rw [HN.out]; omega)
        obtain ⟨g2, o2, e2, x2, y2⟩ := HA4.out (by rw [HLL.out]; omega)
        injection e2 with e2
        injection e2 with e3 e4
        subst e3 e4
        obtain ⟨q, hq⟩ : ∃ q, L[i]? = some q := ⟨L[i]'(by rw [HN.out]; exact hlt), List.getElem?_eq_getElem _⟩
        obtain ⟨y, hy⟩ : ∃ y, l[i]? = some y := ⟨l[i]'(by rw [HLL.out]; exact hlt), List.getElem?_eq_getElem _⟩
        have c1 : wr.cell? ⟨g1, o1 + i, none⟩ = some (.int .u64 (q : Int)) := by rw [HB.out.cell (p := ⟨g1, _, none⟩) x1]; exact y1 i q hq
        have c2 : wr.cell? ⟨bk, o + i, none⟩ = some (.int .u64 (y : Int)) := by rw [HB.out.cell (p := ⟨bk, _, none⟩) x2]; exact y2 i y hy
        have HQ := Lib.hid hq
        have HY := Lib.hid hy
        clear x1 x2 y1 y2 hq hy
        by_cases hqy : q = y
        · subst hqy
          go_wp2_with fail
          go_quiet (fail)
          go_wp2
          go_roundg (8 - (i + 1))
          case measure => have := HK.out; have := HLT8.out; omega
          case rel => exact ⟨i + 1, by have := HLT8.out; omega, by go_num, by rw [List.take_add_one, List.take_add_one, HTK.out, HQ.out, HY.out], below_draws HB.out _⟩
        · have HE : Hid (r = none) := Lib.hid (by
            rw [← HR.out, if_neg]
            intro e
            rw [e] at HQ
            exact hqy (Option.some.inj (HQ.out.symm.trans HY.out)))
          go_wp2_with fail
          go_quiet (fail)
          have HZ6 : Hid (Tbx w (wr.drewN nq) w.heap.size .zero) := Lib.hid (HZ5.out.on (below_draws (below_self _) _))
          generalize wr.drewN nq = w6 at HZ6 ⊢
          clear c1 c2
          obtain ⟨c0, c1, c2, c3, c4, c5, c6, c7, c8, c9, c10, c11, c12, hf, _, _, _⟩ := HZ6.out
          simp only [Tng.zero, Tng.of, Int.ofNat_zero] at c0 c1 c2 c3 c4 c5 c6 c7 c8 c9 c10 c11 c12
          have f0 := hf 0
          have f1 := hf 1
          have f2 := hf 2
          have f3 := hf 3
          have f4 := hf 4
          have f5 := hf 5
          have f6 := hf 6
          have f7 := hf 7
          have f8 := hf 8
          have f9 := hf 9
          have f10 := hf 10
          have f11 := hf 11
          have f12 := hf 12
          clear hf
          go_wp2
          refine bodyPost_ret (by simp [results, Try.results14, go_sem, c0, c1, c2, c3, c4, c5, c6, c7, c8, c9, c10, c11, c12]; rfl) rfl ?_
          rw [HE.out]
          exact ⟨rfl, below_put HZ6.out.old (Nat.le_refl _) _ _ _ _ _ _ _ _ _ _ _ _ _⟩
      · have HE : Hid (r = some ⟨ty, bits, base, size, used, frm, badge, full, x, d0, d1, d2, d3⟩) := Lib.hid (by
          have hi8 : i = 8 := by have := HK.out; omega
          have := HTK.out
          rw [hi8, List.take_of_length_le (by rw [HN.out]; omega), List.take_of_length_le (by rw [HLL.out]; omega)] at this
          rw [← HR.out, if_pos this])
        have hlt2 : ¬ (i : Int) < 8 := by omega
        obtain ⟨e0, e1, e2, e3, e4, e5, e6, e7, e8, e9, e10, e11, e12, _, _, _, _⟩ := HT5.out
        simp only at e0 e1 e2 e3 e4 e5 e6 e7 e8 e9 e10 e11 e12
        clear hlt
        obtain ⟨c0, c1, c2, c3, c4, c5, c6, c7, c8, c9, c10, c11, c12, hf, _, _, _⟩ := HZ5.out
        simp only [Tng.zero, Tng.of, Int.ofNat_zero] at c0 c1 c2 c3 c4 c5 c6 c7 c8 c9 c10 c11 c12
        have f0 := hf 0
        have f1 := hf 1
        have f2 := hf 2
        have f3 := hf 3
        have f4 := hf 4
        have f5 := hf 5
        have f6 := hf 6
        have f7 := hf 7
        have f8 := hf 8
        have f9 := hf 9
        have f10 := hf 10
        have f11 := hf 11
        have f12 := hf 12
        clear hf
        go_wp2
        refine bodyPost_ret (by simp [results, Try.results14, go_sem, c0, c1, c2, c3, c4, c5, c6, c7, c8, c9, c10, c11, c12]; rfl) rfl ?_
        rw [HE.out]
        exact ⟨rfl, below_put HZ5.out.old (Nat.le_refl _) _ _ _ _ _ _ _ _ _ _ _ _ _⟩
end Go.Proofs.Ytglibcmlophieaa
