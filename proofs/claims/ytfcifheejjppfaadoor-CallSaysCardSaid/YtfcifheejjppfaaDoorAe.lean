/-
  The walk of package call's Words. Condition: the ways lie in memory.
-/
import Derived.Test.YtfcifheejjppfaaDoorAd
namespace Go.Proofs.YtfcifheejjppfaaDoor
open Go.RowKit

/-- own cells that are stored into -/
structure Wbs (W w : World) (g : Nat) (cs : List Value) : Prop where
  bx : Bxs W w g cs
  free : ∀ j, w.frozen? ⟨g, j, none⟩ = false
theorem Wbs.more {W w : World} (h : Below W.heap.size W w) (cs : List Value) (t : TypeId) : Wbs W (w.alloc (.cells cs.toArray t)) w.heap.size cs :=
  ⟨Bxs.more h cs t, fun j => frozen_of_row _ _ j _ _ (heap_alloc_new w _)⟩
theorem Wbs.on {W w w' : World} {g : Nat} {cs : List Value} (h : Wbs W w g cs) (hb : Below w.heap.size w w') : Wbs W w' g cs :=
  ⟨h.bx.on hb, fun j => by rw [hb.frozen (p := ⟨g, j, none⟩) h.bx.lt]; exact h.free j⟩
theorem Wbs.put {W w : World} {g : Nat} {cs : List Value} (h : Wbs W w g cs) (i : Nat) (v : Value) : Wbs W (w.setCell ⟨g, i, none⟩ v) g (cs.set i v) := by
  have hlt := h.bx.lt
  refine ⟨⟨fun k u hk => ?_, h.bx.old.setCell h.bx.base _, h.bx.base, by simpa [World.setCell] using hlt⟩, fun j => by rw [World.frozen?_setCell]; exact h.free j⟩
  by_cases e : k = i
  · subst e
    by_cases hk2 : k < cs.length
    · rw [World.cell?_setCell_same _ _ _ (h.bx.c k _ (List.getElem?_eq_getElem hk2))]
      rw [List.getElem?_set_self hk2] at hk
      exact hk
    · rw [List.getElem?_eq_none (by simp; omega)] at hk
      cases hk
  · rw [World.cell?_setCell_other _ _ _ _ (fun q => e (by injection q with _ q; exact q.symm))]
    rw [List.getElem?_set_ne (fun q => e q.symm)] at hk
    exact h.bx.c k u hk
/-- a block beside it -/
theorem Bxs.beside {W w : World} {g b i : Nat} {cs : List Value} (h : Bxs W w b cs) (hne : b ≠ g) (hg : W.heap.size ≤ g) (v : Value) : Bxs W (w.setCell ⟨g, i, none⟩ v) b cs := by
  have hlt := h.lt
  refine ⟨fun k u hk => ?_, h.old.setCell hg _, h.base, by simpa [World.setCell] using hlt⟩
  rw [World.cell?_setCell_other _ _ _ _ (fun q => hne (by injection q with q; exact q.symm))]
  exact h.c k u hk
theorem IntsAt.beside {W w : World} {g i : Nat} {A : Option Addr} {l : List Int} (h : IntsAt w W.heap.size A l) (hg : W.heap.size ≤ g) (v : Value) : IntsAt (w.setCell ⟨g, i, none⟩ v) W.heap.size A l := fun h0 => by
  obtain ⟨b, o, e, hlt, hc⟩ := h h0
  refine ⟨b, o, e, hlt, fun j z hz => ?_⟩
  rw [World.cell?_setCell_other _ _ _ _ (fun q => by injection q with q; omega)]
  exact hc j z hz
theorem make_four (w : World) : (Instr.makeSlice 32 (.int .i64 4) (.int .i64 4)).run Tryd.prog w = .ok (.slice (some ⟨w.heap.size, 0, none⟩) 4 4) (w.alloc (.cells #[.int .u64 0, .int .u64 0, .int .u64 0, .int .u64 0] 27)) :=
  (make_words 4 (by decide) w).trans (by
    have e : madeCells #[.int .u64 0] 4 = #[.int .u64 0, .int .u64 0, .int .u64 0, .int .u64 0] := by kernel_rfl
    rw [e])
/-- what path's Word tells of a way that may have no steps -/
theorem bword_is {A : Option Addr} {n cap p : Nat} {l : List Int} {w : World} (hn : n = l.length) (hL : IntsAt w w.heap.size A l) (hp : bword l = p) :
    Calls Tryd.prog 23 #[.agg #[.slice A n cap]] w fun e w' => (∃ ok, e = .returned (.tuple #[.int .u64 (p : Int), .bool ok])) ∧ Below w.heap.size w w' := by
  subst hp
  unfold bword
  cases hg : pgood l
  · refine (pword_no hn hL hg).mono ?_
    rintro e w' ⟨rfl, hb⟩
    exact ⟨⟨_, rfl⟩, hb⟩
  · refine (word_is hn hL hg rfl).mono ?_
    rintro e w' ⟨rfl, hb⟩
    exact ⟨⟨_, rfl⟩, hb⟩
theorem or_eight {k x : Nat} (hk : k < 256) (hx : x < 65536) : bits .or .u64 (k : Int) (IntKind.u64.wrap ((x : Int) * 2 ^ 8)) = ((k + 256 * x : Nat) : Int) := by
  have e : (x : Int) * 2 ^ 8 = ((x * 256 : Nat) : Int) := by simp
  rw [e, u64_in (by omega) (by omega), bits_or_u64_nat k _ (by omega) (by omega)]
  congr 1
  have := Nat.two_pow_add_eq_or_of_lt (i := 8) (b := k) (by omega) x
  rw [Nat.or_comm, Nat.mul_comm x 256, show (256 : Nat) = 2 ^ 8 from rfl, ← this]
  omega
theorem or_twenty {k y : Nat} (hk : k < 16777216) (hy : y < 65536) : bits .or .u64 (k : Int) (IntKind.u64.wrap ((y : Int) * 2 ^ 24)) = ((k + 16777216 * y : Nat) : Int) := by
  have e : (y : Int) * 2 ^ 24 = ((y * 16777216 : Nat) : Int) := by simp
  rw [e, u64_in (by omega) (by omega), bits_or_u64_nat k _ (by omega) (by omega)]
  congr 1
  have := Nat.two_pow_add_eq_or_of_lt (i := 24) (b := k) (by omega) y
  rw [Nat.or_comm, Nat.mul_comm y 16777216, show (16777216 : Nat) = 2 ^ 24 from rfl, ← this]
  omega
theorem cwords_none {o : Int} {A : Option Addr} {na ca : Nat} {B : Option Addr} {m cb : Nat} {a l : List Int} {x y : Int} {z : Nat} {w : World} (hn : na = a.length) (hA : IntsAt w w.heap.size A a) (hm : m = l.length) (hB : IntsAt w w.heap.size B l) (hg : cgood ⟨o, a, l, x, y, z⟩ = false) :
    Calls Tryd.prog 10 #[.agg #[.int .i64 o, .slice A na ca, .slice B m cb, .int .i64 x, .int .i64 y, .int .u64 (z : Int)]] w fun e w' => e = .returned (.slice none 0 0) ∧ Below w.heap.size w w' := by
  have K2 := Bxs.new w [.int .i64 o, .slice A na ca, .slice B m cb, .int .i64 x, .int .i64 y, .int .u64 (z : Int)] 29
  have HB := Lib.hid K2.old
  have HI := Lib.hid (hA.on HB.out)
  have HJ := Lib.hid (hB.on HB.out)
  have HN := Lib.hid hn
  have HM := Lib.hid hm
  have HG := Lib.hid hg
  clear K2 hn hA hm hB hg
  go_enter Tryd.func10, Tryd.ntmps10
  go_wp2_with fail
  generalize w.alloc _ = w1 at HB HI HJ ⊢
  refine (cgood_at (w := w1) HN.out HI.out HM.out HJ.out HG.out).mono ?_
  rintro e w2 ⟨rfl, hb⟩
  replace HB := Lib.hid (below_on HB.out hb)
  clear hb
  go_wp2
  go_ret
  exact ⟨rfl, HB.out⟩
set_option maxHeartbeats 4000000 in
theorem cwords_some {k : Nat} {A : Option Addr} {na ca : Nat} {B : Option Addr} {m cb : Nat} {a l : List Int} {x y : Nat} {z pa pb q1 q2 : Nat} {w : World} (hn : na = a.length) (hA : IntsAt w w.heap.size A a) (hm : m = l.length) (hB : IntsAt w w.heap.size B l) (hg : cgood ⟨k, a, l, x, y, z⟩ = true)
    (hk : k < 256) (hx : x < 65536) (hy : y < 65536) (ha : bword a = pa) (hb : bword l = pb) (h1 : k + 256 * x = q1) (h2 : q1 + 16777216 * y = q2) :
    Calls Tryd.prog 10 #[.agg #[.int .i64 (k : Int), .slice A na ca, .slice B m cb, .int .i64 (x : Int), .int .i64 (y : Int), .int .u64 (z : Int)]] w fun e w' => ∃ g, e = .returned (.slice (some ⟨g, 0, none⟩) 4 4) ∧ Wbs w w' g [.int .u64 (q2 : Int), .int .u64 (pa : Int), .int .u64 (pb : Int), .int .u64 (z : Int)] := by
  have K2 := Bxs.new w [.int .i64 (k : Int), .slice A na ca, .slice B m cb, .int .i64 (x : Int), .int .i64 (y : Int), .int .u64 (z : Int)] 29
  have HI := Lib.hid hA
  have HJ := Lib.hid hB
  have H2 := Lib.hid K2
  have HN := Lib.hid hn
  have HM := Lib.hid hm
  have HG := Lib.hid hg
  have HPA := Lib.hid ha
  have HPB := Lib.hid hb
  have ek : IntKind.u64.wrap (k : Int) = k := u64_in (by omega) (by omega)
  have ex : IntKind.u64.wrap (x : Int) = x := u64_in (by omega) (by omega)
  have ey : IntKind.u64.wrap (y : Int) = y := u64_in (by omega) (by omega)
  have o1 : bits .or .u64 (k : Int) (IntKind.u64.wrap ((x : Int) * 256)) = (q1 : Int) := by have := or_eight hk hx; rw [h1] at this; exact this
  have o2 : bits .or .u64 (q1 : Int) (IntKind.u64.wrap ((y : Int) * 16777216)) = (q2 : Int) := by have := or_twenty (k := q1) (by omega) hy; rw [h2] at this; exact this
  have hmk := make_four
  clear K2 hn hA hm hB hg ha hb h1 h2 hk hx hy
  go_enter Tryd.func10, Tryd.ntmps10
  go_wp2_with fail
  obtain ⟨b, hbb⟩ : ∃ b, b = w.heap.size := ⟨_, rfl⟩
  rw [← hbb] at H2 ⊢
  have HBB := Lib.hid hbb
  clear hbb
  generalize w.alloc _ = w1 at H2 ⊢
  refine (cgood_at (w := w1) HN.out (HI.out.on H2.out.old) HM.out (HJ.out.on H2.out.old) HG.out).mono ?_
  rintro e w2 ⟨rfl, hb⟩
  replace H2 := Lib.hid (H2.out.on hb)
  clear hb
  go_upto_region 4 with fail
  have K4 := Wbs.more (W := w) (below_on H2.out.old (below_self w2)) [.int .u64 0, .int .u64 0, .int .u64 0, .int .u64 0] 27
  have hba := below_alloc w2 (.cells #[.int .u64 0, .int .u64 0, .int .u64 0, .int .u64 0] 27)
  have HGB : Hid (b ≠ w2.heap.size) := Lib.hid (by have := H2.out.lt; omega)
  replace H2 := Lib.hid (H2.out.on hba)
  have H4 := Lib.hid K4
  clear K4 hba hmk
  obtain ⟨g, hgg⟩ : ∃ g, g = w2.heap.size := ⟨_, rfl⟩
  rw [← hgg] at H4 HGB ⊢
  clear hgg
  generalize w2.alloc _ = w3 at H2 H4 ⊢
  have c0 := H2.out.c 0 _ rfl
  have c1 := H2.out.c 1 _ rfl
  have c2 := H2.out.c 2 _ rfl
  have c3 := H2.out.c 3 _ rfl
  have c4 := H2.out.c 4 _ rfl
  have c5 := H2.out.c 5 _ rfl
  have s0 := H4.out.bx.c 0 _ rfl
  have s1 := H4.out.bx.c 1 _ rfl
  have s2 := H4.out.bx.c 2 _ rfl
  have s3 := H4.out.bx.c 3 _ rfl
  have r0 := H4.out.free 0
  have r1 := H4.out.free 1
  have r2 := H4.out.free 2
  have r3 := H4.out.free 3
  go_upto_region 5 with fail
  clear c0 c1 c2 c3 c4 c5 s0 s1 s2 s3 r0 r1 r2 r3
  have hp := H4.out.put 0 (.int .u64 (q2 : Int))
  have hq := H2.out.beside (i := 0) HGB.out H4.out.bx.base (.int .u64 (q2 : Int))
  simp only [List.set_cons_zero] at hp
  generalize w3.setCell _ _ = w4 at hp hq ⊢
  replace H4 := Lib.hid hp
  replace H2 := Lib.hid hq
  clear hp hq
  have c0 := H2.out.c 0 _ rfl
  have c1 := H2.out.c 1 _ rfl
  have c2 := H2.out.c 2 _ rfl
  have c3 := H2.out.c 3 _ rfl
  have c4 := H2.out.c 4 _ rfl
  have c5 := H2.out.c 5 _ rfl
  have s0 := H4.out.bx.c 0 _ rfl
  have s1 := H4.out.bx.c 1 _ rfl
  have s2 := H4.out.bx.c 2 _ rfl
  have s3 := H4.out.bx.c 3 _ rfl
  have r0 := H4.out.free 0
  have r1 := H4.out.free 1
  have r2 := H4.out.free 2
  have r3 := H4.out.free 3
  go_wp2_with fail
  refine (bword_is (w := w4) HN.out (HI.out.on H4.out.bx.old) HPA.out).mono ?_
  rintro e w5 ⟨⟨ok, rfl⟩, hb⟩
  clear c0 c1 c2 c3 c4 c5 s0 s1 s2 s3 r0 r1 r2 r3
  replace H4 := Lib.hid (H4.out.on hb)
  replace H2 := Lib.hid (H2.out.on hb)
  clear hb
  have c0 := H2.out.c 0 _ rfl
  have c1 := H2.out.c 1 _ rfl
  have c2 := H2.out.c 2 _ rfl
  have c3 := H2.out.c 3 _ rfl
  have c4 := H2.out.c 4 _ rfl
  have c5 := H2.out.c 5 _ rfl
  have s0 := H4.out.bx.c 0 _ rfl
  have s1 := H4.out.bx.c 1 _ rfl
  have s2 := H4.out.bx.c 2 _ rfl
  have s3 := H4.out.bx.c 3 _ rfl
  have r0 := H4.out.free 0
  have r1 := H4.out.free 1
  have r2 := H4.out.free 2
  have r3 := H4.out.free 3
  go_upto_region 6 with fail
  clear c0 c1 c2 c3 c4 c5 s0 s1 s2 s3 r0 r1 r2 r3
  have hp := H4.out.put 1 (.int .u64 (pa : Int))
  have hq := H2.out.beside (i := 1) HGB.out H4.out.bx.base (.int .u64 (pa : Int))
  simp only [List.set_cons_zero, List.set_cons_succ] at hp
  generalize w5.setCell _ _ = w6 at hp hq ⊢
  replace H4 := Lib.hid hp
  replace H2 := Lib.hid hq
  clear hp hq
  have c0 := H2.out.c 0 _ rfl
  have c1 := H2.out.c 1 _ rfl
  have c2 := H2.out.c 2 _ rfl
  have c3 := H2.out.c 3 _ rfl
  have c4 := H2.out.c 4 _ rfl
  have c5 := H2.out.c 5 _ rfl
  have s0 := H4.out.bx.c 0 _ rfl
  have s1 := H4.out.bx.c 1 _ rfl
  have s2 := H4.out.bx.c 2 _ rfl
  have s3 := H4.out.bx.c 3 _ rfl
  have r0 := H4.out.free 0
  have r1 := H4.out.free 1
  have r2 := H4.out.free 2
  have r3 := H4.out.free 3
  go_wp2_with fail
  refine (bword_is (w := w6) HM.out (HJ.out.on H4.out.bx.old) HPB.out).mono ?_
  rintro e w7 ⟨⟨ok2, rfl⟩, hb⟩
  clear c0 c1 c2 c3 c4 c5 s0 s1 s2 s3 r0 r1 r2 r3
  replace H4 := Lib.hid (H4.out.on hb)
  replace H2 := Lib.hid (H2.out.on hb)
  clear hb
  have c0 := H2.out.c 0 _ rfl
  have c1 := H2.out.c 1 _ rfl
  have c2 := H2.out.c 2 _ rfl
  have c3 := H2.out.c 3 _ rfl
  have c4 := H2.out.c 4 _ rfl
  have c5 := H2.out.c 5 _ rfl
  have s0 := H4.out.bx.c 0 _ rfl
  have s1 := H4.out.bx.c 1 _ rfl
  have s2 := H4.out.bx.c 2 _ rfl
  have s3 := H4.out.bx.c 3 _ rfl
  have r0 := H4.out.free 0
  have r1 := H4.out.free 1
  have r2 := H4.out.free 2
  have r3 := H4.out.free 3
  go_upto_region 7 with fail
  clear c0 c1 c2 c3 c4 c5 s0 s1 s2 s3 r0 r1 r2 r3
  have hp := H4.out.put 2 (.int .u64 (pb : Int))
  have hq := H2.out.beside (i := 2) HGB.out H4.out.bx.base (.int .u64 (pb : Int))
  simp only [List.set_cons_zero, List.set_cons_succ] at hp
  generalize w7.setCell _ _ = w8 at hp hq ⊢
  replace H4 := Lib.hid hp
  replace H2 := Lib.hid hq
  clear hp hq
  have c0 := H2.out.c 0 _ rfl
  have c1 := H2.out.c 1 _ rfl
  have c2 := H2.out.c 2 _ rfl
  have c3 := H2.out.c 3 _ rfl
  have c4 := H2.out.c 4 _ rfl
  have c5 := H2.out.c 5 _ rfl
  have s0 := H4.out.bx.c 0 _ rfl
  have s1 := H4.out.bx.c 1 _ rfl
  have s2 := H4.out.bx.c 2 _ rfl
  have s3 := H4.out.bx.c 3 _ rfl
  have r0 := H4.out.free 0
  have r1 := H4.out.free 1
  have r2 := H4.out.free 2
  have r3 := H4.out.free 3
  go_upto_region 8 with fail
  clear c0 c1 c2 c3 c4 c5 s0 s1 s2 s3 r0 r1 r2 r3
  have hp := H4.out.put 3 (.int .u64 (z : Int))
  have hq := H2.out.beside (i := 3) HGB.out H4.out.bx.base (.int .u64 (z : Int))
  simp only [List.set_cons_zero, List.set_cons_succ] at hp
  generalize w8.setCell _ _ = w9 at hp hq ⊢
  replace H4 := Lib.hid hp
  replace H2 := Lib.hid hq
  clear hp hq
  have c0 := H2.out.c 0 _ rfl
  have c1 := H2.out.c 1 _ rfl
  have c2 := H2.out.c 2 _ rfl
  have c3 := H2.out.c 3 _ rfl
  have c4 := H2.out.c 4 _ rfl
  have c5 := H2.out.c 5 _ rfl
  have s0 := H4.out.bx.c 0 _ rfl
  have s1 := H4.out.bx.c 1 _ rfl
  have s2 := H4.out.bx.c 2 _ rfl
  have s3 := H4.out.bx.c 3 _ rfl
  have r0 := H4.out.free 0
  have r1 := H4.out.free 1
  have r2 := H4.out.free 2
  have r3 := H4.out.free 3
  go_wp2
  go_ret
  exact ⟨g, rfl, H4.out⟩
theorem cells_words {W w : World} {g : Nat} {l : List Nat} (h : Wbs W w g (l.map fun (n : Nat) => Value.int .u64 (n : Int))) (cap : Nat) (hc : l.length ≤ cap) : Words w (.slice (some ⟨g, 0, none⟩) l.length cap) (l.map fun (n : Nat) => (n : Int)) := by
  refine ⟨some ⟨g, 0, none⟩, cap, by rw [List.length_map], by rw [List.length_map]; exact hc, fun _ => ⟨g, 0, rfl, h.bx.lt, fun j z hz => ?_⟩⟩
  rw [Nat.zero_add]
  rw [List.getElem?_map] at hz
  refine h.bx.c j _ ?_
  rw [List.getElem?_map]
  cases hq : l[j]? with
  | none => simp [hq] at hz
  | some n =>
    simp [hq] at hz
    subst hz
    rfl
/-- what Words answers -/
theorem cwords_any (c : Cl) {A B : Option Addr} {ca cb : Nat} {w : World} (hA : IntsAt w w.heap.size A c.a) (hB : IntsAt w w.heap.size B c.b) :
    Calls Tryd.prog 10 #[.agg #[.int .i64 c.op, .slice A c.a.length ca, .slice B c.b.length cb, .int .i64 c.x, .int .i64 c.y, .int .u64 (c.w : Int)]] w fun e w' => (∃ v, e = .returned v ∧ Words w' v ((cwords c).map fun (n : Nat) => (n : Int))) ∧ Below w.heap.size w w' := by
  cases hg : cgood c
  · have e : cwords c = [] := by simp [cwords, hg]
    rw [e]
    refine (cwords_none (a := c.a) (l := c.b) rfl hA rfl hB hg).mono ?_
    rintro e w' ⟨rfl, hb⟩
    exact ⟨⟨_, rfl, words_none w' 0⟩, hb⟩
  · obtain ⟨k, hk, h1, h2, -, ha, hf⟩ := cgood_some hg
    have F := fits_fit hf
    have hl := forms_le k (by omega)
    obtain ⟨o, a, b, x, y, z⟩ := c
    obtain ⟨X, rfl⟩ : ∃ X : Nat, x = X := ⟨x.toNat, by have := F.x; simp at this; omega⟩
    obtain ⟨Y, rfl⟩ : ∃ Y : Nat, y = Y := ⟨y.toNat, by have := F.y; simp at this; omega⟩
    obtain rfl : o = k := hk
    have e : cwords ⟨(k : Int), a, b, X, Y, z⟩ = [k + 256 * X + 16777216 * Y, bword a, bword b, z] := by rw [cwords, if_pos hg, show bword a = pword a from if_pos ha]; rfl
    rw [e]
    refine (cwords_some (A := A) (B := B) (ca := ca) (cb := cb) rfl hA rfl hB hg (by omega) (by have := F.x; simp at this; omega) (by have := F.y; simp at this; omega) rfl rfl rfl rfl).mono ?_
    rintro e w' ⟨g, rfl, hw⟩
    exact ⟨⟨_, rfl, cells_words (l := [k + 256 * X + 16777216 * Y, bword a, bword b, z]) hw 4 (by simp)⟩, hw.bx.old⟩
end Go.Proofs.YtfcifheejjppfaaDoor
