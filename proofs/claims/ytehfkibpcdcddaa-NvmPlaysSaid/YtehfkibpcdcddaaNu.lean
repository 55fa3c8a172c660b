/-
  The walk of the law NvmPlays: it answers true. Condition: the acts lie in memory.
-/
import Derived.Test.YtehfkibpcdcddaaNt
namespace Go.Proofs.Ytehfkibpcdcddaa
open Go.RowKit

/-- at the head of a round -/
def PlaysRel (W : World) (xb xr yb yr F n R : Nat) (k : Nat) (p : Value) (wr : World) : Prop :=
  ∃ (i : Nat) (m : Mm), k + i = n ∧ p = .int .i64 i ∧ QS W wr xb xr yb yr F m m ∧ Good m R i
/-- behind an act: both memories are alike -/
def PlaysMid (W : World) (xb xr yb yr F G : Nat) (a : Ac) (R : Nat) (c : Int) (s10 : Value) (wc : World) : Prop := s10 = .bool true ∧ ∃ m : Mm, PS W wc xb xr yb yr F G a m m ∧ Good m R c

theorem words_few {w : World} {b rb F : Nat} {m : Mm} (h : MAt w b rb F m) : m.words.length ≤ 1000000 := by
  have := wordsOf_length h.oks
  have h2 := h.few
  show (wordsOf m.rows).length ≤ _
  omega
theorem outs_few {w : World} {b rb F : Nat} {m : Mm} (h : MAt w b rb F m) : m.outs.length ≤ 1000000 := by
  have := outsOf_length m.rows m.rows.length
  have h2 := h.few
  show (outsOf m.rows m.rows.length).length ≤ _
  omega
theorem lies_low {w : World} {B B' : Nat} {v : Value} {k : IntKind} {l : List Int} (h : Lies w B v k l) (hB : B' ≤ B) : Lies w B' v k l := by
  obtain ⟨A, cap, e, hc⟩ := h
  refine ⟨A, cap, e, fun h0 => ?_⟩
  obtain ⟨g, o, e1, h1, h2, h3⟩ := hc h0
  exact ⟨g, o, e1, by omega, h2, h3⟩
section
variable {W w : World} {xb xr yb yr F R : Nat} {m : Mm} {c : Int} {v1 v2 : Value}
theorem Tells.below {w' : World} (h : Tells W xb xr yb yr F m w) (hb : Below w.heap.size w w') : Tells W xb xr yb yr F m w' := tells_of (h.1.below hb)
theorem t_17 (h : Tells W xb xr yb yr F m w) : Calls Try.prog 17 #[.pointer (some ⟨xb, 0, none⟩)] w fun e w' =>
    ∃ v, e = .returned v ∧ Tells W xb xr yb yr F m w' ∧ Lies w' 0 v .u64 m.words ∧ w'.cell? ⟨yb, 2, none⟩ = some (.int .i64 m.n) ∧ w'.cell? ⟨yb, 1, none⟩ = some (.bool m.off) :=
  (mwords_any xb xr F m w h.1.x).mono fun _ _ ⟨v, h1, h2, h3⟩ => ⟨v, h1, h.below h3, lies_low h2 (Nat.zero_le _), (h.below h3).2.1, (h.below h3).2.2⟩
theorem t_36 (h : Tells W xb xr yb yr F m w) (hv : Lies w 0 v1 .u64 m.words) : Calls Try.prog 36 #[.pointer (some ⟨yb, 0, none⟩)] w fun e w' =>
    ∃ v, e = .returned v ∧ Tells W xb xr yb yr F m w' ∧ Lies w' 0 v1 .u64 m.words ∧ Lies w' 0 v .u64 m.words ∧ w'.cell? ⟨yb, 2, none⟩ = some (.int .i64 m.n) ∧ w'.cell? ⟨yb, 1, none⟩ = some (.bool m.off) :=
  (rwords_any yb yr F m w h.1.y).mono fun _ _ ⟨v, h1, h2, h3⟩ => ⟨v, h1, h.below h3, hv.below h3, lies_low h2 (Nat.zero_le _), (h.below h3).2.1, (h.below h3).2.2⟩
theorem t_22 (h : Tells W xb xr yb yr F m w) (hv : Lies w 0 v1 .u64 m.words) (hv2 : Lies w 0 v2 .u64 m.words) : Calls Try.prog 22 #[v1, v2] w fun e w' =>
    e = .returned (.bool true) ∧ Tells W xb xr yb yr F m w' ∧ w'.cell? ⟨yb, 2, none⟩ = some (.int .i64 m.n) ∧ w'.cell? ⟨yb, 1, none⟩ = some (.bool m.off) :=
  (words_same 0 0 v1 v2 m.words w hv hv2 (words_few h.1.x)).mono fun _ _ ⟨h1, h3⟩ => ⟨h1, h.below h3, (h.below h3).2.1, (h.below h3).2.2⟩
theorem t_14 (h : Tells W xb xr yb yr F m w) : Calls Try.prog 14 #[.pointer (some ⟨xb, 0, none⟩)] w fun e w' =>
    ∃ v, e = .returned v ∧ Tells W xb xr yb yr F m w' ∧ Lies w' 0 v .i64 m.outs ∧ w'.cell? ⟨yb, 2, none⟩ = some (.int .i64 m.n) ∧ w'.cell? ⟨yb, 1, none⟩ = some (.bool m.off) :=
  (mout_any xb xr F m w h.1.x).mono fun _ _ ⟨v, h1, h2, h3⟩ => ⟨v, h1, h.below h3, lies_low h2 (Nat.zero_le _), (h.below h3).2.1, (h.below h3).2.2⟩
theorem t_37 (h : Tells W xb xr yb yr F m w) (hv : Lies w 0 v1 .i64 m.outs) : Calls Try.prog 37 #[.pointer (some ⟨yb, 0, none⟩)] w fun e w' =>
    ∃ v, e = .returned v ∧ Tells W xb xr yb yr F m w' ∧ Lies w' 0 v1 .i64 m.outs ∧ Lies w' 0 v .i64 m.outs ∧ w'.cell? ⟨yb, 2, none⟩ = some (.int .i64 m.n) ∧ w'.cell? ⟨yb, 1, none⟩ = some (.bool m.off) :=
  (rout_any yb yr F m w h.1.y).mono fun _ _ ⟨v, h1, h2, h3⟩ => ⟨v, h1, h.below h3, hv.below h3, lies_low h2 (Nat.zero_le _), (h.below h3).2.1, (h.below h3).2.2⟩
theorem t_21 (h : Tells W xb xr yb yr F m w) (hv : Lies w 0 v1 .i64 m.outs) (hv2 : Lies w 0 v2 .i64 m.outs) : Calls Try.prog 21 #[v1, v2] w fun e w' =>
    e = .returned (.bool true) ∧ Tells W xb xr yb yr F m w' ∧ w'.cell? ⟨yb, 2, none⟩ = some (.int .i64 m.n) ∧ w'.cell? ⟨yb, 1, none⟩ = some (.bool m.off) :=
  (ints_same 0 0 v1 v2 m.outs w hv hv2 (outs_few h.1.x)).mono fun _ _ ⟨h1, h3⟩ => ⟨h1, h.below h3, (h.below h3).2.1, (h.below h3).2.2⟩
theorem t_24 (h : Tells W xb xr yb yr F m w) : Calls Try.prog 24 #[.pointer (some ⟨xb, 0, none⟩)] w fun e w' =>
    e = .returned (.int .i64 m.n) ∧ Tells W xb xr yb yr F m w' ∧ w'.cell? ⟨yb, 2, none⟩ = some (.int .i64 m.n) ∧ w'.cell? ⟨yb, 1, none⟩ = some (.bool m.off) :=
  (mcount_any xb xr F m w h.1.x).mono fun _ _ ⟨h1, h3⟩ => ⟨h1, h3 ▸ h, h3 ▸ h.2.1, h3 ▸ h.2.2⟩
theorem t_16 (h : Tells W xb xr yb yr F m w) : Calls Try.prog 16 #[.pointer (some ⟨xb, 0, none⟩)] w fun e w' =>
    e = .returned (.bool m.off) ∧ Tells W xb xr yb yr F m w' ∧ w'.cell? ⟨yb, 2, none⟩ = some (.int .i64 m.n) ∧ w'.cell? ⟨yb, 1, none⟩ = some (.bool m.off) :=
  (moff_any xb xr F m w h.1.x).mono fun _ _ ⟨h1, h3⟩ => ⟨h1, h3 ▸ h, h3 ▸ h.2.1, h3 ▸ h.2.2⟩
theorem t_23 (h : Tells W xb xr yb yr F m w) (hg : Good m R c) : Calls Try.prog 23 #[.pointer (some ⟨xb, 0, none⟩)] w fun e w' =>
    e = .returned (.int .i64 R) ∧ Tells W xb xr yb yr F m w' ∧ w'.cell? ⟨yb, 2, none⟩ = some (.int .i64 m.n) ∧ w'.cell? ⟨yb, 1, none⟩ = some (.bool m.off) := by
  refine (mrows_any xb xr F m w h.1.x).mono fun _ _ ⟨h1, h3⟩ => ⟨?_, h3 ▸ h, h3 ▸ h.2.1, h3 ▸ h.2.2⟩
  rw [h1, hg.len]
end

set_option maxRecDepth 100000 in
set_option maxHeartbeats 8000000 in
theorem plays_in (R : Nat) (A : Option Addr) (cap : Nat) (l : List Ac) (w : World) (hR1 : 1 ≤ R) (hR2 : R ≤ 20) (hl : l.length ≤ 80) (hL : ActsAt w w.heap.size A l) :
    Calls Try.prog 4 #[.int .i64 R, .slice A l.length cap] w fun e w' => e = .returned (.bool true) ∧ Below w.heap.size w w' := by
  have LL := Lib.hid hL
  obtain ⟨n, hn⟩ : ∃ m, m = l.length := ⟨_, rfl⟩
  rw [← hn] at hl ⊢
  have HN := Lib.hid hn
  have HR1 := Lib.hid hR1
  have HR2 := Lib.hid hR2
  have HNL := Lib.hid hl
  clear hn hL
  have hl1 : decide ((20 : Int) < (R : Int)) = false := by simp; omega
  have hl2 : decide ((80 : Int) < (n : Int)) = false := by simp; omega
  go_enter Try.func4, Try.ntmps4
  go_wp2_with fail
  refine (awake_any _).mono ?_
  rintro e w0 ⟨rfl, hb⟩
  have B0 := Lib.hid hb
  clear hb
  go_wp2_with fail
  refine (new_any R HR1.out (by have := HR2.out; omega) w0).mono ?_
  rintro e x0 ⟨rfl, hm, hs, hb⟩
  have HX := Lib.hid hm
  have HXS := Lib.hid hs
  have B1 := Lib.hid (B0.out.trans (hb.mono B0.out.size))
  have S0 := Lib.hid B0.out.size
  clear hm hs hb B0
  go_wp2_with fail
  refine (rnew_any R HR1.out (by have := HR2.out; omega) x0).mono ?_
  rintro e x1 ⟨rfl, hm, hs, hb⟩
  have HQ : Hid (QS w x1 (w0.heap.size + 1) w0.heap.size (x0.heap.size + 1) x0.heap.size (x0.heap.size + 2) (fresh R) (fresh R)) := Lib.hid (by
    have h1 := HX.out.below hb
    have hxs := HXS.out
    have s0 := S0.out
    obtain ⟨v, h4, _⟩ := h1.c4
    have h2 : MAt x1 (w0.heap.size + 1) w0.heap.size (x0.heap.size + 2) (fresh R) :=
      ⟨h1.rows, h1.pos, h1.few, h1.c0, h1.c1, h1.c2, h1.c3, ⟨v, h4, fun h0 => absurd h0 (by simp [fresh])⟩, h1.free, h1.ne, by omega, by omega, by omega, h1.calls0⟩
    exact ⟨h2, hm, by omega, by omega, by omega, by omega, by omega, by omega, by omega, by omega, B1.out.trans (hb.mono B1.out.size)⟩)
  clear hm hs hb HX HXS B1 S0
  obtain ⟨xb, hxb⟩ : ∃ b, b = w0.heap.size + 1 := ⟨_, rfl⟩
  obtain ⟨xr, hxr⟩ : ∃ b, b = w0.heap.size := ⟨_, rfl⟩
  obtain ⟨yb, hyb⟩ : ∃ b, b = x0.heap.size + 1 := ⟨_, rfl⟩
  obtain ⟨F, hF⟩ : ∃ b, b = x0.heap.size + 2 := ⟨_, rfl⟩
  obtain ⟨yr, hyr⟩ : ∃ b, b = x0.heap.size := ⟨_, rfl⟩
  rw [← hxb, ← hxr, ← hyb, ← hF, ← hyr] at HQ
  rw [← hxb, ← hyb]
  clear hxb hxr hyb hF hyr
  go_wp2_with fail
  go_loopg [8] n (fun k p wr => PlaysRel w xb xr yb yr F n R k p wr)
  case atStart => exact ⟨0, fresh R, by omega, rfl, HQ.out, ⟨by simp [fresh], by simp [fresh], by simp [fresh]⟩⟩
  case round =>
    obtain ⟨i, m, hk, rfl, hq, hg⟩ := hrel
    have HK := Lib.hid hk
    have HQ2 := Lib.hid hq
    have HG := Lib.hid hg
    clear hk hq hg HQ
    by_cases hlt : i < n
    · have HLT := Lib.hid hlt
      have hlt2 : (i : Int) < (n : Int) := by omega
      obtain ⟨b, o, rfl, hbl, hcs⟩ := LL.out (by rw [← HN.out]; omega)
      obtain ⟨a, ha⟩ : ∃ a, l[i]? = some a := ⟨l[i]'(by rw [← HN.out]; exact hlt), List.getElem?_eq_getElem _⟩
      obtain ⟨g0, g1, g2, g3, g4, g5, g6⟩ := hcs i a ha
      have c0 : wr.cell? ⟨b, o + i * 5, none⟩ = some (.int .i64 a.op) := by rw [← g0]; exact HQ2.out.old.cell hbl
      have c1 : wr.cell? ⟨b, o + i * 5 + 1, none⟩ = some (.int .i64 a.at_) := by rw [← g1]; exact HQ2.out.old.cell hbl
      have c2 : wr.cell? ⟨b, o + i * 5 + 2, none⟩ = some (.int .u64 a.old) := by rw [← g2]; exact HQ2.out.old.cell hbl
      have c3 : wr.cell? ⟨b, o + i * 5 + 3, none⟩ = some (.int .u64 a.v) := by rw [← g3]; exact HQ2.out.old.cell hbl
      have c4 : wr.cell? ⟨b, o + i * 5 + 4, none⟩ = some (.slice a.A a.keep.length a.cap) := by rw [← g4]; exact HQ2.out.old.cell hbl
      have HAO := Lib.hid g5
      have HAK := Lib.hid g6
      obtain ⟨q, hq⟩ : ∃ q, q = a.keep.length := ⟨_, rfl⟩
      have HQL := Lib.hid hq
      have hqm : q ≤ 9223372036854775807 := by have := g5.2.1; unfold maxLen at this; omega
      rw [← hq] at c4
      have hps : PS w (wr.alloc (.cells #[.int .i64 a.op, .int .i64 a.at_, .int .u64 a.old, .int .u64 a.v, .slice a.A q a.cap] 49)) xb xr yb yr F wr.heap.size a m m := by
        have e := heap_alloc_new wr (.cells #[.int .i64 a.op, .int .i64 a.at_, .int .u64 a.old, .int .u64 a.v, .slice a.A q a.cap] 49)
        exact ⟨HQ2.out.below ((Below.refl _ _).alloc (Nat.le_refl _) _), ⟨cell_of_row _ _ 0 _ _ _ e, cell_of_row _ _ 1 _ _ _ e, cell_of_row _ _ 2 _ _ _ e, cell_of_row _ _ 3 _ _ _ e, by rw [cell_of_row _ _ 4 _ _ _ e, ← hq]; rfl⟩, HQ2.out.x.sz⟩
      have HPS := Lib.hid hps
      clear g0 g1 g2 g3 g4 g5 g6 hcs ha hbl hps hq
      go_upto_region 15 with fail
      clear c0 c1 c2 c3 c4
      obtain ⟨G, hG⟩ : ∃ G, G = wr.heap.size := ⟨_, rfl⟩
      rw [← hG] at HPS ⊢
      generalize hw1 : wr.alloc (.cells #[.int .i64 a.op, .int .i64 a.at_, .int .u64 a.old, .int .u64 a.v, .slice a.A q a.cap] 49) = w1 at HPS ⊢
      clear hG hw1 HQ2
      have k4 := HPS.out.g.kp
      rw [← HQL.out] at k4
      by_cases hq40 : 40 < q
      · have hq41 : (40 : Int) < (q : Int) := by omega
        go_wp2
        go_ret
        exact ⟨rfl, HPS.out.q.old⟩
      · have hq41 : decide ((40 : Int) < (q : Int)) = false := by simp; omega
        have HKL : Hid (a.keep.length ≤ 1000000) := Lib.hid (by rw [← HQL.out]; omega)
        have HC : Hid ((i : Int) ≤ 100) := Lib.hid (by have := HLT.out; have := HNL.out; omega)
        have k0 := HPS.out.g.op
        go_upto_block 2 with fail
        clear k0 k4
        go_cut [10, 11, 12, 13, 14] from 49 to 235 (fun s10 s11 s12 s13 s14 wc => PlaysMid w xb xr yb yr F G a R (i + 1) s10 wc)
        case first =>
          have k1 := HPS.out.g.pl
          have k2 := HPS.out.g.od
          have k3 := HPS.out.g.wd
          have k4 := HPS.out.g.kp
          have hop : ((a.op : Int) == 0) = true ∨ (((a.op : Int) == 0) = false ∧ (((a.op : Int) == 1) = true ∨ (((a.op : Int) == 1) = false ∧ (((a.op : Int) == 2) = true ∨ (((a.op : Int) == 2) = false ∧ (((a.op : Int) == 3) = true ∨ (((a.op : Int) == 3) = false ∧
              (((a.op : Int) == 4) = true ∨ (((a.op : Int) == 4) = false ∧ (((a.op : Int) == 5) = true ∨ (((a.op : Int) == 5) = false ∧ (((a.op : Int) == 6) = true ∨ ((a.op : Int) == 6) = false)))))))))))) := by
            cases ((a.op : Int) == 0) <;> cases ((a.op : Int) == 1) <;> cases ((a.op : Int) == 2) <;> cases ((a.op : Int) == 3) <;> cases ((a.op : Int) == 4) <;> cases ((a.op : Int) == 5) <;> cases ((a.op : Int) == 6) <;> simp
          rcases hop with o0 | ⟨o0, o1 | ⟨o1, o2 | ⟨o2, o3 | ⟨o3, o4 | ⟨o4, o5 | ⟨o5, o6 | o6⟩⟩⟩⟩⟩⟩
          · as_aux_lemma =>
            go_wp2_with fail
            have HD := Lib.hid (HPS.out.drewN 1)
            clear k2 k4
            go_region_held3 (fun w' => w'.cell? ⟨G, 1, none⟩ = some (.int .i64 a.at_) ∧ w'.cell? ⟨G, 3, none⟩ = some (.int .u64 a.v))
              (first | exact ⟨by assumption, by assumption⟩)
              (first
                | (go_at_call 12; ((with_reducible refine (x_store (w := w1.drew) HD.out HG.out HC.out a.at_ a.v).mono ?_); rintro e w' ⟨rfl, hp, z1, z2⟩))
                | (go_at_call 26; ((with_reducible refine (y_store hp HG.out HC.out a.at_ a.v).mono ?_); rintro e w' ⟨rfl, hp2, z1, z2⟩)))
            have HP := Lib.hid hp2
            clear hp hp2
            go_wp2
            go_meet
            exact ⟨by simp, _, HP.out, HG.out.store _ _⟩
          · as_aux_lemma =>
            go_wp2_with (first
              | (go_at_call 11; refine (x_swap HPS.out HG.out HC.out a.at_ a.old a.v).mono ?_; rintro e w' ⟨rfl, hp⟩; clear k1 k2 k3 k4; have k1 := hp.g.pl; have k2 := hp.g.od; have k3 := hp.g.wd; have HP := Lib.hid hp; clear hp)
              | (go_at_call 27; refine (y_swap HP.out HG.out HC.out a.at_ a.old a.v).mono ?_; rintro e w2 ⟨rfl, hp⟩; have HP2 := Lib.hid hp; clear hp))
            go_meet
            exact ⟨by simp, _, HP2.out, HG.out.swap _ _ _⟩
          · as_aux_lemma =>
            go_wp2_with fail
            have HD := Lib.hid (HPS.out.drewN 1)
            clear k2 k3 k4
            go_region_held3 (fun w' => w'.cell? ⟨G, 1, none⟩ = some (.int .i64 a.at_))
              (first | assumption)
              (first
                | (go_at_call 13; ((with_reducible refine (x_flush (w := w1.drew) HD.out HG.out HC.out a.at_).mono ?_); rintro e w' ⟨rfl, hp, z1⟩))
                | (go_at_call 28; ((with_reducible refine (y_flush hp HG.out HC.out a.at_).mono ?_); rintro e w' ⟨rfl, hp2, z1⟩)))
            have HP := Lib.hid hp2
            clear hp hp2
            go_wp2
            go_meet
            exact ⟨by simp, _, HP.out, HG.out.flush _⟩
          · as_aux_lemma =>
            go_wp2_with (first
              | (go_at_call 29; refine (x_fence HPS.out HG.out HC.out).mono ?_; rintro e w' ⟨rfl, hp⟩; have HP := Lib.hid hp; clear hp)
              | (go_at_call 30; refine (y_fence HP.out HG.out HC.out).mono ?_; rintro e w2 ⟨rfl, hp⟩; have HP2 := Lib.hid hp; clear hp))
            go_meet
            exact ⟨by simp, _, HP2.out, HG.out.fence⟩
          · as_aux_lemma =>
            go_wp2_with fail
            have HD := Lib.hid (HPS.out.drewN 1)
            clear k2 k3 k4
            go_region_held3 (fun w' => w'.cell? ⟨G, 1, none⟩ = some (.int .i64 a.at_))
              (first | assumption)
              (first
                | (go_at_call 31; ((with_reducible refine (x_evict (w := w1.drew) HD.out a.at_).mono ?_); rintro e w' ⟨rfl, hp, z1⟩))
                | (go_at_call 32; ((with_reducible refine (y_evict hp a.at_).mono ?_); rintro e w' ⟨rfl, hp2, z1⟩)))
            have HP := Lib.hid hp2
            clear hp hp2
            go_wp2
            go_meet
            exact ⟨by simp, _, HP.out, HG.out.evict _⟩
          · as_aux_lemma =>
            go_wp2_with (first
              | (go_at_call 19; refine (x_crash HPS.out HKL.out HAK.out).mono ?_; rintro e w' ⟨rfl, hp⟩; clear k1 k2 k3 k4; have k4 := hp.g.kp; have HP := Lib.hid hp; clear hp)
              | (go_at_call 33; refine (y_crash HP.out HKL.out HAK.out).mono ?_; rintro e w2 ⟨rfl, hp⟩; have HP2 := Lib.hid hp; clear hp))
            go_meet
            exact ⟨rfl, _, HP2.out, HG.out.crash _⟩
          · as_aux_lemma =>
            go_wp2_with fail
            refine (x_on HPS.out).mono ?_
            rintro e w' ⟨rfl, hp⟩
            have r1 := hp.q.y.c1
            have rf := hp.q.y.free 1 (by omega)
            have HP := Lib.hid (y_on hp)
            clear hp
            go_wp2
            go_meet
            exact ⟨rfl, _, HP.out, HG.out.on⟩
          · as_aux_lemma =>
            go_wp2_with (first
              | (go_at_call 15; refine (x_fuse HPS.out HAO.out HKL.out HAK.out).mono ?_; rintro e w' ⟨rfl, hp⟩; clear k1 k2 k3 k4; have k1 := hp.g.pl; have k4 := hp.g.kp; have HP := Lib.hid hp; clear hp)
              | (go_at_call 34; refine (y_fuse HP.out HAO.out HKL.out HAK.out).mono ?_; rintro e w2 ⟨rfl, hp⟩; have HP2 := Lib.hid hp; clear hp))
            go_meet
            exact ⟨rfl, _, HP2.out, HG.out.light _ _⟩
        case rest =>
          as_aux_lemma =>
            obtain ⟨rfl, m', hp, hg⟩ := hcut
            clear HPS HG HC
            have HPS := Lib.hid hp
            have HG := Lib.hid hg
            have k1 := hp.g.pl
            obtain ⟨lv, hlv⟩ : ∃ lv, m'.load a.at_ = lv := ⟨_, rfl⟩
            obtain ⟨v1, v2⟩ := lv
            have HLD := Lib.hid hlv
            clear hp hg hlv
            go_wp2_with (first
              | (go_at_call 20; refine (mload_any xb xr F m' a.at_ _ HPS.out.q.x).mono ?_; rw [HLD.out]; rintro e w' ⟨rfl, rfl⟩)
              | (go_at_call 35; refine (rload_any yb yr F m' a.at_ _ HPS.out.q.y).mono ?_; rw [HLD.out]; rintro e w' ⟨rfl, rfl⟩))
            have HT : Hid (Tells w xb xr yb yr F m' wc.drew) := Lib.hid (tells_of (HPS.out.drewN 1).q)
            have r1 := HT.out.2.1
            have r2 := HT.out.2.2
            clear k1
            go_region_held3 (fun w' => w'.cell? ⟨yb, 2, none⟩ = some (.int .i64 m'.n) ∧ w'.cell? ⟨yb, 1, none⟩ = some (.bool m'.off))
              (first | exact ⟨by assumption, by assumption⟩)
              (first
                | (go_at_call 17; ((with_reducible refine (t_17 HT.out).mono ?_); rintro e w' ⟨u1, rfl, hT1, hV1, z1, z2⟩))
                | (go_at_call 36; ((with_reducible refine (t_36 hT1 hV1).mono ?_); rintro e w' ⟨u2, rfl, hT2, hV2, hV3, z1, z2⟩))
                | (go_at_call 22; ((with_reducible refine (t_22 hT2 hV2 hV3).mono ?_); rintro e w' ⟨rfl, hT3, z1, z2⟩))
                | (go_at_call 14; ((with_reducible refine (t_14 hT3).mono ?_); rintro e w' ⟨u3, rfl, hT4, hV4, z1, z2⟩))
                | (go_at_call 37; ((with_reducible refine (t_37 hT4 hV4).mono ?_); rintro e w' ⟨u4, rfl, hT5, hV5, hV6, z1, z2⟩))
                | (go_at_call 21; ((with_reducible refine (t_21 hT5 hV5 hV6).mono ?_); rintro e w' ⟨rfl, hT6, z1, z2⟩))
                | (go_at_call 24; ((with_reducible refine (t_24 hT6).mono ?_); rintro e w' ⟨rfl, hT7, z1, z2⟩))
                | (go_at_call 16; ((with_reducible refine (t_16 hT7).mono ?_); rintro e w' ⟨rfl, hT8, z1, z2⟩))
                | (go_at_call 23; ((with_reducible refine (t_23 hT8 HG.out).mono ?_); rintro e w' ⟨rfl, hT9, z1, z2⟩)))
            have HT9 := Lib.hid hT9
            clear hT1 hT2 hT3 hT4 hT5 hT6 hT7 hT8 hT9 hV1 hV2 hV3 hV4 hV5 hV6
            go_wp2
            go_roundg (n - (i + 1))
            case measure => have := HK.out; have := HLT.out; omega
            case rel => exact ⟨i + 1, m', by have := HLT.out; omega, by go_num, HT9.out.1, ⟨HG.out.n0, by have := HG.out.nc; omega, HG.out.len⟩⟩
    · go_wp2
      go_ret
      exact ⟨rfl, HQ2.out.old⟩
set_option maxRecDepth 100000 in
set_option maxHeartbeats 2000000 in
theorem plays_out (R : Int) (A : Option Addr) (cap n : Nat) (w : World) (hn : n ≤ maxLen) (h : 20 < R ∨ (R ≤ 20 ∧ 80 < n) ∨ (R ≤ 20 ∧ n ≤ 80 ∧ R < 1)) :
    Calls Try.prog 4 #[.int .i64 R, .slice A n cap] w fun e w' => e = .returned (.bool true) ∧ Below w.heap.size w w' := by
  unfold maxLen at hn
  rcases h with h | ⟨h1, h2⟩ | ⟨h1, h2, h3⟩
  · go_enter Try.func4, Try.ntmps4
    go_wp2_with (go_at_call 8; refine (awake_any _).mono ?_; rintro e w' ⟨rfl, hb⟩; have HB := Lib.hid hb; clear hb)
    go_ret
    exact ⟨rfl, HB.out⟩
  · have g1 : decide ((20 : Int) < R) = false := by simp; omega
    have g2 : (80 : Int) < (n : Int) := by omega
    go_enter Try.func4, Try.ntmps4
    go_wp2_with (go_at_call 8; refine (awake_any _).mono ?_; rintro e w' ⟨rfl, hb⟩; have HB := Lib.hid hb; clear hb)
    go_ret
    exact ⟨rfl, HB.out⟩
  · have g1 : decide ((20 : Int) < R) = false := by simp; omega
    have g2 : decide ((80 : Int) < (n : Int)) = false := by simp; omega
    have H3 := Lib.hid h3
    clear h1 h2 h3
    go_enter Try.func4, Try.ntmps4
    go_wp2_with (first
      | (go_at_call 8; refine (awake_any _).mono ?_; rintro e w' ⟨rfl, hb⟩; have HB := Lib.hid hb; clear hb)
      | (go_at_call 9; refine (new_no R (.inl H3.out) _).mono ?_; rintro e w2 ⟨rfl, rfl⟩)
      | (go_at_call 25; refine (rnew_no R (.inl H3.out) _).mono ?_; rintro e w2 ⟨rfl, rfl⟩))
    go_ret
    exact ⟨rfl, HB.out⟩

/-- NvmPlays. -/
theorem plays_walk (R : Int) (A : Option Addr) (cap : Nat) (l : List Ac) (w : World) (hl : l.length ≤ maxLen) (hL : ActsAt w w.heap.size A l) :
    Calls Try.prog 4 #[.int .i64 R, .slice A l.length cap] w fun e w' => e = .returned (.bool true) ∧ Below w.heap.size w w' := by
  by_cases h1 : 20 < R
  · exact plays_out R A cap _ w hl (.inl h1)
  by_cases h2 : 80 < l.length
  · exact plays_out R A cap _ w hl (.inr (.inl ⟨by omega, h2⟩))
  by_cases h3 : R < 1
  · exact plays_out R A cap _ w hl (.inr (.inr ⟨by omega, by omega, h3⟩))
  · obtain ⟨n, rfl⟩ := Int.eq_ofNat_of_zero_le (show 0 ≤ R by omega)
    exact plays_in n A cap l w (by omega) (by omega) (by omega) hL
end Go.Proofs.Ytehfkibpcdcddaa
