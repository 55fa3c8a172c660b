/-
  The walk of the law NvmKnown: it answers true. No condition.
-/
import Derived.Test.YtehfkibpcdcddaaNl
namespace Go.Proofs.Ytehfkibpcdcddaa
open Go.RowKit

def eightW : List Int := [1, 2, 3, 4, 5, 6, 7, 8]
def t0 (k : Nat → Bool) : Mm := ⟨[settled eightW], false, 0, 0, k⟩
def t1 (k : Nat → Bool) : Mm := ((t0 k).swap 2 3 9).2
def t2 (k : Nat → Bool) : Mm := (t1 k).light 2 []
def t3 (k : Nat → Bool) : Mm := ((t2 k).store 0 7).2
def t4 (k : Nat → Bool) : Mm := ((t3 k).store 1 7).2
def t5 (k : Nat → Bool) : Mm := (t4 k).on
def t6 (k : Nat → Bool) : Mm := ((t5 k).store 0 4).2
def t7 (k : Nat → Bool) : Mm := (t6 k).crash [0]
def t8 (k : Nat → Bool) : Mm := (t7 k).on

/-- the memory, the lists that the law has kept so far, all that was there -/
structure KS (W w : World) (b rb F : Nat) (m : Mm) (a1 a2 : Bool) (v1 v2 : Value) : Prop where
  mem : MAt w b rb F m
  wb : W.heap.size ≤ b
  wr : W.heap.size ≤ rb
  old : Below W.heap.size W w
  l1 : a1 = true → Lies w F v1 .i64 [0]
  l2 : a2 = true → Lies w F v2 .u64 eightW
section
variable {W w w' : World} {b rb F : Nat} {m m' : Mm} {a1 a2 : Bool} {v1 v2 : Value}
theorem KS.own (h : KS W w b rb F m a1 a2 v1 v2) (hm : MAt w' b rb F m') (ho : Own b rb w w') : KS W w' b rb F m' a1 a2 v1 v2 :=
  ⟨hm, h.wb, h.wr, h.old.trans (ho.below h.wb h.wr h.old.size), fun e => (h.l1 e).own ho h.mem.bF h.mem.rF, fun e => (h.l2 e).own ho h.mem.bF h.mem.rF⟩
theorem KS.below (h : KS W w b rb F m a1 a2 v1 v2) (hb : Below w.heap.size w w') : KS W w' b rb F m a1 a2 v1 v2 :=
  ⟨h.mem.below hb, h.wb, h.wr, h.old.trans (hb.mono h.old.size), fun e => (h.l1 e).below hb, fun e => (h.l2 e).below hb⟩
end
theorem Lies.mono {w : World} {B B' : Nat} {v : Value} {k : IntKind} {l : List Int} (h : Lies w B v k l) (hB : B' ≤ B) : Lies w B' v k l := by
  obtain ⟨A, cap, e, hc⟩ := h
  refine ⟨A, cap, e, fun h0 => ?_⟩
  obtain ⟨g, o, e1, h1, h2, h3⟩ := hc h0
  exact ⟨g, o, e1, by omega, h2, h3⟩
theorem new_ints (w : World) (l : List Int) (t : TypeId) : IntsAt (w.alloc (.cells (l.map (Value.int .i64)).toArray t)) (w.heap.size + 1) (some ⟨w.heap.size, 0, none⟩) l := fun _ =>
  ⟨w.heap.size, 0, rfl, by omega, fun j z hz => by rw [Nat.zero_add, cell_of_row _ _ j _ _ _ (heap_alloc_new w _)]; simp [hz]⟩
theorem new_words (w : World) (l : List Int) (t : TypeId) : WordsAt (w.alloc (.cells (l.map (Value.int .u64)).toArray t)) (w.heap.size + 1) (some ⟨w.heap.size, 0, none⟩) l := fun _ =>
  ⟨w.heap.size, 0, rfl, by omega, fun j z hz => by rw [Nat.zero_add, cell_of_row _ _ j _ _ _ (heap_alloc_new w _)]; simp [hz]⟩
theorem lies_ints (w : World) (l : List Int) (t : TypeId) : Lies (w.alloc (.cells (l.map (Value.int .i64)).toArray t)) w.heap.size (.slice (some ⟨w.heap.size, 0, none⟩) l.length l.length) .i64 l :=
  ⟨_, _, rfl, fun _ => ⟨w.heap.size, 0, rfl, Nat.le_refl _, by simp, fun j z hz => by rw [Nat.zero_add, cell_of_row _ _ j _ _ _ (heap_alloc_new w _)]; simp [hz]⟩⟩
theorem lies_words (w : World) (l : List Int) (t : TypeId) : Lies (w.alloc (.cells (l.map (Value.int .u64)).toArray t)) w.heap.size (.slice (some ⟨w.heap.size, 0, none⟩) l.length l.length) .u64 l :=
  ⟨_, _, rfl, fun _ => ⟨w.heap.size, 0, rfl, Nat.le_refl _, by simp, fun j z hz => by rw [Nat.zero_add, cell_of_row _ _ j _ _ _ (heap_alloc_new w _)]; simp [hz]⟩⟩
theorem made_one {m : Mm} (h : Made eightW m) : ∃ k, m = t0 k := by
  obtain ⟨rows, off, n, calls, kept⟩ := m
  obtain ⟨h1, h2, h3, h4, h5, h6⟩ := h
  simp only at h2 h3 h4 h5 h6
  have hl : rows.length = 1 := by have : eightW.length = 8 := rfl; omega
  match rows, hl with
  | [r], _ =>
    have h7 := h2 0 r rfl
    have h8 : r.N = eightW := by
      have : wordsOf [r] = eightW := h1
      unfold wordsOf at this
      simpa using this
    rw [h8] at h7
    exact ⟨kept, by subst h3 h4 h5; rw [h7]; rfl⟩

theorem f_s0 (k : Nat → Bool) : (t0 k).n = 0 := rfl
theorem f_s1 (k : Nat → Bool) : ((t0 k).swap 2 4 9) = ((false, 0), t0 k) := by kernel_rfl
theorem f_s2 (k : Nat → Bool) : ((t0 k).swap 2 3 9) = ((true, 0), t1 k) := by kernel_rfl
theorem f_s3 (k : Nat → Bool) : ((t1 k).store 8 1) = (1, t1 k) := by kernel_rfl
theorem f_s4 (k : Nat → Bool) : ((t1 k).flush 1) = (1, t1 k) := by kernel_rfl
theorem f_s5 (k : Nat → Bool) : (t1 k).outs = [0] := by kernel_rfl
theorem f_s6 (k : Nat → Bool) : ((t2 k).store 0 7) = (0, t3 k) := by kernel_rfl
theorem f_s7 (k : Nat → Bool) : ((t3 k).store 1 7) = (12, t4 k) := by kernel_rfl
theorem f_s8 (k : Nat → Bool) : (t4 k).off = true := by kernel_rfl
theorem f_s9 (k : Nat → Bool) : (t4 k).words = eightW := by kernel_rfl
theorem f_s10 (k : Nat → Bool) : ((t4 k).store 0 1) = (12, t4 k) := by kernel_rfl
theorem f_s11 (k : Nat → Bool) : ((t5 k).store 0 4) = (0, t6 k) := by kernel_rfl
theorem f_s12 (k : Nat → Bool) : ((t8 k).load 0) = (4, 0) := by kernel_rfl
theorem f_s13 (k : Nat → Bool) : ((t8 k).rows.length) = 1 := by kernel_rfl
theorem f_s14 (k : Nat → Bool) : (t8 k).n = 3 := by kernel_rfl
theorem f_s15 (k : Nat → Bool) : (t1 k).n = 1 := by kernel_rfl
theorem f_s16 (k : Nat → Bool) : (t2 k).n = 1 := by kernel_rfl
theorem f_s17 (k : Nat → Bool) : (t3 k).n = 2 := by kernel_rfl
theorem f_s18 (k : Nat → Bool) : (t4 k).n = 2 := by kernel_rfl
theorem f_s19 (k : Nat → Bool) : (t5 k).n = 2 := by kernel_rfl

set_option maxRecDepth 100000 in
set_option maxHeartbeats 8000000 in
/-- NvmKnown. -/
theorem known_walk (w : World) :
    Calls Try.prog 3 #[] w fun e w' => e = .returned (.bool true) ∧ Below w.heap.size w w' := by
  go_enter Try.func3, Try.ntmps3
  go_wp2_with fail
  refine (awake_any _).mono ?_
  rintro e w0 ⟨rfl, hb⟩
  have B0 := Lib.hid hb
  clear hb
  go_wp2_with fail
  refine (new_no 0 (by omega) _).mono ?_
  rintro e w' ⟨rfl, rfl⟩
  go_wp2_with fail
  refine (new_no 4097 (by omega) _).mono ?_
  rintro e w' ⟨rfl, rfl⟩
  go_wp2_with fail
  refine (from_no _ _ 3 _ (by omega) (.inl (by decide))).mono ?_
  rintro e w' ⟨rfl, rfl⟩
  go_wp2_with fail
  refine (from_no none 0 0 _ (by omega) (.inr rfl)).mono ?_
  rintro e w' ⟨rfl, rfl⟩
  generalize hx : w0.alloc (.cells #[.int .u64 1, .int .u64 2, .int .u64 3] 28) = x0
  have B1 : Hid (Below w.heap.size w x0) := Lib.hid (by rw [← hx]; exact B0.out.alloc B0.out.size _)
  clear hx B0
  go_wp2_with fail
  refine (from_any _ _ eightW _ (by decide) (by decide) (by decide) ((new_words x0 eightW 28).mono (by simp))).mono ?_
  rintro e x1 ⟨m, rfl, hm, hmd, hb⟩
  obtain ⟨k, rfl⟩ := made_one hmd
  rw [World.size_alloc] at hm hb ⊢
  have S : Hid (KS w x1 (x0.heap.size + 1 + 1) (x0.heap.size + 1) (x0.heap.size + 1 + 2) (t0 k) false false (.slice none 0 0) (.slice none 0 0)) :=
    Lib.hid ⟨hm, by have := B1.out.size; omega, by have := B1.out.size; omega, (B1.out.alloc B1.out.size _).trans (hb.mono (by have := B1.out.size; omega)), fun e => (by cases e), fun e => (by cases e)⟩
  generalize x0.heap.size + 1 + 2 = F at S
  obtain ⟨b, hbb⟩ : ∃ b, b = x0.heap.size + 1 + 1 := ⟨_, rfl⟩
  obtain ⟨rb, hrb⟩ : ∃ rb, rb = x0.heap.size + 1 := ⟨_, rfl⟩
  rw [← hbb, ← hrb] at S
  rw [← hbb]
  clear hbb hrb hm hb hmd B1
  go_wp2_with fail
  refine (mswap_any b rb F (t0 k) 2 4 9 _ S.out.mem (by rw [f_s0]; decide) (by rw [f_s0]; decide)).mono ?_
  rw [f_s1]
  rintro e x ⟨rfl, hm, ho⟩
  replace S := Lib.hid (S.out.own hm ho)
  clear hm ho
  go_wp2_with fail
  refine (mswap_any b rb F (t0 k) 2 3 9 _ S.out.mem (by rw [f_s0]; decide) (by rw [f_s0]; decide)).mono ?_
  rw [f_s2]
  rintro e x ⟨rfl, hm, ho⟩
  replace S := Lib.hid (S.out.own hm ho)
  clear hm ho
  go_wp2_with fail
  refine (mstore_any b rb F (t1 k) 8 1 _ S.out.mem (by rw [f_s15]; decide) (by rw [f_s15]; decide)).mono ?_
  rw [f_s3]
  rintro e x ⟨rfl, hm, ho⟩
  replace S := Lib.hid (S.out.own hm ho)
  clear hm ho
  go_wp2_with fail
  refine (mflush_any b rb F (t1 k) 1 _ S.out.mem (by rw [f_s15]; decide) (by rw [f_s15]; decide)).mono ?_
  rw [f_s4]
  rintro e x ⟨rfl, hm, ho⟩
  replace S := Lib.hid (S.out.own hm ho)
  clear hm ho
  go_wp2_with fail
  refine (mout_any b rb F (t1 k) _ S.out.mem).mono ?_
  rw [f_s5]
  rintro e x2 ⟨v1, rfl, hv, hb⟩
  have S2 : Hid (KS w x2 b rb F (t1 k) true false v1 (.slice none 0 0)) := Lib.hid (by
    have h := S.out.below hb
    exact ⟨h.mem, h.wb, h.wr, h.old, fun _ => hv.mono S.out.mem.sz, h.l2⟩)
  clear S hv hb
  have S := S2
  clear S2
  go_wp2_with fail
  refine (mfuse_any b rb F 0 (t1 k) 2 none 0 [] _ S.out.mem (by decide) (by decide) (ints_none _ _) (Nat.zero_le _) (Nat.zero_le _)).mono ?_
  rintro e x3 ⟨rfl, hm, ho⟩
  replace S : Hid (KS w x3 b rb F (t2 k) true false v1 (.slice none 0 0)) := Lib.hid (S.out.own hm ho)
  clear hm ho
  go_wp2_with fail
  refine (mstore_any b rb F (t2 k) 0 7 _ S.out.mem (by rw [f_s16]; decide) (by rw [f_s16]; decide)).mono ?_
  rw [f_s6]
  rintro e x ⟨rfl, hm, ho⟩
  replace S := Lib.hid (S.out.own hm ho)
  clear hm ho
  go_wp2_with fail
  refine (mstore_any b rb F (t3 k) 1 7 _ S.out.mem (by rw [f_s17]; decide) (by rw [f_s17]; decide)).mono ?_
  rw [f_s7]
  rintro e x ⟨rfl, hm, ho⟩
  replace S := Lib.hid (S.out.own hm ho)
  clear hm ho
  go_wp2_with fail
  refine (moff_any b rb F (t4 k) _ S.out.mem).mono ?_
  rw [f_s8]
  rintro e w' ⟨rfl, rfl⟩
  go_wp2_with fail
  refine (mwords_any b rb F (t4 k) _ S.out.mem).mono ?_
  rw [f_s9]
  rintro e x4 ⟨v2, rfl, hv, hb⟩
  have S2 : Hid (KS w x4 b rb F (t4 k) true true v1 v2) := Lib.hid (by
    have h := S.out.below hb
    exact ⟨h.mem, h.wb, h.wr, h.old, h.l1, fun _ => hv.mono S.out.mem.sz⟩)
  clear S hv hb
  have S := S2
  clear S2
  go_wp2_with fail
  refine (mstore_any b rb F (t4 k) 0 1 _ S.out.mem (by rw [f_s18]; decide) (by rw [f_s18]; decide)).mono ?_
  rw [f_s10]
  rintro e x ⟨rfl, hm, ho⟩
  replace S := Lib.hid (S.out.own hm ho)
  clear hm ho
  go_wp2_with fail
  refine (mon_any b rb F (t4 k) _ S.out.mem).mono ?_
  skip
  rintro e x ⟨rfl, hm, ho⟩
  replace S : Hid (KS w x b rb F (t5 k) true true v1 v2) := Lib.hid (S.out.own hm ho)
  clear hm ho
  go_wp2_with fail
  refine (mstore_any b rb F (t5 k) 0 4 _ S.out.mem (by rw [f_s19]; decide) (by rw [f_s19]; decide)).mono ?_
  rw [f_s11]
  rintro e x ⟨rfl, hm, ho⟩
  replace S := Lib.hid (S.out.own hm ho)
  clear hm ho
  have hsa := Below.alloc (Below.refl x.heap.size x) (Nat.le_refl _) (.cells #[.int .i64 0] 3)
  have HN : Hid (IntsAt (x.alloc (.cells #[.int .i64 0] 3)) (x.alloc (.cells #[.int .i64 0] 3)).heap.size (some ⟨x.heap.size, 0, none⟩) [0]) := Lib.hid ((new_ints x [0] 3).mono (by simp))
  have S2 := Lib.hid (S.out.below hsa)
  clear S hsa
  go_wp2_with fail
  refine (mcrash_any b rb F (t6 k) _ 1 [0] _ S2.out.mem (by decide) HN.out).mono ?_
  rintro e x5 ⟨rfl, hm, ho⟩
  have S : Hid (KS w x5 b rb F (t7 k) true true v1 v2) := Lib.hid (S2.out.own hm ho)
  clear hm ho S2 HN
  go_wp2_with fail
  refine (mon_any b rb F (t7 k) _ S.out.mem).mono ?_
  skip
  rintro e x6 ⟨rfl, hm, ho⟩
  replace S : Hid (KS w x6 b rb F (t8 k) true true v1 v2) := Lib.hid (S.out.own hm ho)
  clear hm ho
  go_wp2_with fail
  refine (mload_any b rb F (t8 k) 0 _ S.out.mem).mono ?_
  rw [f_s12]
  rintro e w' ⟨rfl, rfl⟩
  go_wp2_with fail
  have S3 := Lib.hid (S.out.below (Below.alloc (Below.refl x6.heap.size x6) (Nat.le_refl _) (.cells #[.int .i64 0] 3)))
  refine (ints_same _ _ v1 _ [0] _ (S3.out.l1 rfl) (lies_ints x6 [0] 3) (by decide)).mono ?_
  rintro e x7 ⟨rfl, hb⟩
  have S4 := Lib.hid (S3.out.below hb)
  clear S S3 hb
  go_wp2_with fail
  have S5 := Lib.hid (S4.out.below (Below.alloc (Below.refl x7.heap.size x7) (Nat.le_refl _) (.cells #[.int .u64 1, .int .u64 2, .int .u64 3, .int .u64 4, .int .u64 5, .int .u64 6, .int .u64 7, .int .u64 8] 28)))
  refine (words_same _ _ v2 _ eightW _ (S5.out.l2 rfl) (lies_words x7 eightW 28) (by decide)).mono ?_
  rintro e x8 ⟨rfl, hb⟩
  have S6 := Lib.hid (S5.out.below hb)
  clear S4 S5 hb
  go_wp2_with fail
  refine (mrows_any b rb F (t8 k) _ S6.out.mem).mono ?_
  rw [f_s13]
  rintro e w' ⟨rfl, rfl⟩
  go_wp2_with fail
  refine (mcount_any b rb F (t8 k) _ S6.out.mem).mono ?_
  rw [f_s14]
  rintro e w' ⟨rfl, rfl⟩
  go_wp2
  go_ret
  exact ⟨rfl, S6.out.old⟩
end Go.Proofs.Ytehfkibpcdcddaa
