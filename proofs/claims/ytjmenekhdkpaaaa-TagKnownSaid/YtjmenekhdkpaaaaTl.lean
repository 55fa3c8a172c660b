/-
  The walk of the law TagKnown: it answers true. No condition.
-/
import Derived.Test.YtjmenekhdkpaaaaTj
namespace Go.Proofs.Ytjmenekhdkpaaaa
open Go.RowKit

def bads : List (List Fd) := [[⟨-1, 1⟩], [⟨64, 1⟩], [⟨0, 0⟩], [⟨1, 64⟩], [⟨0, 4⟩, ⟨3, 1⟩]]
theorem bads_no : ∀ l ∈ bads, good l = false := by
  intro l hl
  simp only [bads, List.mem_cons, List.not_mem_nil, or_false] at hl
  rcases hl with rfl | rfl | rfl | rfl | rfl <;> rfl
theorem bads_len : ∀ l ∈ bads, l.length ≤ 2 := by
  intro l hl
  simp only [bads, List.mem_cons, List.not_mem_nil, or_false] at hl
  rcases hl with rfl | rfl | rfl | rfl | rfl <;> decide


/-- the lists lie, and their list in block B -/
def Bads (w : World) (B : Nat) : Prop := B < w.heap.size ∧ ∀ (i : Nat) (l : List Fd), bads[i]? = some l → ∃ A cap, w.cell? ⟨B, i, none⟩ = some (.slice A l.length cap) ∧ FdsAt w w.heap.size A l
theorem Bads.below {w w' : World} {B : Nat} (h : Bads w B) (hb : Below w.heap.size w w') : Bads w' B :=
  ⟨Nat.lt_of_lt_of_le h.1 hb.size, fun i l hl => by
    obtain ⟨A, cap, h1, h2⟩ := h.2 i l hl
    exact ⟨A, cap, by rw [hb.cell (p := ⟨B, _, none⟩) h.1]; exact h1, h2.grow hb⟩⟩

def bw1 (w : World) : World := w.alloc (.cells #[.int .i64 (-1), .int .i64 1] 24)
def bw2 (w : World) : World := (bw1 w).alloc (.cells #[.int .i64 64, .int .i64 1] 24)
def bw3 (w : World) : World := (bw2 w).alloc (.cells #[.int .i64 0, .int .i64 0] 24)
def bw4 (w : World) : World := (bw3 w).alloc (.cells #[.int .i64 1, .int .i64 64] 24)
def bw5 (w : World) : World := (bw4 w).alloc (.cells #[.int .i64 0, .int .i64 4, .int .i64 3, .int .i64 1] 24)
def bcells (n : Nat) : Array Value := #[.slice (some ⟨n, 0, none⟩) 1 1, .slice (some ⟨n + 1, 0, none⟩) 1 1, .slice (some ⟨n + 2, 0, none⟩) 1 1, .slice (some ⟨n + 3, 0, none⟩) 1 1, .slice (some ⟨n + 4, 0, none⟩) 2 2]
def bw6 (w : World) : World := (bw5 w).alloc (.cells (bcells w.heap.size) 25)

theorem bads_laid (w : World) : Bads (bw6 w) (w.heap.size + 5) ∧ Below w.heap.size w (bw6 w) := by
  have s1 : (bw1 w).heap.size = w.heap.size + 1 := by unfold bw1; simp
  have s2 : (bw2 w).heap.size = w.heap.size + 2 := by unfold bw2; simp [s1]
  have s3 : (bw3 w).heap.size = w.heap.size + 3 := by unfold bw3; simp [s2]
  have s4 : (bw4 w).heap.size = w.heap.size + 4 := by unfold bw4; simp [s3]
  have s5 : (bw5 w).heap.size = w.heap.size + 5 := by unfold bw5; simp [s4]
  have s6 : (bw6 w).heap.size = w.heap.size + 6 := by unfold bw6; simp [s5]
  have f1 : FdsAt (bw1 w) (bw1 w).heap.size (some ⟨w.heap.size, 0, none⟩) [⟨-1, 1⟩] := lit_fds' w [⟨-1, 1⟩] 24 _ rfl
  have f2 : FdsAt (bw2 w) (bw2 w).heap.size (some ⟨(bw1 w).heap.size, 0, none⟩) [⟨64, 1⟩] := lit_fds' (bw1 w) [⟨64, 1⟩] 24 _ rfl
  have f3 : FdsAt (bw3 w) (bw3 w).heap.size (some ⟨(bw2 w).heap.size, 0, none⟩) [⟨0, 0⟩] := lit_fds' (bw2 w) [⟨0, 0⟩] 24 _ rfl
  have f4 : FdsAt (bw4 w) (bw4 w).heap.size (some ⟨(bw3 w).heap.size, 0, none⟩) [⟨1, 64⟩] := lit_fds' (bw3 w) [⟨1, 64⟩] 24 _ rfl
  have f5 : FdsAt (bw5 w) (bw5 w).heap.size (some ⟨(bw4 w).heap.size, 0, none⟩) [⟨0, 4⟩, ⟨3, 1⟩] := lit_fds' (bw4 w) [⟨0, 4⟩, ⟨3, 1⟩] 24 _ rfl
  have b2 : Below (bw1 w).heap.size (bw1 w) (bw2 w) := below_alloc _ _
  have b3 : Below (bw2 w).heap.size (bw2 w) (bw3 w) := below_alloc _ _
  have b4 : Below (bw3 w).heap.size (bw3 w) (bw4 w) := below_alloc _ _
  have b5 : Below (bw4 w).heap.size (bw4 w) (bw5 w) := below_alloc _ _
  have b6 : Below (bw5 w).heap.size (bw5 w) (bw6 w) := below_alloc _ _
  have b1 : Below w.heap.size w (bw1 w) := below_alloc _ _
  have g1 := ((((f1.grow b2).grow b3).grow b4).grow b5).grow b6
  have g2 := (((f2.grow b3).grow b4).grow b5).grow b6
  have g3 := ((f3.grow b4).grow b5).grow b6
  have g4 := (f4.grow b5).grow b6
  have g5 := f5.grow b6
  rw [s1] at g2
  rw [s2] at g3
  rw [s3] at g4
  rw [s4] at g5
  have hg : (bw6 w).heap[w.heap.size + 5]? = some (.cells (bcells w.heap.size) 25) := by
    have := heap_alloc_new (bw5 w) (.cells (bcells w.heap.size) 25)
    rw [s5] at this
    exact this
  refine ⟨⟨by omega, fun i l hl => ?_⟩, below_on (below_on (below_on (below_on (below_on b1 b2) b3) b4) b5) b6⟩
  rw [cell_of_row _ _ i _ _ _ hg]
  match i, hl with
  | 0, hl => injection hl with hl; subst hl; exact ⟨_, _, rfl, g1⟩
  | 1, hl => injection hl with hl; subst hl; exact ⟨_, _, rfl, g2⟩
  | 2, hl => injection hl with hl; subst hl; exact ⟨_, _, rfl, g3⟩
  | 3, hl => injection hl with hl; subst hl; exact ⟨_, _, rfl, g4⟩
  | 4, hl => injection hl with hl; subst hl; exact ⟨_, _, rfl, g5⟩
  | i + 5, hl => exact absurd hl (by simp [bads])

def KnownRel (W : World) (B : Nat) (k : Nat) (q : Value) (wr : World) : Prop := ∃ i : Nat, k + i = 5 ∧ q = .int .i64 i ∧ Bads wr B ∧ Below W.heap.size W wr

theorem next_no {v z : Nat} (hv : v ≤ top) (hz : ¬ z ≤ 281474976710655) (w : World) :
    Calls Try.prog 14 #[.int .u64 (v : Int), .int .u64 (z : Int)] w fun e w' => e = .returned (.tuple #[.int .u64 0, .bool false]) ∧ w = w' := by
  have := next_any v z hv w
  rw [mk_no (fun q => hz q.1)] at this
  exact this

set_option maxRecDepth 100000 in
set_option maxHeartbeats 4000000 in
theorem known_walk (w : World) : Calls Try.prog 3 #[] w fun e w' => e = .returned (.bool true) ∧ Below w.heap.size w w' := by
  go_enter Try.func3, Try.ntmps3
  go_wp2_with fail
  refine (awake_any _).mono ?_
  rintro e w1 ⟨rfl, hb⟩
  have HB := Lib.hid hb
  clear hb
  have H6 := Lib.hid (bads_laid w1)
  go_wp2_with fail
  go_loopg [2] 5 (fun k q wr => KnownRel w (w1.heap.size + 5) k q wr)
  case atStart => exact ⟨0, by omega, rfl, H6.out.1, below_on HB.out H6.out.2⟩
  case round =>
    obtain ⟨i, hk, rfl, hbd, hb⟩ := hrel
    have HK := Lib.hid hk
    have HBD := Lib.hid hbd
    have HBB := Lib.hid hb
    clear hk hbd hb HB H6
    by_cases hlt : i < 5
    · have HLT := Lib.hid hlt
      have hlt2 : (i : Int) < 5 := by omega
      obtain ⟨l, hl⟩ : ∃ l, bads[i]? = some l := ⟨bads[i]'hlt, List.getElem?_eq_getElem _⟩
      have hmem : l ∈ bads := List.mem_of_getElem? hl
      have hgd := bads_no l hmem
      have hln := bads_len l hmem
      obtain ⟨q, hq⟩ : ∃ q, q = l.length := ⟨_, rfl⟩
      have HG := Lib.hid hgd
      have HL := Lib.hid hl
      have HQ := Lib.hid hq
      have HQL : Hid (q ≤ 1000000) := Lib.hid (by omega)
      have HP : Hid (put l [0, 0] = none) := Lib.hid (by unfold put; rw [if_neg (fun h => by rw [hgd] at h; cases h.1)])
      have HGT : Hid (gotten 7 l = []) := Lib.hid (by unfold gotten; rw [if_neg (fun h => by rw [hgd] at h; cases h)])
      have HRS : Hid (rest 7 l = 7) := Lib.hid (by unfold rest; rw [if_neg (fun h => by rw [hgd] at h; cases h)])
      have HZW : Hid (∀ u : World, WordsAt (u.alloc (.cells #[.int .u64 0, .int .u64 0] 27)) (u.alloc (.cells #[.int .u64 0, .int .u64 0] 27)).heap.size (some ⟨u.heap.size, 0, none⟩) [0, 0]) := Lib.hid fun u => lit_words' u [0, 0] 27 _ rfl
      have HZT : Hid (∀ z ∈ [0, 0], z ≤ top) := Lib.hid (by decide)
      have HT7 : Hid (7 ≤ top) := Lib.hid (by decide)
      obtain ⟨A, cap, c1, hf⟩ := HBD.out.2 i l hl
      rw [← hq] at c1
      have F1 := Lib.hid hf
      clear hl hmem hgd hln hq hf
      go_wp2_with fail
      refine (put_off (v := [0, 0]) HQ.out rfl HQL.out (by decide) (F1.out.grow (below_alloc _ _)) (HZW.out wr) HZT.out HP.out).mono ?_
      rintro e w2 ⟨rfl, hb⟩
      have HB2 := Lib.hid (below_on (below_on HBB.out (below_alloc _ _)) hb)
      have HD2 := Lib.hid ((HBD.out.below (below_alloc _ _)).below hb)
      clear hb c1
      obtain ⟨A, cap, c1, hf⟩ := HD2.out.2 i l HL.out
      rw [← HQ.out] at c1
      have F2 := Lib.hid hf
      clear hf
      go_wp2_with fail
      refine (good_no HQ.out HQL.out F2.out HG.out).mono ?_
      rintro e w3 ⟨rfl, hb⟩
      have HB3 := Lib.hid (below_on HB2.out hb)
      have HD3 := Lib.hid (HD2.out.below hb)
      clear hb c1
      obtain ⟨A, cap, c1, hf⟩ := HD3.out.2 i l HL.out
      rw [← HQ.out] at c1
      have F3 := Lib.hid hf
      clear hf
      go_wp2_with fail
      refine (get_at (z := 7) HT7.out HQ.out HQL.out F3.out HGT.out).mono ?_
      rintro e w4 ⟨v4, rfl, hv, hb⟩
      obtain ⟨A4, cap4, rfl, _⟩ := words_len hv
      have HB4 := Lib.hid (below_on HB3.out hb)
      have HD4 := Lib.hid (HD3.out.below hb)
      clear hb c1
      obtain ⟨A, cap, c1, hf⟩ := HD4.out.2 i l HL.out
      rw [← HQ.out] at c1
      have F4 := Lib.hid hf
      clear hf
      go_wp2_with fail
      refine (rest_at (z := 7) HT7.out HQ.out HQL.out F4.out HRS.out).mono ?_
      rintro e w5 ⟨rfl, hb⟩
      have HB5 := Lib.hid (below_on HB4.out hb)
      have HD5 := Lib.hid (HD4.out.below hb)
      clear hb c1
      go_wp2_with fail
      go_roundg (5 - (i + 1))
      case measure => have := HK.out; have := HLT.out; omega
      case rel => exact ⟨i + 1, by have := HLT.out; omega, by go_num, HD5.out, HB5.out⟩
    · have HF : Hid (∀ u : World, FdsAt (u.alloc (.cells #[.int .i64 0, .int .i64 64] 24)) (u.alloc (.cells #[.int .i64 0, .int .i64 64] 24)).heap.size (some ⟨u.heap.size, 0, none⟩) [⟨0, 64⟩]) := Lib.hid fun u => lit_fds' u [⟨0, 64⟩] 24 _ rfl
      have hlt2 : ¬ (i : Int) < 5 := by omega
      have HT : Hid (∀ u : World, WordsAt (u.alloc (.cells #[.int .u64 18446744073709551615] 27)) (u.alloc (.cells #[.int .u64 18446744073709551615] 27)).heap.size (some ⟨u.heap.size, 0, none⟩) [18446744073709551615]) := Lib.hid fun u => lit_words' u [18446744073709551615] 27 _ rfl
      have HF4 : Hid (∀ u : World, FdsAt (u.alloc (.cells #[.int .i64 0, .int .i64 4] 24)) (u.alloc (.cells #[.int .i64 0, .int .i64 4] 24)).heap.size (some ⟨u.heap.size, 0, none⟩) [⟨0, 4⟩]) := Lib.hid fun u => lit_fds' u [⟨0, 4⟩] 24 _ rfl
      have H16 : Hid (∀ u : World, WordsAt (u.alloc (.cells #[.int .u64 16] 27)) (u.alloc (.cells #[.int .u64 16] 27)).heap.size (some ⟨u.heap.size, 0, none⟩) [16]) := Lib.hid fun u => lit_words' u [16] 27 _ rfl
      have H12 : Hid (∀ u : World, WordsAt (u.alloc (.cells #[.int .u64 1, .int .u64 2] 27)) (u.alloc (.cells #[.int .u64 1, .int .u64 2] 27)).heap.size (some ⟨u.heap.size, 0, none⟩) [1, 2]) := Lib.hid fun u => lit_words' u [1, 2] 27 _ rfl
      have A1 := Lib.hid ((HF.out wr).grow (below_alloc (wr.alloc (.cells #[.int .i64 0, .int .i64 64] 24)) (.cells #[.int .u64 18446744073709551615] 27)))
      have W1 := Lib.hid (HT.out (wr.alloc (.cells #[.int .i64 0, .int .i64 64] 24)))
      rw [show (wr.alloc (.cells #[.int .i64 0, .int .i64 64] 24)).heap.size = wr.heap.size + 1 by simp] at W1
      have HB1 := Lib.hid (below_on (below_on HBB.out (below_alloc wr (.cells #[.int .i64 0, .int .i64 64] 24))) (below_alloc _ (.cells #[.int .u64 18446744073709551615] 27)))
      go_wp2_with fail
      refine (put_at (l := [⟨0, 64⟩]) (v := [18446744073709551615]) (r := 18446744073709551615) rfl rfl (by decide) (by decide) A1.out W1.out (by decide) (by kernel_rfl)).mono ?_
      rintro e w2 ⟨rfl, hb⟩
      have A2 := Lib.hid (A1.out.grow hb)
      have HB2 := Lib.hid (below_on HB1.out hb)
      clear hb
      have B1 := Lib.hid ((HF4.out w2).grow (below_alloc (w2.alloc (.cells #[.int .i64 0, .int .i64 4] 24)) (.cells #[.int .u64 16] 27)))
      have W2 := Lib.hid (H16.out (w2.alloc (.cells #[.int .i64 0, .int .i64 4] 24)))
      rw [show (w2.alloc (.cells #[.int .i64 0, .int .i64 4] 24)).heap.size = w2.heap.size + 1 by simp] at W2
      have bb : Below w2.heap.size w2 ((w2.alloc (.cells #[.int .i64 0, .int .i64 4] 24)).alloc (.cells #[.int .u64 16] 27)) := below_on (below_alloc w2 _) (below_alloc _ _)
      have A2' := Lib.hid (A2.out.grow bb)
      have HB2' := Lib.hid (below_on HB2.out bb)
      clear bb
      go_wp2_with fail
      refine (put_off (l := [⟨0, 4⟩]) (v := [16]) rfl rfl (by decide) (by decide) B1.out W2.out (by decide) (by kernel_rfl)).mono ?_
      rintro e w3 ⟨rfl, hb⟩
      have A3 := Lib.hid (A2'.out.grow hb)
      have HB3 := Lib.hid (below_on HB2'.out hb)
      clear hb
      go_wp2_with fail
      refine (put_off (l := [⟨0, 64⟩]) (v := [1, 2]) rfl rfl (by decide) (by decide) (A3.out.grow (below_alloc _ _)) (H12.out w3) (by decide) (by kernel_rfl)).mono ?_
      rintro e w4 ⟨rfl, hb⟩
      have A4 := Lib.hid ((A3.out.grow (below_alloc _ _)).grow hb)
      have HB4 := Lib.hid (below_on (below_on HB3.out (below_alloc _ _)) hb)
      clear hb
      go_wp2_with fail
      refine (put_at (l := []) (v := []) (r := 0) rfl rfl (by decide) (by decide) (fun h => absurd h (by decide)) (fun h => absurd h (by decide)) (by decide) (by kernel_rfl)).mono ?_
      rintro e w5 ⟨rfl, hb⟩
      have A5 := Lib.hid (A4.out.grow hb)
      have HB5 := Lib.hid (below_on HB4.out hb)
      clear hb
      go_wp2_with fail
      refine (make_yes (v := 7) (k := 65535) (by decide) (by decide) _).mono ?_
      rintro e w' ⟨rfl, rfl⟩
      go_wp2_with fail
      refine (next_yes (v := 65535 * 281474976710656 + 7) (q := 65535) (z := 8) (r := 8) (by decide) (by decide) (by decide) (by decide) _).mono ?_
      rintro e w' ⟨rfl, rfl⟩
      go_wp2_with fail
      refine (next_no (v := 65535 * 281474976710656 + 7) (z := 281474976710656) (by decide) (by decide) _).mono ?_
      rintro e w' ⟨rfl, rfl⟩
      go_wp2_with fail
      refine (make_no (v := 281474976710656) (k := 0) (by decide) _).mono ?_
      rintro e w' ⟨rfl, rfl⟩
      go_wp2_with fail
      refine (make_no (v := 0) (k := 65536) (by decide) _).mono ?_
      rintro e w' ⟨rfl, rfl⟩
      go_wp2_with fail
      refine (make_no (v := 0) (k := -1) (by decide) _).mono ?_
      rintro e w' ⟨rfl, rfl⟩
      go_wp2_with fail
      refine (good_yes (l := []) rfl (by decide) (fun h => absurd h (by decide)) rfl).mono ?_
      rintro e w6 ⟨rfl, hb⟩
      have A6 := Lib.hid (A5.out.grow hb)
      have HB6 := Lib.hid (below_on HB5.out hb)
      clear hb
      go_wp2_with fail
      refine (value_at (v := 65535 * 281474976710656 + 7) (z := 7) (by decide) (by decide) _).mono ?_
      rintro e w' ⟨rfl, rfl⟩
      go_wp2_with fail
      refine (version_any (65535 * 281474976710656 + 7) 65535 (by decide) (by decide) _).mono ?_
      rintro e w' ⟨rfl, rfl⟩
      go_wp2_with fail
      refine (value_at (v := 8) (z := 8) (by decide) (by decide) _).mono ?_
      rintro e w' ⟨rfl, rfl⟩
      go_wp2_with fail
      refine (version_any 8 0 (by decide) (by decide) _).mono ?_
      rintro e w' ⟨rfl, rfl⟩
      go_wp2_with fail
      refine (rest_at (z := 18446744073709551615) (r := 0) (l := [⟨0, 64⟩]) (by decide) rfl (by decide) A6.out (by kernel_rfl)).mono ?_
      rintro e w7 ⟨rfl, hb⟩
      have HB7 := Lib.hid (below_on HB6.out hb)
      clear hb
      go_wp2
      go_ret
      exact ⟨rfl, HB7.out⟩
end Go.Proofs.Ytjmenekhdkpaaaa
