/-
  The law CallKnown. Condition: the library's table of tens is there.
-/
import Derived.Test.YtfcifheejjppfaaDoorAl
namespace Go.Proofs.YtfcifheejjppfaaDoor
open Go.RowKit

def bads : List Cl := [⟨0, [], [], 0, 0, 0⟩, ⟨14, [1], [], 0, 0, 0⟩, ⟨13, [], [], 0, 0, 0⟩, ⟨13, [1], [2, 3], 0, 0, 0⟩, ⟨13, [1], [], 1, 0, 0⟩, ⟨1, [1], [2, 3], 6, 0, 0⟩, ⟨1, [1], [2, 3], 1, 4097, 0⟩, ⟨1, [1], [], 1, 0, 0⟩, ⟨2, [1], [2, 3], 8, 0, 0⟩, ⟨2, [1], [2, 3], 0, 1, 0⟩, ⟨3, [1], [2, 3], 0, 0, 0⟩, ⟨3, [1], [2, 3], 0, 65536, 0⟩, ⟨4, [1], [], 0, 0, 0⟩, ⟨4, [1], [2, 3], 0, 0, 1⟩, ⟨7, [1], [16], 0, 0, 0⟩, ⟨8, [1], [], 0, 0, 1⟩, ⟨11, [1], [], 4, 0, 0⟩, ⟨12, [1], [], 0, 0, 1⟩, ⟨9, [1, 2, 3, 4], [], 0, 0, 0⟩]
theorem bads_len : bads.length = 19 := rfl
theorem bads_good : ∀ c ∈ bads, cgood c = false := by decide +kernel
theorem bads_text : ∀ c ∈ bads, bar (ctext c) = ⟨#[]⟩ := by decide +kernel
theorem bads_words : ∀ c ∈ bads, cwords c = [] := by decide +kernel
theorem bads_w : ∀ c ∈ bads, c.w < 18446744073709551616 := by decide +kernel
theorem kw : cwords ⟨3, [1], [2, 3], 5, 258, 0⟩ = [4328523011, 17, 802, 0] := by decide +kernel
theorem kt0 : bar (ctext ⟨1, [1], [2, 3], 2, 3, 0⟩) = ⟨#[109, 97, 107, 101, 32, 49, 32, 50, 46, 51, 32, 50, 32, 51]⟩ := by decide +kernel
theorem kt1 : bar (ctext ⟨7, [1], [], 0, 0, 18446744073709551615⟩) = ⟨#[115, 101, 110, 100, 32, 49, 32, 45, 32, 49, 56, 52, 52, 54, 55, 52, 52, 48, 55, 51, 55, 48, 57, 53, 53, 49, 54, 49, 53]⟩ := by decide +kernel
theorem kt2 : bar (ctext ⟨8, [1], [2, 3], 0, 0, 0⟩) = ⟨#[114, 101, 99, 118, 32, 49, 32, 50, 46, 51]⟩ := by decide +kernel
theorem kt3 : bar (ctext ⟨11, [2, 3], [], 3, 0, 7⟩) = ⟨#[119, 114, 105, 116, 101, 32, 50, 46, 51, 32, 51, 32, 55]⟩ := by decide +kernel
theorem kt4 : bar (ctext ⟨2, [1], [2, 3], 1, 0, 0⟩) = ⟨#[99, 111, 112, 121, 32, 49, 32, 50, 46, 51, 32, 49]⟩ := by decide +kernel
theorem kt5 : bar (ctext ⟨6, [2, 3], [], 0, 0, 0⟩) = ⟨#[114, 101, 118, 111, 107, 101, 32, 50, 46, 51]⟩ := by decide +kernel
theorem kg0 : (cget [13, 17, 0]).isSome = false := by decide +kernel
theorem kg1 : (cget [13, 17, 0, 1]).isSome = false := by decide +kernel
theorem kg2 : (cget [1099511627789, 17, 0, 0]).isSome = false := by decide +kernel
theorem kg3 : (cget [13, 16, 0, 0]).isSome = false := by decide +kernel
theorem nats_new (w : World) (l : List Nat) (n : Nat) (hl : l.length = n) (cs : Array Value) (hcs : cs = (l.map fun (n : Nat) => Value.int .u64 (n : Int)).toArray) : Words (w.alloc (.cells cs 27)) (.slice (some ⟨w.heap.size, 0, none⟩) n n) (l.map fun (n : Nat) => (n : Int)) := by
  subst hcs hl
  exact cells_words (W := w) (w := w.alloc (.cells (l.map fun (n : Nat) => Value.int .u64 (n : Int)).toArray 27)) (g := w.heap.size) (l := l) (Wbs.more (below_self w) _ _) l.length (Nat.le_refl _)
/-- the calls that may not be, one behind the other -/
structure Bad (w : World) (g : Nat) : Prop where
  lt : g < w.heap.size
  row : ∀ (i : Nat) (c : Cl), bads[i]? = some c → ∃ A ca B cb, w.cell? ⟨g, i * 6, none⟩ = some (.int .i64 c.op) ∧ w.cell? ⟨g, i * 6 + 1, none⟩ = some (.slice A c.a.length ca) ∧ w.cell? ⟨g, i * 6 + 2, none⟩ = some (.slice B c.b.length cb) ∧ w.cell? ⟨g, i * 6 + 3, none⟩ = some (.int .i64 c.x) ∧ w.cell? ⟨g, i * 6 + 4, none⟩ = some (.int .i64 c.y) ∧ w.cell? ⟨g, i * 6 + 5, none⟩ = some (.int .u64 (c.w : Int)) ∧ IntsAt w w.heap.size A c.a ∧ IntsAt w w.heap.size B c.b
theorem Bad.on {w w' : World} {g : Nat} (h : Bad w g) (hb : Below w.heap.size w w') : Bad w' g :=
  ⟨Nat.lt_of_lt_of_le h.lt hb.size, fun i c hc => by
    obtain ⟨A, ca, B, cb, h0, h1, h2, h3, h4, h5, h6, h7⟩ := h.row i c hc
    exact ⟨A, ca, B, cb, by rw [hb.cell (p := ⟨g, _, none⟩) h.lt]; exact h0, by rw [hb.cell (p := ⟨g, _, none⟩) h.lt]; exact h1, by rw [hb.cell (p := ⟨g, _, none⟩) h.lt]; exact h2, by rw [hb.cell (p := ⟨g, _, none⟩) h.lt]; exact h3, by rw [hb.cell (p := ⟨g, _, none⟩) h.lt]; exact h4, by rw [hb.cell (p := ⟨g, _, none⟩) h.lt]; exact h5, h6.on hb, h7.on hb⟩⟩
def badCells (A B X Y : Option Addr) : List Value := [.int .i64 0, .slice none 0 0, .slice none 0 0, .int .i64 0, .int .i64 0, .int .u64 0, .int .i64 14, .slice A 1 1, .slice none 0 0, .int .i64 0, .int .i64 0, .int .u64 0, .int .i64 13, .slice none 0 0, .slice none 0 0, .int .i64 0, .int .i64 0, .int .u64 0, .int .i64 13, .slice A 1 1, .slice B 2 2, .int .i64 0, .int .i64 0, .int .u64 0, .int .i64 13, .slice A 1 1, .slice none 0 0, .int .i64 1, .int .i64 0, .int .u64 0, .int .i64 1, .slice A 1 1, .slice B 2 2, .int .i64 6, .int .i64 0, .int .u64 0, .int .i64 1, .slice A 1 1, .slice B 2 2, .int .i64 1, .int .i64 4097, .int .u64 0, .int .i64 1, .slice A 1 1, .slice none 0 0, .int .i64 1, .int .i64 0, .int .u64 0, .int .i64 2, .slice A 1 1, .slice B 2 2, .int .i64 8, .int .i64 0, .int .u64 0, .int .i64 2, .slice A 1 1, .slice B 2 2, .int .i64 0, .int .i64 1, .int .u64 0, .int .i64 3, .slice A 1 1, .slice B 2 2, .int .i64 0, .int .i64 0, .int .u64 0, .int .i64 3, .slice A 1 1, .slice B 2 2, .int .i64 0, .int .i64 65536, .int .u64 0, .int .i64 4, .slice A 1 1, .slice none 0 0, .int .i64 0, .int .i64 0, .int .u64 0, .int .i64 4, .slice A 1 1, .slice B 2 2, .int .i64 0, .int .i64 0, .int .u64 1, .int .i64 7, .slice A 1 1, .slice X 1 1, .int .i64 0, .int .i64 0, .int .u64 0, .int .i64 8, .slice A 1 1, .slice none 0 0, .int .i64 0, .int .i64 0, .int .u64 1, .int .i64 11, .slice A 1 1, .slice none 0 0, .int .i64 4, .int .i64 0, .int .u64 0, .int .i64 12, .slice A 1 1, .slice none 0 0, .int .i64 0, .int .i64 0, .int .u64 1, .int .i64 9, .slice Y 4 4, .slice none 0 0, .int .i64 0, .int .i64 0, .int .u64 0]
theorem Bad.of {W w : World} {g : Nat} {A B X Y : Option Addr} (h : Bxs W w g (badCells A B X Y)) (hA : IntsAt w w.heap.size A [1]) (hB : IntsAt w w.heap.size B [2, 3]) (hX : IntsAt w w.heap.size X [16]) (hY : IntsAt w w.heap.size Y [1, 2, 3, 4]) : Bad w g := by
  refine ⟨h.lt, fun i c hc => ?_⟩
  have hn := ints_none w
  match i, hc with
  | 0, hc => cases hc; exact ⟨none, 0, none, 0, h.c 0 _ rfl, h.c 1 _ rfl, h.c 2 _ rfl, h.c 3 _ rfl, h.c 4 _ rfl, h.c 5 _ rfl, hn, hn⟩
  | 1, hc => cases hc; exact ⟨A, 1, none, 0, h.c 6 _ rfl, h.c 7 _ rfl, h.c 8 _ rfl, h.c 9 _ rfl, h.c 10 _ rfl, h.c 11 _ rfl, hA, hn⟩
  | 2, hc => cases hc; exact ⟨none, 0, none, 0, h.c 12 _ rfl, h.c 13 _ rfl, h.c 14 _ rfl, h.c 15 _ rfl, h.c 16 _ rfl, h.c 17 _ rfl, hn, hn⟩
  | 3, hc => cases hc; exact ⟨A, 1, B, 2, h.c 18 _ rfl, h.c 19 _ rfl, h.c 20 _ rfl, h.c 21 _ rfl, h.c 22 _ rfl, h.c 23 _ rfl, hA, hB⟩
  | 4, hc => cases hc; exact ⟨A, 1, none, 0, h.c 24 _ rfl, h.c 25 _ rfl, h.c 26 _ rfl, h.c 27 _ rfl, h.c 28 _ rfl, h.c 29 _ rfl, hA, hn⟩
  | 5, hc => cases hc; exact ⟨A, 1, B, 2, h.c 30 _ rfl, h.c 31 _ rfl, h.c 32 _ rfl, h.c 33 _ rfl, h.c 34 _ rfl, h.c 35 _ rfl, hA, hB⟩
  | 6, hc => cases hc; exact ⟨A, 1, B, 2, h.c 36 _ rfl, h.c 37 _ rfl, h.c 38 _ rfl, h.c 39 _ rfl, h.c 40 _ rfl, h.c 41 _ rfl, hA, hB⟩
  | 7, hc => cases hc; exact ⟨A, 1, none, 0, h.c 42 _ rfl, h.c 43 _ rfl, h.c 44 _ rfl, h.c 45 _ rfl, h.c 46 _ rfl, h.c 47 _ rfl, hA, hn⟩
  | 8, hc => cases hc; exact ⟨A, 1, B, 2, h.c 48 _ rfl, h.c 49 _ rfl, h.c 50 _ rfl, h.c 51 _ rfl, h.c 52 _ rfl, h.c 53 _ rfl, hA, hB⟩
  | 9, hc => cases hc; exact ⟨A, 1, B, 2, h.c 54 _ rfl, h.c 55 _ rfl, h.c 56 _ rfl, h.c 57 _ rfl, h.c 58 _ rfl, h.c 59 _ rfl, hA, hB⟩
  | 10, hc => cases hc; exact ⟨A, 1, B, 2, h.c 60 _ rfl, h.c 61 _ rfl, h.c 62 _ rfl, h.c 63 _ rfl, h.c 64 _ rfl, h.c 65 _ rfl, hA, hB⟩
  | 11, hc => cases hc; exact ⟨A, 1, B, 2, h.c 66 _ rfl, h.c 67 _ rfl, h.c 68 _ rfl, h.c 69 _ rfl, h.c 70 _ rfl, h.c 71 _ rfl, hA, hB⟩
  | 12, hc => cases hc; exact ⟨A, 1, none, 0, h.c 72 _ rfl, h.c 73 _ rfl, h.c 74 _ rfl, h.c 75 _ rfl, h.c 76 _ rfl, h.c 77 _ rfl, hA, hn⟩
  | 13, hc => cases hc; exact ⟨A, 1, B, 2, h.c 78 _ rfl, h.c 79 _ rfl, h.c 80 _ rfl, h.c 81 _ rfl, h.c 82 _ rfl, h.c 83 _ rfl, hA, hB⟩
  | 14, hc => cases hc; exact ⟨A, 1, X, 1, h.c 84 _ rfl, h.c 85 _ rfl, h.c 86 _ rfl, h.c 87 _ rfl, h.c 88 _ rfl, h.c 89 _ rfl, hA, hX⟩
  | 15, hc => cases hc; exact ⟨A, 1, none, 0, h.c 90 _ rfl, h.c 91 _ rfl, h.c 92 _ rfl, h.c 93 _ rfl, h.c 94 _ rfl, h.c 95 _ rfl, hA, hn⟩
  | 16, hc => cases hc; exact ⟨A, 1, none, 0, h.c 96 _ rfl, h.c 97 _ rfl, h.c 98 _ rfl, h.c 99 _ rfl, h.c 100 _ rfl, h.c 101 _ rfl, hA, hn⟩
  | 17, hc => cases hc; exact ⟨A, 1, none, 0, h.c 102 _ rfl, h.c 103 _ rfl, h.c 104 _ rfl, h.c 105 _ rfl, h.c 106 _ rfl, h.c 107 _ rfl, hA, hn⟩
  | 18, hc => cases hc; exact ⟨Y, 4, none, 0, h.c 108 _ rfl, h.c 109 _ rfl, h.c 110 _ rfl, h.c 111 _ rfl, h.c 112 _ rfl, h.c 113 _ rfl, hY, hn⟩
  | n + 19, hc => simp [bads] at hc
def BadRel (V : World) (k : Nat) (p : Value) (wr : World) : Prop := ∃ i : Nat, k + i = 19 ∧ p = .int .i64 i ∧ Below V.heap.size V wr
set_option maxHeartbeats 16000000 in
set_option maxRecDepth 100000 in
theorem known_walk {w : World} (hT : Tab w) : Calls Tryd.prog 3 #[] w fun e w' => e = .returned (.bool true) ∧ Below w.heap.size w w' := by
  have HT := Lib.hid hT
  clear hT
  go_enter Tryd.func3, Tryd.ntmps3
  go_wp2_with fail
  refine (awake_any HT.out).mono ?_
  rintro e w1 ⟨rfl, hb⟩
  have HB := Lib.hid hb
  clear hb
  have HI := Lib.hid (lit_ints w1 [1] 3 #[.int .i64 1] rfl)
  have hb := below_alloc w1 (.cells #[.int .i64 1] 3)
  replace HB := Lib.hid (below_on HB.out hb)
  clear hb
  go_wp2_with fail
  obtain ⟨A, hA⟩ : ∃ A, A = some (⟨w1.heap.size, 0, none⟩ : Addr) := ⟨_, rfl⟩
  rw [← hA] at HI ⊢
  clear hA
  generalize w1.alloc _ = w2 at HI HB ⊢
  refine (way_is A 1 1 w2).mono ?_
  rintro e w3 ⟨rfl, hb⟩
  replace HI := Lib.hid (HI.out.on hb)
  replace HB := Lib.hid (below_on HB.out hb)
  clear hb
  have HJ := Lib.hid (lit_ints w3 [2, 3] 3 #[.int .i64 2, .int .i64 3] rfl)
  have hb := below_alloc w3 (.cells #[.int .i64 2, .int .i64 3] 3)
  replace HI := Lib.hid (HI.out.on hb)
  replace HB := Lib.hid (below_on HB.out hb)
  clear hb
  go_wp2_with fail
  obtain ⟨B, hA⟩ : ∃ A, A = some (⟨w3.heap.size, 0, none⟩ : Addr) := ⟨_, rfl⟩
  rw [← hA] at HJ ⊢
  clear hA
  generalize w3.alloc _ = w4 at HI HJ HB ⊢
  refine (way_is B 2 2 w4).mono ?_
  rintro e w5 ⟨rfl, hb⟩
  replace HI := Lib.hid (HI.out.on hb)
  replace HJ := Lib.hid (HJ.out.on hb)
  replace HB := Lib.hid (below_on HB.out hb)
  clear hb
  have K1' := Bxs.more HB.out [.slice A 1 1] 25
  have K2' := Bxs.next w5 (.cells #[.slice A 1 1] 25) [.slice B 2 2] 25
  have K1 := Lib.hid (K1'.on (below_alloc _ (.cells #[.slice B 2 2] 25)))
  have K2 := Lib.hid K2'
  replace HI := Lib.hid (HI.out.on K2'.old)
  replace HJ := Lib.hid (HJ.out.on K2'.old)
  replace HB := Lib.hid (below_on HB.out K2'.old)
  clear K1' K2'
  go_upto_region 4 with fail
  obtain ⟨g, hg⟩ : ∃ g, g = w5.heap.size := ⟨_, rfl⟩
  rw [← hg] at K1 K2 ⊢
  clear hg
  obtain ⟨g2, hg⟩ : ∃ g2, g2 = g + 1 := ⟨_, rfl⟩
  rw [← hg] at K2 ⊢
  clear hg
  generalize (w5.alloc _).alloc _ = v at K1 K2 HI HJ HB ⊢
  have HALL : Hid (∀ w', Below v.heap.size v w' → w'.cell? ⟨g, 0, none⟩ = some (.slice A 1 1) ∧ w'.cell? ⟨g2, 0, none⟩ = some (.slice B 2 2) ∧ Below v.heap.size v w') := Lib.hid fun w' h => ⟨(K1.out.on h).c 0 _ rfl, (K2.out.on h).c 0 _ rfl, h⟩
  go_cut [3] from 20 to 67 (fun s3 wc => ∃ gb, s3 = .slice (some ⟨gb, 0, none⟩) 19 19 ∧ Bad wc gb ∧ Below v.heap.size v wc)
  case first =>
    refine wp_region_held_drew (S := (fun w' => w'.cell? ⟨g, 0, none⟩ = some (.slice A 1 1) ∧ w'.cell? ⟨g2, 0, none⟩ = some (.slice B 2 2) ∧ Below v.heap.size v w')) (by kernel_rfl) (HALL.out _ (below_self v).drew) (fun hHeld => ?_)
    refine wpAnyH_take (i := 0) (v := ?_) rfl (by kernel_rfl) (by kernel_rfl) (by kernel_rfl) (fun _ _ _ h => h) (Or.inl ⟨by rfl, ?_⟩) hHeld ?_
    rotate_left
    · intro w hSw; go_split_ands; go_simp; try with_reducible rfl
    simp only [Act.put, List.setIfInBounds_toArray, List.set_cons_zero, List.set_cons_succ, List.getElem_toArray, List.getElem_cons_zero]
    refine wpAnyH_take (i := 1) (v := ?_) rfl (by kernel_rfl) (by kernel_rfl) (by kernel_rfl) (fun _ _ _ h => h) (Or.inl ⟨by rfl, ?_⟩) hHeld ?_
    rotate_left
    · intro w hSw; go_split_ands; go_simp; try with_reducible rfl
    simp only [Act.put, List.setIfInBounds_toArray, List.set_cons_zero, List.set_cons_succ, List.getElem_toArray, List.getElem_cons_zero, List.getElem_cons_succ]
    refine wpAnyH_take (i := 2) (v := ?_) rfl (by kernel_rfl) (by kernel_rfl) (by kernel_rfl) (fun _ _ _ h => h) (Or.inl ⟨by rfl, ?_⟩) hHeld ?_
    rotate_left
    · intro w hSw; go_split_ands; go_simp; try with_reducible rfl
    simp only [Act.put, List.setIfInBounds_toArray, List.set_cons_zero, List.set_cons_succ, List.getElem_toArray, List.getElem_cons_zero, List.getElem_cons_succ]
    refine wpAnyH_take (i := 3) (v := ?_) rfl (by kernel_rfl) (by kernel_rfl) (by kernel_rfl) (fun _ _ _ h => h) (Or.inl ⟨by rfl, ?_⟩) hHeld ?_
    rotate_left
    · intro w hSw; go_split_ands; go_simp; try with_reducible rfl
    simp only [Act.put, List.setIfInBounds_toArray, List.set_cons_zero, List.set_cons_succ, List.getElem_toArray, List.getElem_cons_zero, List.getElem_cons_succ]
    refine wpAnyH_take (i := 4) (v := ?_) rfl (by kernel_rfl) (by kernel_rfl) (by kernel_rfl) (fun _ _ _ h => h) (Or.inl ⟨by rfl, ?_⟩) hHeld ?_
    rotate_left
    · intro w hSw; go_split_ands; go_simp; try with_reducible rfl
    simp only [Act.put, List.setIfInBounds_toArray, List.set_cons_zero, List.set_cons_succ, List.getElem_toArray, List.getElem_cons_zero, List.getElem_cons_succ]
    refine wpAnyH_take (i := 5) (v := ?_) rfl (by kernel_rfl) (by kernel_rfl) (by kernel_rfl) (fun _ _ _ h => h) (Or.inl ⟨by rfl, ?_⟩) hHeld ?_
    rotate_left
    · intro w hSw; go_split_ands; go_simp; try with_reducible rfl
    simp only [Act.put, List.setIfInBounds_toArray, List.set_cons_zero, List.set_cons_succ, List.getElem_toArray, List.getElem_cons_zero, List.getElem_cons_succ]
    refine wpAnyH_take (i := 6) (v := ?_) rfl (by kernel_rfl) (by kernel_rfl) (by kernel_rfl) (fun _ _ _ h => h) (Or.inl ⟨by rfl, ?_⟩) hHeld ?_
    rotate_left
    · intro w hSw; go_split_ands; go_simp; try with_reducible rfl
    simp only [Act.put, List.setIfInBounds_toArray, List.set_cons_zero, List.set_cons_succ, List.getElem_toArray, List.getElem_cons_zero, List.getElem_cons_succ]
    refine wpAnyH_take (i := 7) (v := ?_) rfl (by kernel_rfl) (by kernel_rfl) (by kernel_rfl) (fun _ _ _ h => h) (Or.inl ⟨by rfl, ?_⟩) hHeld ?_
    rotate_left
    · intro w hSw; go_split_ands; go_simp; try with_reducible rfl
    simp only [Act.put, List.setIfInBounds_toArray, List.set_cons_zero, List.set_cons_succ, List.getElem_toArray, List.getElem_cons_zero, List.getElem_cons_succ]
    refine wpAnyH_take (i := 8) (v := ?_) rfl (by kernel_rfl) (by kernel_rfl) (by kernel_rfl) (fun _ _ _ h => h) (Or.inl ⟨by rfl, ?_⟩) hHeld ?_
    rotate_left
    · intro w hSw; go_split_ands; go_simp; try with_reducible rfl
    simp only [Act.put, List.setIfInBounds_toArray, List.set_cons_zero, List.set_cons_succ, List.getElem_toArray, List.getElem_cons_zero, List.getElem_cons_succ]
    refine wpAnyH_take (i := 9) (v := ?_) rfl (by kernel_rfl) (by kernel_rfl) (by kernel_rfl) (fun _ _ _ h => h) (Or.inl ⟨by rfl, ?_⟩) hHeld ?_
    rotate_left
    · intro w hSw; go_split_ands; go_simp; try with_reducible rfl
    simp only [Act.put, List.setIfInBounds_toArray, List.set_cons_zero, List.set_cons_succ, List.getElem_toArray, List.getElem_cons_zero, List.getElem_cons_succ]
    refine wpAnyH_take (i := 10) (v := ?_) rfl (by kernel_rfl) (by kernel_rfl) (by kernel_rfl) (fun _ _ _ h => h) (Or.inl ⟨by rfl, ?_⟩) hHeld ?_
    rotate_left
    · intro w hSw; go_split_ands; go_simp; try with_reducible rfl
    simp only [Act.put, List.setIfInBounds_toArray, List.set_cons_zero, List.set_cons_succ, List.getElem_toArray, List.getElem_cons_zero, List.getElem_cons_succ]
    refine wpAnyH_take (i := 11) (v := ?_) rfl (by kernel_rfl) (by kernel_rfl) (by kernel_rfl) (fun _ _ _ h => h) (Or.inl ⟨by rfl, ?_⟩) hHeld ?_
    rotate_left
    · intro w hSw; go_split_ands; go_simp; try with_reducible rfl
    simp only [Act.put, List.setIfInBounds_toArray, List.set_cons_zero, List.set_cons_succ, List.getElem_toArray, List.getElem_cons_zero, List.getElem_cons_succ]
    refine wpAnyH_take (i := 12) (v := ?_) rfl (by kernel_rfl) (by kernel_rfl) (by kernel_rfl) (fun _ _ _ h => h) (Or.inl ⟨by rfl, ?_⟩) hHeld ?_
    rotate_left
    · intro w hSw; go_split_ands; go_simp; try with_reducible rfl
    simp only [Act.put, List.setIfInBounds_toArray, List.set_cons_zero, List.set_cons_succ, List.getElem_toArray, List.getElem_cons_zero, List.getElem_cons_succ]
    refine wpAnyH_take (i := 13) (v := ?_) rfl (by kernel_rfl) (by kernel_rfl) (by kernel_rfl) (fun _ _ _ h => h) (Or.inl ⟨by rfl, ?_⟩) hHeld ?_
    rotate_left
    · intro w hSw; go_split_ands; go_simp; try with_reducible rfl
    simp only [Act.put, List.setIfInBounds_toArray, List.set_cons_zero, List.set_cons_succ, List.getElem_toArray, List.getElem_cons_zero, List.getElem_cons_succ]
    refine wpAnyH_take (i := 14) (v := ?_) rfl (by kernel_rfl) (by kernel_rfl) (by kernel_rfl) (fun _ _ _ h => h) (Or.inl ⟨by rfl, ?_⟩) hHeld ?_
    rotate_left
    · intro w hSw; go_split_ands; go_simp; try with_reducible rfl
    simp only [Act.put, List.setIfInBounds_toArray, List.set_cons_zero, List.set_cons_succ, List.getElem_toArray, List.getElem_cons_zero, List.getElem_cons_succ]
    refine wpAnyH_take (i := 15) (v := ?_) rfl (by kernel_rfl) (by kernel_rfl) (by kernel_rfl) (fun _ _ _ h => h) (Or.inl ⟨by rfl, ?_⟩) hHeld ?_
    rotate_left
    · intro w hSw; go_split_ands; go_simp; try with_reducible rfl
    simp only [Act.put, List.setIfInBounds_toArray, List.set_cons_zero, List.set_cons_succ, List.getElem_toArray, List.getElem_cons_zero, List.getElem_cons_succ]
    refine wpAnyH_take (i := 16) (v := ?_) rfl (by kernel_rfl) (by kernel_rfl) (by kernel_rfl) (fun _ _ _ h => h) (Or.inl ⟨by rfl, ?_⟩) hHeld ?_
    rotate_left
    · intro w hSw; go_split_ands; go_simp; try with_reducible rfl
    simp only [Act.put, List.setIfInBounds_toArray, List.set_cons_zero, List.set_cons_succ, List.getElem_toArray, List.getElem_cons_zero, List.getElem_cons_succ]
    refine wpAnyH_take (i := 17) (v := ?_) rfl (by kernel_rfl) (by kernel_rfl) (by kernel_rfl) (fun _ _ _ h => h) (Or.inl ⟨by rfl, ?_⟩) hHeld ?_
    rotate_left
    · intro w hSw; go_split_ands; go_simp; try with_reducible rfl
    simp only [Act.put, List.setIfInBounds_toArray, List.set_cons_zero, List.set_cons_succ, List.getElem_toArray, List.getElem_cons_zero, List.getElem_cons_succ]
    refine wpAnyH_take (i := 18) (v := ?_) rfl (by kernel_rfl) (by kernel_rfl) (by kernel_rfl) (fun _ _ _ h => h) (Or.inl ⟨by rfl, ?_⟩) hHeld ?_
    rotate_left
    · intro w hSw; go_split_ands; go_simp; try with_reducible rfl
    simp only [Act.put, List.setIfInBounds_toArray, List.set_cons_zero, List.set_cons_succ, List.getElem_toArray, List.getElem_cons_zero, List.getElem_cons_succ]
    refine wpAnyH_take (i := 19) (v := ?_) rfl (by kernel_rfl) (by kernel_rfl) (by kernel_rfl) (fun _ _ _ h => h) (Or.inl ⟨by rfl, ?_⟩) hHeld ?_
    rotate_left
    · intro w hSw; go_split_ands; go_simp; try with_reducible rfl
    simp only [Act.put, List.setIfInBounds_toArray, List.set_cons_zero, List.set_cons_succ, List.getElem_toArray, List.getElem_cons_zero, List.getElem_cons_succ]
    refine wpAnyH_take (i := 20) (v := ?_) rfl (by kernel_rfl) (by kernel_rfl) (by kernel_rfl) (fun _ _ _ h => h) (Or.inl ⟨by rfl, ?_⟩) hHeld ?_
    rotate_left
    · intro w hSw; go_split_ands; go_simp; try with_reducible rfl
    simp only [Act.put, List.setIfInBounds_toArray, List.set_cons_zero, List.set_cons_succ, List.getElem_toArray, List.getElem_cons_zero, List.getElem_cons_succ]
    refine wpAnyH_take (i := 21) (v := ?_) rfl (by kernel_rfl) (by kernel_rfl) (by kernel_rfl) (fun _ _ _ h => h) (Or.inl ⟨by rfl, ?_⟩) hHeld ?_
    rotate_left
    · intro w hSw; go_split_ands; go_simp; try with_reducible rfl
    simp only [Act.put, List.setIfInBounds_toArray, List.set_cons_zero, List.set_cons_succ, List.getElem_toArray, List.getElem_cons_zero, List.getElem_cons_succ]
    refine wpAnyH_take (i := 22) (v := ?_) rfl (by kernel_rfl) (by kernel_rfl) (by kernel_rfl) (fun _ _ _ h => h) (Or.inl ⟨by rfl, ?_⟩) hHeld ?_
    rotate_left
    · intro w hSw; go_split_ands; go_simp; try with_reducible rfl
    simp only [Act.put, List.setIfInBounds_toArray, List.set_cons_zero, List.set_cons_succ, List.getElem_toArray, List.getElem_cons_zero, List.getElem_cons_succ]
    refine wpAnyH_take (i := 23) (v := ?_) rfl (by kernel_rfl) (by kernel_rfl) (by kernel_rfl) (fun _ _ _ h => h) (Or.inl ⟨by rfl, ?_⟩) hHeld ?_
    rotate_left
    · intro w hSw; go_split_ands; go_simp; try with_reducible rfl
    simp only [Act.put, List.setIfInBounds_toArray, List.set_cons_zero, List.set_cons_succ, List.getElem_toArray, List.getElem_cons_zero, List.getElem_cons_succ]
    refine wpAnyH_take (i := 24) (v := ?_) rfl (by kernel_rfl) (by kernel_rfl) (by kernel_rfl) (fun _ _ _ h => h) (Or.inl ⟨by rfl, ?_⟩) hHeld ?_
    rotate_left
    · intro w hSw; go_split_ands; go_simp; try with_reducible rfl
    simp only [Act.put, List.setIfInBounds_toArray, List.set_cons_zero, List.set_cons_succ, List.getElem_toArray, List.getElem_cons_zero, List.getElem_cons_succ]
    refine wpAnyH_take (i := 25) (v := ?_) rfl (by kernel_rfl) (by kernel_rfl) (by kernel_rfl) (fun _ _ _ h => h) (Or.inl ⟨by rfl, ?_⟩) hHeld ?_
    rotate_left
    · intro w hSw; go_split_ands; go_simp; try with_reducible rfl
    simp only [Act.put, List.setIfInBounds_toArray, List.set_cons_zero, List.set_cons_succ, List.getElem_toArray, List.getElem_cons_zero, List.getElem_cons_succ]
    refine wpAnyH_take (i := 26) (v := ?_) rfl (by kernel_rfl) (by kernel_rfl) (by kernel_rfl) (fun _ _ _ h => h) (Or.inl ⟨by rfl, ?_⟩) hHeld ?_
    rotate_left
    · intro w hSw; go_split_ands; go_simp; try with_reducible rfl
    simp only [Act.put, List.setIfInBounds_toArray, List.set_cons_zero, List.set_cons_succ, List.getElem_toArray, List.getElem_cons_zero, List.getElem_cons_succ]
    refine wpAnyH_take (i := 27) (v := ?_) rfl (by kernel_rfl) (by kernel_rfl) (by kernel_rfl) (fun _ _ _ h => h) (Or.inl ⟨by rfl, ?_⟩) hHeld ?_
    rotate_left
    · intro w hSw; go_split_ands; go_simp; try with_reducible rfl
    simp only [Act.put, List.setIfInBounds_toArray, List.set_cons_zero, List.set_cons_succ, List.getElem_toArray, List.getElem_cons_zero, List.getElem_cons_succ]
    refine wpAnyH_take (i := 28) (v := ?_) rfl (by kernel_rfl) (by kernel_rfl) (by kernel_rfl) (fun _ _ _ h => h) (Or.inl ⟨by rfl, ?_⟩) hHeld ?_
    rotate_left
    · intro w hSw; go_split_ands; go_simp; try with_reducible rfl
    simp only [Act.put, List.setIfInBounds_toArray, List.set_cons_zero, List.set_cons_succ, List.getElem_toArray, List.getElem_cons_zero, List.getElem_cons_succ]
    refine wpAnyH_take (i := 29) (v := ?_) rfl (by kernel_rfl) (by kernel_rfl) (by kernel_rfl) (fun _ _ _ h => h) (Or.inl ⟨by rfl, ?_⟩) hHeld ?_
    rotate_left
    · intro w hSw; go_split_ands; go_simp; try with_reducible rfl
    simp only [Act.put, List.setIfInBounds_toArray, List.set_cons_zero, List.set_cons_succ, List.getElem_toArray, List.getElem_cons_zero, List.getElem_cons_succ]
    refine wpAnyH_take (i := 30) (v := ?_) rfl (by kernel_rfl) (by kernel_rfl) (by kernel_rfl) (fun _ _ _ h => h) (Or.inl ⟨by rfl, ?_⟩) hHeld ?_
    rotate_left
    · intro w hSw; go_split_ands; go_simp; try with_reducible rfl
    simp only [Act.put, List.setIfInBounds_toArray, List.set_cons_zero, List.set_cons_succ, List.getElem_toArray, List.getElem_cons_zero, List.getElem_cons_succ]
    refine wpAnyH_take (i := 31) (v := ?_) rfl (by kernel_rfl) (by kernel_rfl) (by kernel_rfl) (fun _ _ _ h => h) (Or.inl ⟨by rfl, ?_⟩) hHeld ?_
    rotate_left
    · intro w hSw; go_split_ands; go_simp; try with_reducible rfl
    simp only [Act.put, List.setIfInBounds_toArray, List.set_cons_zero, List.set_cons_succ, List.getElem_toArray, List.getElem_cons_zero, List.getElem_cons_succ]
    refine wpAnyH_take (i := 32) (v := ?_) rfl (by kernel_rfl) (by kernel_rfl) (by kernel_rfl) (fun _ _ _ h => h) (Or.inl ⟨by rfl, ?_⟩) hHeld ?_
    rotate_left
    · intro w hSw; go_split_ands; go_simp; try with_reducible rfl
    simp only [Act.put, List.setIfInBounds_toArray, List.set_cons_zero, List.set_cons_succ, List.getElem_toArray, List.getElem_cons_zero, List.getElem_cons_succ]
    refine wpAnyH_take (i := 33) (v := ?_) rfl (by kernel_rfl) (by kernel_rfl) (by kernel_rfl) (fun _ _ _ h => h) (Or.inl ⟨by rfl, ?_⟩) hHeld ?_
    rotate_left
    · intro w hSw; go_split_ands; go_simp; try with_reducible rfl
    simp only [Act.put, List.setIfInBounds_toArray, List.set_cons_zero, List.set_cons_succ, List.getElem_toArray, List.getElem_cons_zero, List.getElem_cons_succ]
    refine wpAnyH_take (i := 34) (v := ?_) rfl (by kernel_rfl) (by kernel_rfl) (by kernel_rfl) (fun _ _ _ h => h) (Or.inl ⟨by rfl, ?_⟩) hHeld ?_
    rotate_left
    · intro w hSw; go_split_ands; go_simp; try with_reducible rfl
    simp only [Act.put, List.setIfInBounds_toArray, List.set_cons_zero, List.set_cons_succ, List.getElem_toArray, List.getElem_cons_zero, List.getElem_cons_succ]
    refine wpAnyH_take (i := 38) (v := ?_) rfl (by kernel_rfl) (by kernel_rfl) (by kernel_rfl) (fun _ _ _ h => h) (Or.inl ⟨by rfl, ?_⟩) hHeld ?_
    rotate_left
    · intro w hSw; go_split_ands; go_simp; try with_reducible rfl
    simp only [Act.put, List.setIfInBounds_toArray, List.set_cons_zero, List.set_cons_succ, List.getElem_toArray, List.getElem_cons_zero, List.getElem_cons_succ]
    refine wpAnyH_take (i := 39) (v := ?_) rfl (by kernel_rfl) (by kernel_rfl) (by kernel_rfl) (fun _ _ _ h => h) (Or.inl ⟨by rfl, ?_⟩) hHeld ?_
    rotate_left
    · intro w hSw; go_split_ands; go_simp; try with_reducible rfl
    simp only [Act.put, List.setIfInBounds_toArray, List.set_cons_zero, List.set_cons_succ, List.getElem_toArray, List.getElem_cons_zero, List.getElem_cons_succ]
    refine wpAnyH_take (i := 40) (v := ?_) rfl (by kernel_rfl) (by kernel_rfl) (by kernel_rfl) (fun _ _ _ h => h) (Or.inl ⟨by rfl, ?_⟩) hHeld ?_
    rotate_left
    · intro w hSw; go_split_ands; go_simp; try with_reducible rfl
    simp only [Act.put, List.setIfInBounds_toArray, List.set_cons_zero, List.set_cons_succ, List.getElem_toArray, List.getElem_cons_zero, List.getElem_cons_succ]
    refine wpAnyH_take (i := 41) (v := ?_) rfl (by kernel_rfl) (by kernel_rfl) (by kernel_rfl) (fun _ _ _ h => h) (Or.inl ⟨by rfl, ?_⟩) hHeld ?_
    rotate_left
    · intro w hSw; go_split_ands; go_simp; try with_reducible rfl
    simp only [Act.put, List.setIfInBounds_toArray, List.set_cons_zero, List.set_cons_succ, List.getElem_toArray, List.getElem_cons_zero, List.getElem_cons_succ]
    refine wpAnyH_take (i := 42) (v := ?_) rfl (by kernel_rfl) (by kernel_rfl) (by kernel_rfl) (fun _ _ _ h => h) (Or.inl ⟨by rfl, ?_⟩) hHeld ?_
    rotate_left
    · intro w hSw; go_split_ands; go_simp; try with_reducible rfl
    simp only [Act.put, List.setIfInBounds_toArray, List.set_cons_zero, List.set_cons_succ, List.getElem_toArray, List.getElem_cons_zero, List.getElem_cons_succ]
    refine wpAnyH_take (i := 43) (v := ?_) rfl (by kernel_rfl) (by kernel_rfl) (by kernel_rfl) (fun _ _ _ h => h) (Or.inl ⟨by rfl, ?_⟩) hHeld ?_
    rotate_left
    · intro w hSw; go_split_ands; go_simp; try with_reducible rfl
    simp only [Act.put, List.setIfInBounds_toArray, List.set_cons_zero, List.set_cons_succ, List.getElem_toArray, List.getElem_cons_zero, List.getElem_cons_succ]
    refine wpAnyH_ready (rs := [35, 44]) (by kernel_rfl) (by simp) ?_
    refine AllReadyH.cons rfl (fun K hK => ?_) (AllReadyH.cons rfl (fun K hK => ?_) AllReadyH.nil)
    · go_simp
      clear hHeld
      refine hK.out _ _ (HALL.out _ (bal (below_self v).drew)) (fun hHeld => ?_)
      clear hK K
      try simp only [Act.put, List.setIfInBounds_toArray, List.set_cons_zero, List.set_cons_succ]
      refine wpAnyH_ready (rs := [36, 44]) (by kernel_rfl) (by simp) ?_
      refine AllReadyH.cons rfl (fun K hK => ?_) (AllReadyH.cons rfl (fun K hK => ?_) AllReadyH.nil)
      · go_simp
        refine (way_is _ _ _ (v.drew.alloc (.cells #[.int .i64 16] 3))).mono ?_
        rintro e wq ⟨rfl, hq⟩
        have hbq : Below v.heap.size v wq := below_on (bal (below_self v).drew) hq
        clear hHeld
        refine hK.out _ _ (HALL.out _ (hbq)) (fun hHeld => ?_)
        clear hK K
        try simp only [Act.put, List.setIfInBounds_toArray, List.set_cons_zero, List.set_cons_succ]
        refine wpAnyH_take (i := 37) (v := ?_) rfl (by kernel_rfl) (by kernel_rfl) (by kernel_rfl) (fun _ _ _ h => h) (Or.inl ⟨by rfl, ?_⟩) hHeld ?_
        rotate_left
        · intro w hSw; go_split_ands; go_simp; try with_reducible rfl
        simp only [Act.put, List.setIfInBounds_toArray, List.set_cons_zero, List.set_cons_succ, List.getElem_toArray, List.getElem_cons_zero, List.getElem_cons_succ]
        refine wpAnyH_ready (rs := [44]) (by kernel_rfl) (by simp) ?_
        refine AllReadyH.cons rfl (fun K hK => ?_) AllReadyH.nil
        go_simp
        clear hHeld
        refine hK.out _ _ (HALL.out _ (bal hbq)) (fun hHeld => ?_)
        clear hK K
        try simp only [Act.put, List.setIfInBounds_toArray, List.set_cons_zero, List.set_cons_succ]
        refine wpAnyH_ready (rs := [45]) (by kernel_rfl) (by simp) ?_
        refine AllReadyH.cons rfl (fun K hK => ?_) AllReadyH.nil
        go_simp
        refine (way_is _ _ _ (wq.alloc (.cells #[.int .i64 1, .int .i64 2, .int .i64 3, .int .i64 4] 3))).mono ?_
        rintro e wp ⟨rfl, hp⟩
        have HB9 : Below v.heap.size v wp := below_on (bal hbq) hp
        clear hHeld
        refine hK.out _ _ (HALL.out _ (HB9)) (fun hHeld => ?_)
        clear hK K
        try simp only [Act.put, List.setIfInBounds_toArray, List.set_cons_zero, List.set_cons_succ]
        have hX := ((lit_ints v.drew [16] 3 #[.int .i64 16] rfl).on hq).on (below_on (below_alloc wq (.cells #[.int .i64 1, .int .i64 2, .int .i64 3, .int .i64 4] 3)) hp)
        have hY := (lit_ints wq [1, 2, 3, 4] 3 #[.int .i64 1, .int .i64 2, .int .i64 3, .int .i64 4] rfl).on hp
        refine wpAnyH_take (i := 46) (v := ?_) rfl (by kernel_rfl) (by kernel_rfl) (by kernel_rfl) (fun _ _ _ h => h) (Or.inl ⟨by rfl, ?_⟩) hHeld ?_
        rotate_left
        · intro w hSw; go_split_ands; go_simp; try with_reducible rfl
        simp only [Act.put, List.setIfInBounds_toArray, List.set_cons_zero, List.set_cons_succ, List.getElem_toArray, List.getElem_cons_zero, List.getElem_cons_succ]
        refine wpAnyH_ready (rs := [47]) (by kernel_rfl) (by simp) ?_
        refine AllReadyH.cons rfl (fun K hK => ?_) AllReadyH.nil
        go_simp
        have HZ9 := Lib.hid (Bad.of (Bxs.more (W := v) HB9 (badCells A B _ _) 29) (HI.out.on (below_on HB9 (below_alloc _ _))) (HJ.out.on (below_on HB9 (below_alloc _ _))) (hX.on (below_alloc _ _)) (hY.on (below_alloc _ _)))
        clear hHeld
        refine hK.out _ _ (HALL.out _ (bal HB9)) (fun hHeld => ?_)
        clear hK K
        try simp only [Act.put, List.setIfInBounds_toArray, List.set_cons_zero, List.set_cons_succ]
        refine wpAnyH_take (i := 48) (v := ?_) rfl (by kernel_rfl) (by kernel_rfl) (by kernel_rfl) (fun _ _ _ h => h) (Or.inl ⟨by rfl, ?_⟩) hHeld ?_
        rotate_left
        · intro w hSw; go_split_ands; go_simp; try with_reducible rfl
        simp only [Act.put, List.setIfInBounds_toArray, List.set_cons_zero, List.set_cons_succ, List.getElem_toArray, List.getElem_cons_zero, List.getElem_cons_succ]
        refine wpAnyH_done (by kernel_rfl) ?_ _
        go_wp2_with fail
        go_meet
        exact ⟨_, rfl, HZ9.out, bal HB9⟩
      · go_simp
        clear hHeld
        refine hK.out _ _ (HALL.out _ (bal (bal (below_self v).drew))) (fun hHeld => ?_)
        clear hK K
        try simp only [Act.put, List.setIfInBounds_toArray, List.set_cons_zero, List.set_cons_succ]
        refine wpAnyH_ready (rs := [36]) (by kernel_rfl) (by simp) ?_
        refine AllReadyH.cons rfl (fun K hK => ?_) AllReadyH.nil
        go_simp
        refine (way_is _ _ _ ((v.drew.alloc (.cells #[.int .i64 16] 3)).alloc (.cells #[.int .i64 1, .int .i64 2, .int .i64 3, .int .i64 4] 3))).mono ?_
        rintro e wq ⟨rfl, hq⟩
        have hbq : Below v.heap.size v wq := below_on (bal (bal (below_self v).drew)) hq
        clear hHeld
        refine hK.out _ _ (HALL.out _ (hbq)) (fun hHeld => ?_)
        clear hK K
        try simp only [Act.put, List.setIfInBounds_toArray, List.set_cons_zero, List.set_cons_succ]
        refine wpAnyH_take (i := 37) (v := ?_) rfl (by kernel_rfl) (by kernel_rfl) (by kernel_rfl) (fun _ _ _ h => h) (Or.inl ⟨by rfl, ?_⟩) hHeld ?_
        rotate_left
        · intro w hSw; go_split_ands; go_simp; try with_reducible rfl
        simp only [Act.put, List.setIfInBounds_toArray, List.set_cons_zero, List.set_cons_succ, List.getElem_toArray, List.getElem_cons_zero, List.getElem_cons_succ]
        refine wpAnyH_ready (rs := [45]) (by kernel_rfl) (by simp) ?_
        refine AllReadyH.cons rfl (fun K hK => ?_) AllReadyH.nil
        go_simp
        refine (way_is _ _ _ wq).mono ?_
        rintro e wp ⟨rfl, hp⟩
        have HB9 : Below v.heap.size v wp := below_on hbq hp
        clear hHeld
        refine hK.out _ _ (HALL.out _ (HB9)) (fun hHeld => ?_)
        clear hK K
        try simp only [Act.put, List.setIfInBounds_toArray, List.set_cons_zero, List.set_cons_succ]
        have hX := (((lit_ints v.drew [16] 3 #[.int .i64 16] rfl).on (below_alloc _ (.cells #[.int .i64 1, .int .i64 2, .int .i64 3, .int .i64 4] 3))).on hq).on hp
        have hY := ((lit_ints (v.drew.alloc (.cells #[.int .i64 16] 3)) [1, 2, 3, 4] 3 #[.int .i64 1, .int .i64 2, .int .i64 3, .int .i64 4] rfl).on hq).on hp
        rw [show (v.drew.alloc (.cells #[.int .i64 16] 3)).heap.size = v.heap.size + 1 by simp] at hY
        refine wpAnyH_take (i := 46) (v := ?_) rfl (by kernel_rfl) (by kernel_rfl) (by kernel_rfl) (fun _ _ _ h => h) (Or.inl ⟨by rfl, ?_⟩) hHeld ?_
        rotate_left
        · intro w hSw; go_split_ands; go_simp; try with_reducible rfl
        simp only [Act.put, List.setIfInBounds_toArray, List.set_cons_zero, List.set_cons_succ, List.getElem_toArray, List.getElem_cons_zero, List.getElem_cons_succ]
        refine wpAnyH_ready (rs := [47]) (by kernel_rfl) (by simp) ?_
        refine AllReadyH.cons rfl (fun K hK => ?_) AllReadyH.nil
        go_simp
        have HZ9 := Lib.hid (Bad.of (Bxs.more (W := v) HB9 (badCells A B _ _) 29) (HI.out.on (below_on HB9 (below_alloc _ _))) (HJ.out.on (below_on HB9 (below_alloc _ _))) (hX.on (below_alloc _ _)) (hY.on (below_alloc _ _)))
        clear hHeld
        refine hK.out _ _ (HALL.out _ (bal HB9)) (fun hHeld => ?_)
        clear hK K
        try simp only [Act.put, List.setIfInBounds_toArray, List.set_cons_zero, List.set_cons_succ]
        refine wpAnyH_take (i := 48) (v := ?_) rfl (by kernel_rfl) (by kernel_rfl) (by kernel_rfl) (fun _ _ _ h => h) (Or.inl ⟨by rfl, ?_⟩) hHeld ?_
        rotate_left
        · intro w hSw; go_split_ands; go_simp; try with_reducible rfl
        simp only [Act.put, List.setIfInBounds_toArray, List.set_cons_zero, List.set_cons_succ, List.getElem_toArray, List.getElem_cons_zero, List.getElem_cons_succ]
        refine wpAnyH_done (by kernel_rfl) ?_ _
        go_wp2_with fail
        go_meet
        exact ⟨_, rfl, HZ9.out, bal HB9⟩
    · go_simp
      clear hHeld
      refine hK.out _ _ (HALL.out _ (bal (below_self v).drew)) (fun hHeld => ?_)
      clear hK K
      try simp only [Act.put, List.setIfInBounds_toArray, List.set_cons_zero, List.set_cons_succ]
      refine wpAnyH_ready (rs := [35]) (by kernel_rfl) (by simp) ?_
      refine AllReadyH.cons rfl (fun K hK => ?_) AllReadyH.nil
      go_simp
      clear hHeld
      refine hK.out _ _ (HALL.out _ (bal (bal (below_self v).drew))) (fun hHeld => ?_)
      clear hK K
      try simp only [Act.put, List.setIfInBounds_toArray, List.set_cons_zero, List.set_cons_succ]
      refine wpAnyH_ready (rs := [36]) (by kernel_rfl) (by simp) ?_
      refine AllReadyH.cons rfl (fun K hK => ?_) AllReadyH.nil
      go_simp
      refine (way_is _ _ _ ((v.drew.alloc (.cells #[.int .i64 1, .int .i64 2, .int .i64 3, .int .i64 4] 3)).alloc (.cells #[.int .i64 16] 3))).mono ?_
      rintro e wq ⟨rfl, hq⟩
      have hbq : Below v.heap.size v wq := below_on (bal (bal (below_self v).drew)) hq
      clear hHeld
      refine hK.out _ _ (HALL.out _ (hbq)) (fun hHeld => ?_)
      clear hK K
      try simp only [Act.put, List.setIfInBounds_toArray, List.set_cons_zero, List.set_cons_succ]
      refine wpAnyH_take (i := 37) (v := ?_) rfl (by kernel_rfl) (by kernel_rfl) (by kernel_rfl) (fun _ _ _ h => h) (Or.inl ⟨by rfl, ?_⟩) hHeld ?_
      rotate_left
      · intro w hSw; go_split_ands; go_simp; try with_reducible rfl
      simp only [Act.put, List.setIfInBounds_toArray, List.set_cons_zero, List.set_cons_succ, List.getElem_toArray, List.getElem_cons_zero, List.getElem_cons_succ]
      refine wpAnyH_ready (rs := [45]) (by kernel_rfl) (by simp) ?_
      refine AllReadyH.cons rfl (fun K hK => ?_) AllReadyH.nil
      go_simp
      refine (way_is _ _ _ wq).mono ?_
      rintro e wp ⟨rfl, hp⟩
      have HB9 : Below v.heap.size v wp := below_on hbq hp
      clear hHeld
      refine hK.out _ _ (HALL.out _ (HB9)) (fun hHeld => ?_)
      clear hK K
      try simp only [Act.put, List.setIfInBounds_toArray, List.set_cons_zero, List.set_cons_succ]
      have hX := ((lit_ints (v.drew.alloc (.cells #[.int .i64 1, .int .i64 2, .int .i64 3, .int .i64 4] 3)) [16] 3 #[.int .i64 16] rfl).on hq).on hp
      have hY := (((lit_ints v.drew [1, 2, 3, 4] 3 #[.int .i64 1, .int .i64 2, .int .i64 3, .int .i64 4] rfl).on (below_alloc _ (.cells #[.int .i64 16] 3))).on hq).on hp
      rw [show (v.drew.alloc (.cells #[.int .i64 1, .int .i64 2, .int .i64 3, .int .i64 4] 3)).heap.size = v.heap.size + 1 by simp] at hX
      refine wpAnyH_take (i := 46) (v := ?_) rfl (by kernel_rfl) (by kernel_rfl) (by kernel_rfl) (fun _ _ _ h => h) (Or.inl ⟨by rfl, ?_⟩) hHeld ?_
      rotate_left
      · intro w hSw; go_split_ands; go_simp; try with_reducible rfl
      simp only [Act.put, List.setIfInBounds_toArray, List.set_cons_zero, List.set_cons_succ, List.getElem_toArray, List.getElem_cons_zero, List.getElem_cons_succ]
      refine wpAnyH_ready (rs := [47]) (by kernel_rfl) (by simp) ?_
      refine AllReadyH.cons rfl (fun K hK => ?_) AllReadyH.nil
      go_simp
      have HZ9 := Lib.hid (Bad.of (Bxs.more (W := v) HB9 (badCells A B _ _) 29) (HI.out.on (below_on HB9 (below_alloc _ _))) (HJ.out.on (below_on HB9 (below_alloc _ _))) (hX.on (below_alloc _ _)) (hY.on (below_alloc _ _)))
      clear hHeld
      refine hK.out _ _ (HALL.out _ (bal HB9)) (fun hHeld => ?_)
      clear hK K
      try simp only [Act.put, List.setIfInBounds_toArray, List.set_cons_zero, List.set_cons_succ]
      refine wpAnyH_take (i := 48) (v := ?_) rfl (by kernel_rfl) (by kernel_rfl) (by kernel_rfl) (fun _ _ _ h => h) (Or.inl ⟨by rfl, ?_⟩) hHeld ?_
      rotate_left
      · intro w hSw; go_split_ands; go_simp; try with_reducible rfl
      simp only [Act.put, List.setIfInBounds_toArray, List.set_cons_zero, List.set_cons_succ, List.getElem_toArray, List.getElem_cons_zero, List.getElem_cons_succ]
      refine wpAnyH_done (by kernel_rfl) ?_ _
      go_wp2_with fail
      go_meet
      exact ⟨_, rfl, HZ9.out, bal HB9⟩
  case rest =>
    obtain ⟨gb, rfl, hbad, hbc⟩ := hcut
    have HBAD := Lib.hid hbad
    replace K1 := Lib.hid (K1.out.on hbc)
    replace K2 := Lib.hid (K2.out.on hbc)
    replace HI := Lib.hid (HI.out.on hbc)
    replace HJ := Lib.hid (HJ.out.on hbc)
    replace HB := Lib.hid (below_on HB.out hbc)
    obtain ⟨vc, hvc⟩ : ∃ vc, vc = wc := ⟨_, rfl⟩
    rw [← hvc] at HBAD K1 K2 HI HJ HB ⊢
    clear hvc hbad hbc HALL
    have HTV := Lib.hid fun w' (h : Below vc.heap.size vc w') => HT.out.on (below_on HB.out h)
    go_wp2_with fail
    go_loopg [4] 19 (fun k p wr => BadRel vc k p wr)
    case atStart => exact ⟨0, by omega, rfl, below_self vc⟩
    case round =>
      obtain ⟨i, hk, rfl, hbv⟩ := hrel
      have HK := Lib.hid hk
      have HBV := Lib.hid hbv
      clear hk hbv
      by_cases hlt : i < 19
      · have HLT := Lib.hid hlt
        have hlt2 : (i : Int) < 19 := by omega
        obtain ⟨c, hc⟩ : ∃ c, bads[i]? = some c := ⟨bads[i]'(by rw [bads_len]; exact hlt), List.getElem?_eq_getElem _⟩
        have HM := Lib.hid (List.mem_of_getElem? hc)
        obtain ⟨A7, ca7, B7, cb7, h0, h1, h2, h3, h4, h5, h6, h7⟩ := (HBAD.out.on HBV.out).row i c hc
        have HCL := Lib.hid (show ClAt wr (.agg #[.int .i64 c.op, .slice A7 c.a.length ca7, .slice B7 c.b.length cb7, .int .i64 c.x, .int .i64 c.y, .int .u64 (c.w : Int)]) c from ⟨A7, ca7, B7, cb7, rfl, h6, h7⟩)
        have HROW := Lib.hid fun w' (h : Below wr.heap.size wr w') => (HBAD.out.on (below_on HBV.out h)).row i c hc
        have HLB : Hid (gb < wr.heap.size) := Lib.hid (HBAD.out.on HBV.out).lt
        clear h6 h7 hc hlt
        have HC0 := Lib.hid h0
        have HC1 := Lib.hid h1
        have HC2 := Lib.hid h2
        have HC3 := Lib.hid h3
        have HC4 := Lib.hid h4
        have HC5 := Lib.hid h5
        obtain ⟨op, hop⟩ : ∃ op, op = c.op := ⟨_, rfl⟩
        obtain ⟨xx, hxx⟩ : ∃ op, op = c.x := ⟨_, rfl⟩
        obtain ⟨yy, hyy⟩ : ∃ op, op = c.y := ⟨_, rfl⟩
        obtain ⟨zz, hzz⟩ : ∃ op, op = c.w := ⟨_, rfl⟩
        obtain ⟨n7, hn7⟩ : ∃ op, op = c.a.length := ⟨_, rfl⟩
        obtain ⟨m7, hm7⟩ : ∃ op, op = c.b.length := ⟨_, rfl⟩
        rw [← hop, ← hxx, ← hyy, ← hzz, ← hn7, ← hm7] at HCL
        rw [← hop] at h0 HC0
        rw [← hn7] at h1 HC1
        rw [← hm7] at h2 HC2
        rw [← hxx] at h3 HC3
        rw [← hyy] at h4 HC4
        rw [← hzz] at h5 HC5
        clear hop hxx hyy hzz hn7 hm7
        go_wp2_with fail
        refine (good_at HCL.out (bads_good c HM.out)).mono ?_
        rintro e u1 ⟨rfl, hb⟩
        clear h0 h1 h2 h3 h4 h5
        have h0 := (hb.cell (p := ⟨gb, i * 6, none⟩) HLB.out).trans HC0.out
        have h1 := (hb.cell (p := ⟨gb, i * 6 + 1, none⟩) HLB.out).trans HC1.out
        have h2 := (hb.cell (p := ⟨gb, i * 6 + 2, none⟩) HLB.out).trans HC2.out
        have h3 := (hb.cell (p := ⟨gb, i * 6 + 3, none⟩) HLB.out).trans HC3.out
        have h4 := (hb.cell (p := ⟨gb, i * 6 + 4, none⟩) HLB.out).trans HC4.out
        have h5 := (hb.cell (p := ⟨gb, i * 6 + 5, none⟩) HLB.out).trans HC5.out
        have HB1 := Lib.hid hb
        replace HCL := Lib.hid (HCL.out.on hb)
        clear hb
        go_wp2_with fail
        refine (words_of HCL.out (bads_words c HM.out)).mono ?_
        rintro e u2 ⟨⟨vw, rfl, hv⟩, hb⟩
        obtain ⟨Aw, cw, rfl, -, -⟩ := hv
        simp only [List.map_nil, List.length_nil]
        clear h0 h1 h2 h3 h4 h5
        replace HB1 := Lib.hid (below_on HB1.out hb)
        have h0 := (HB1.out.cell (p := ⟨gb, i * 6, none⟩) HLB.out).trans HC0.out
        have h1 := (HB1.out.cell (p := ⟨gb, i * 6 + 1, none⟩) HLB.out).trans HC1.out
        have h2 := (HB1.out.cell (p := ⟨gb, i * 6 + 2, none⟩) HLB.out).trans HC2.out
        have h3 := (HB1.out.cell (p := ⟨gb, i * 6 + 3, none⟩) HLB.out).trans HC3.out
        have h4 := (HB1.out.cell (p := ⟨gb, i * 6 + 4, none⟩) HLB.out).trans HC4.out
        have h5 := (HB1.out.cell (p := ⟨gb, i * 6 + 5, none⟩) HLB.out).trans HC5.out
        replace HCL := Lib.hid (HCL.out.on hb)
        clear hb
        go_wp2_with fail
        refine (text_of (HTV.out _ (below_on HBV.out HB1.out)) HCL.out (bads_w c HM.out) (bads_text c HM.out)).mono ?_
        rintro e u3 ⟨rfl, hb⟩
        replace HB1 := Lib.hid (below_on HB1.out hb)
        clear hb h0 h1 h2 h3 h4 h5
        go_wp2
        go_roundg (19 - (i + 1))
        case measure => have := HK.out; have := HLT.out; omega
        case rel => exact ⟨i + 1, by have := HLT.out; omega, by go_num, below_on HBV.out HB1.out⟩
      · have hlt2 : ¬ (i : Int) < 19 := by omega
        replace K1 := Lib.hid (K1.out.on HBV.out)
        replace K2 := Lib.hid (K2.out.on HBV.out)
        replace HI := Lib.hid (HI.out.on HBV.out)
        replace HJ := Lib.hid (HJ.out.on HBV.out)
        replace HB := Lib.hid (below_on HB.out HBV.out)
        clear HK HBV HBAD HTV hlt
        have c1 := K1.out.c 0 _ rfl
        have c2 := K2.out.c 0 _ rfl
        go_wp2_with fail
        refine (words_of (c := ⟨3, [1], [2, 3], 5, 258, 0⟩) ⟨A, 1, B, 2, rfl, HI.out, HJ.out⟩ kw).mono ?_
        rintro e x0 ⟨⟨vw, rfl, hv⟩, hb⟩
        have HV := Lib.hid hv
        clear hv c1 c2
        replace K1 := Lib.hid (K1.out.on hb)
        replace K2 := Lib.hid (K2.out.on hb)
        replace HI := Lib.hid (HI.out.on hb)
        replace HJ := Lib.hid (HJ.out.on hb)
        replace HB := Lib.hid (below_on HB.out hb)
        clear hb
        have HG0 := Lib.hid (nats_new x0 [13, 17, 0] 3 rfl #[.int .u64 13, .int .u64 17, .int .u64 0] rfl)
        have hb := below_alloc x0 (.cells #[.int .u64 13, .int .u64 17, .int .u64 0] 27)
        replace HV := Lib.hid (HV.out.below hb)
        replace K1 := Lib.hid (K1.out.on hb)
        replace K2 := Lib.hid (K2.out.on hb)
        replace HI := Lib.hid (HI.out.on hb)
        replace HJ := Lib.hid (HJ.out.on hb)
        replace HB := Lib.hid (below_on HB.out hb)
        clear hb
        go_wp2_with fail
        obtain ⟨ad0, had⟩ : ∃ ad, ad = some (⟨x0.heap.size, 0, none⟩ : Addr) := ⟨_, rfl⟩
        rw [← had] at HG0 ⊢
        clear had
        generalize x0.alloc _ = x1 at HG0 K1 K2 HI HJ HB HV ⊢
        refine (cget_any HG0.out (by decide)).mono ?_
        rintro e x2 ⟨⟨vg0, rfl, hx⟩, hb⟩
        rw [kg0]
        obtain ⟨A8, ca8, B8, cb8, rfl, -, -⟩ := hx
        replace HV := Lib.hid (HV.out.below hb)
        replace K1 := Lib.hid (K1.out.on hb)
        replace K2 := Lib.hid (K2.out.on hb)
        replace HI := Lib.hid (HI.out.on hb)
        replace HJ := Lib.hid (HJ.out.on hb)
        replace HB := Lib.hid (below_on HB.out hb)
        clear hb
        clear HG0
        obtain ⟨cc, hcc⟩ : ∃ c, c = ((cget [13, 17, 0]).getD Cl.zero) := ⟨_, rfl⟩
        rw [← hcc]
        clear hcc
        obtain ⟨o9, a9, b9, x9, y9, z9⟩ := cc
        dsimp only
        generalize a9.length = na9
        generalize b9.length = nb9
        have hb := below_alloc x2 (.cells #[.int .i64 o9, .slice A8 na9 ca8, .slice B8 nb9 cb8, .int .i64 x9, .int .i64 y9, .int .u64 (z9 : Int)] 29)
        replace HV := Lib.hid (HV.out.below hb)
        replace K1 := Lib.hid (K1.out.on hb)
        replace K2 := Lib.hid (K2.out.on hb)
        replace HI := Lib.hid (HI.out.on hb)
        replace HJ := Lib.hid (HJ.out.on hb)
        replace HB := Lib.hid (below_on HB.out hb)
        clear hb
        go_upto_region 12 with fail
        generalize x2.alloc _ = z0 at K1 K2 HI HJ HB HV ⊢
        have HG1 := Lib.hid (nats_new z0 [13, 17, 0, 1] 4 rfl #[.int .u64 13, .int .u64 17, .int .u64 0, .int .u64 1] rfl)
        have hb := below_alloc z0 (.cells #[.int .u64 13, .int .u64 17, .int .u64 0, .int .u64 1] 27)
        replace HV := Lib.hid (HV.out.below hb)
        replace K1 := Lib.hid (K1.out.on hb)
        replace K2 := Lib.hid (K2.out.on hb)
        replace HI := Lib.hid (HI.out.on hb)
        replace HJ := Lib.hid (HJ.out.on hb)
        replace HB := Lib.hid (below_on HB.out hb)
        clear hb
        go_wp2_with fail
        obtain ⟨ad1, had⟩ : ∃ ad, ad = some (⟨z0.heap.size, 0, none⟩ : Addr) := ⟨_, rfl⟩
        rw [← had] at HG1 ⊢
        clear had
        generalize z0.alloc _ = x3 at HG1 K1 K2 HI HJ HB HV ⊢
        refine (cget_any HG1.out (by decide)).mono ?_
        rintro e x4 ⟨⟨vg1, rfl, hx⟩, hb⟩
        rw [kg1]
        obtain ⟨A8, ca8, B8, cb8, rfl, -, -⟩ := hx
        replace HV := Lib.hid (HV.out.below hb)
        replace K1 := Lib.hid (K1.out.on hb)
        replace K2 := Lib.hid (K2.out.on hb)
        replace HI := Lib.hid (HI.out.on hb)
        replace HJ := Lib.hid (HJ.out.on hb)
        replace HB := Lib.hid (below_on HB.out hb)
        clear hb
        clear HG1
        obtain ⟨cc, hcc⟩ : ∃ c, c = ((cget [13, 17, 0, 1]).getD Cl.zero) := ⟨_, rfl⟩
        rw [← hcc]
        clear hcc
        obtain ⟨o9, a9, b9, x9, y9, z9⟩ := cc
        dsimp only
        generalize a9.length = na9
        generalize b9.length = nb9
        have hb := below_alloc x4 (.cells #[.int .i64 o9, .slice A8 na9 ca8, .slice B8 nb9 cb8, .int .i64 x9, .int .i64 y9, .int .u64 (z9 : Int)] 29)
        replace HV := Lib.hid (HV.out.below hb)
        replace K1 := Lib.hid (K1.out.on hb)
        replace K2 := Lib.hid (K2.out.on hb)
        replace HI := Lib.hid (HI.out.on hb)
        replace HJ := Lib.hid (HJ.out.on hb)
        replace HB := Lib.hid (below_on HB.out hb)
        clear hb
        go_upto_region 13 with fail
        generalize x4.alloc _ = z1 at K1 K2 HI HJ HB HV ⊢
        have HG2 := Lib.hid (nats_new z1 [1099511627789, 17, 0, 0] 4 rfl #[.int .u64 1099511627789, .int .u64 17, .int .u64 0, .int .u64 0] rfl)
        have hb := below_alloc z1 (.cells #[.int .u64 1099511627789, .int .u64 17, .int .u64 0, .int .u64 0] 27)
        replace HV := Lib.hid (HV.out.below hb)
        replace K1 := Lib.hid (K1.out.on hb)
        replace K2 := Lib.hid (K2.out.on hb)
        replace HI := Lib.hid (HI.out.on hb)
        replace HJ := Lib.hid (HJ.out.on hb)
        replace HB := Lib.hid (below_on HB.out hb)
        clear hb
        go_wp2_with fail
        obtain ⟨ad2, had⟩ : ∃ ad, ad = some (⟨z1.heap.size, 0, none⟩ : Addr) := ⟨_, rfl⟩
        rw [← had] at HG2 ⊢
        clear had
        generalize z1.alloc _ = x5 at HG2 K1 K2 HI HJ HB HV ⊢
        refine (cget_any HG2.out (by decide)).mono ?_
        rintro e x6 ⟨⟨vg2, rfl, hx⟩, hb⟩
        rw [kg2]
        obtain ⟨A8, ca8, B8, cb8, rfl, -, -⟩ := hx
        replace HV := Lib.hid (HV.out.below hb)
        replace K1 := Lib.hid (K1.out.on hb)
        replace K2 := Lib.hid (K2.out.on hb)
        replace HI := Lib.hid (HI.out.on hb)
        replace HJ := Lib.hid (HJ.out.on hb)
        replace HB := Lib.hid (below_on HB.out hb)
        clear hb
        clear HG2
        obtain ⟨cc, hcc⟩ : ∃ c, c = ((cget [1099511627789, 17, 0, 0]).getD Cl.zero) := ⟨_, rfl⟩
        rw [← hcc]
        clear hcc
        obtain ⟨o9, a9, b9, x9, y9, z9⟩ := cc
        dsimp only
        generalize a9.length = na9
        generalize b9.length = nb9
        have hb := below_alloc x6 (.cells #[.int .i64 o9, .slice A8 na9 ca8, .slice B8 nb9 cb8, .int .i64 x9, .int .i64 y9, .int .u64 (z9 : Int)] 29)
        replace HV := Lib.hid (HV.out.below hb)
        replace K1 := Lib.hid (K1.out.on hb)
        replace K2 := Lib.hid (K2.out.on hb)
        replace HI := Lib.hid (HI.out.on hb)
        replace HJ := Lib.hid (HJ.out.on hb)
        replace HB := Lib.hid (below_on HB.out hb)
        clear hb
        go_upto_region 14 with fail
        generalize x6.alloc _ = z2 at K1 K2 HI HJ HB HV ⊢
        have HG3 := Lib.hid (nats_new z2 [13, 16, 0, 0] 4 rfl #[.int .u64 13, .int .u64 16, .int .u64 0, .int .u64 0] rfl)
        have hb := below_alloc z2 (.cells #[.int .u64 13, .int .u64 16, .int .u64 0, .int .u64 0] 27)
        replace HV := Lib.hid (HV.out.below hb)
        replace K1 := Lib.hid (K1.out.on hb)
        replace K2 := Lib.hid (K2.out.on hb)
        replace HI := Lib.hid (HI.out.on hb)
        replace HJ := Lib.hid (HJ.out.on hb)
        replace HB := Lib.hid (below_on HB.out hb)
        clear hb
        go_wp2_with fail
        obtain ⟨ad3, had⟩ : ∃ ad, ad = some (⟨z2.heap.size, 0, none⟩ : Addr) := ⟨_, rfl⟩
        rw [← had] at HG3 ⊢
        clear had
        generalize z2.alloc _ = x7 at HG3 K1 K2 HI HJ HB HV ⊢
        refine (cget_any HG3.out (by decide)).mono ?_
        rintro e x8 ⟨⟨vg3, rfl, hx⟩, hb⟩
        rw [kg3]
        obtain ⟨A8, ca8, B8, cb8, rfl, -, -⟩ := hx
        replace HV := Lib.hid (HV.out.below hb)
        replace K1 := Lib.hid (K1.out.on hb)
        replace K2 := Lib.hid (K2.out.on hb)
        replace HI := Lib.hid (HI.out.on hb)
        replace HJ := Lib.hid (HJ.out.on hb)
        replace HB := Lib.hid (below_on HB.out hb)
        clear hb
        clear HG3
        obtain ⟨cc, hcc⟩ : ∃ c, c = ((cget [13, 16, 0, 0]).getD Cl.zero) := ⟨_, rfl⟩
        rw [← hcc]
        clear hcc
        obtain ⟨o9, a9, b9, x9, y9, z9⟩ := cc
        dsimp only
        generalize a9.length = na9
        generalize b9.length = nb9
        have hb := below_alloc x8 (.cells #[.int .i64 o9, .slice A8 na9 ca8, .slice B8 nb9 cb8, .int .i64 x9, .int .i64 y9, .int .u64 (z9 : Int)] 29)
        replace HV := Lib.hid (HV.out.below hb)
        replace K1 := Lib.hid (K1.out.on hb)
        replace K2 := Lib.hid (K2.out.on hb)
        replace HI := Lib.hid (HI.out.on hb)
        replace HJ := Lib.hid (HJ.out.on hb)
        replace HB := Lib.hid (below_on HB.out hb)
        clear hb
        go_upto_region 15 with fail
        generalize x8.alloc _ = z3 at K1 K2 HI HJ HB HV ⊢
        have HG9 := Lib.hid (nats_new z3 [4328523011, 17, 802, 0] 4 rfl #[.int .u64 4328523011, .int .u64 17, .int .u64 802, .int .u64 0] rfl)
        have hb := below_alloc z3 (.cells #[.int .u64 4328523011, .int .u64 17, .int .u64 802, .int .u64 0] 27)
        replace HV := Lib.hid (HV.out.below hb)
        replace K1 := Lib.hid (K1.out.on hb)
        replace K2 := Lib.hid (K2.out.on hb)
        replace HI := Lib.hid (HI.out.on hb)
        replace HJ := Lib.hid (HJ.out.on hb)
        replace HB := Lib.hid (below_on HB.out hb)
        clear hb
        go_wp2_with fail
        obtain ⟨ad9, had⟩ : ∃ ad, ad = some (⟨z3.heap.size, 0, none⟩ : Addr) := ⟨_, rfl⟩
        rw [← had] at HG9 ⊢
        clear had
        generalize z3.alloc _ = y0 at HG9 K1 K2 HI HJ HB HV ⊢
        refine (words_eq HV.out HG9.out (by decide) (decide_eq_true rfl)).mono ?_
        rintro e y1 ⟨rfl, hb⟩
        clear HV HG9
        replace K1 := Lib.hid (K1.out.on hb)
        replace K2 := Lib.hid (K2.out.on hb)
        replace HI := Lib.hid (HI.out.on hb)
        replace HJ := Lib.hid (HJ.out.on hb)
        replace HB := Lib.hid (below_on HB.out hb)
        clear hb
        have c1 := K1.out.c 0 _ rfl
        have c2 := K2.out.c 0 _ rfl
        go_wp2_with fail
        refine (text_of (c := ⟨1, [1], [2, 3], 2, 3, 0⟩) (HT.out.on HB.out) ⟨A, 1, B, 2, rfl, HI.out, HJ.out⟩ (by decide) kt0).mono ?_
        rintro e y2 ⟨rfl, hb⟩
        clear c1 c2
        replace K1 := Lib.hid (K1.out.on hb)
        replace K2 := Lib.hid (K2.out.on hb)
        replace HI := Lib.hid (HI.out.on hb)
        replace HJ := Lib.hid (HJ.out.on hb)
        replace HB := Lib.hid (below_on HB.out hb)
        clear hb
        have c1 := K1.out.c 0 _ rfl
        have c2 := K2.out.c 0 _ rfl
        go_wp2_with fail
        refine (text_of (c := ⟨7, [1], [], 0, 0, 18446744073709551615⟩) (HT.out.on HB.out) ⟨A, 1, none, 0, rfl, HI.out, ints_none _⟩ (by decide) kt1).mono ?_
        rintro e y3 ⟨rfl, hb⟩
        clear c1 c2
        replace K1 := Lib.hid (K1.out.on hb)
        replace K2 := Lib.hid (K2.out.on hb)
        replace HI := Lib.hid (HI.out.on hb)
        replace HJ := Lib.hid (HJ.out.on hb)
        replace HB := Lib.hid (below_on HB.out hb)
        clear hb
        have c1 := K1.out.c 0 _ rfl
        have c2 := K2.out.c 0 _ rfl
        go_wp2_with fail
        refine (text_of (c := ⟨8, [1], [2, 3], 0, 0, 0⟩) (HT.out.on HB.out) ⟨A, 1, B, 2, rfl, HI.out, HJ.out⟩ (by decide) kt2).mono ?_
        rintro e y4 ⟨rfl, hb⟩
        clear c1 c2
        replace K1 := Lib.hid (K1.out.on hb)
        replace K2 := Lib.hid (K2.out.on hb)
        replace HI := Lib.hid (HI.out.on hb)
        replace HJ := Lib.hid (HJ.out.on hb)
        replace HB := Lib.hid (below_on HB.out hb)
        clear hb
        have c1 := K1.out.c 0 _ rfl
        have c2 := K2.out.c 0 _ rfl
        go_wp2_with fail
        refine (text_of (c := ⟨11, [2, 3], [], 3, 0, 7⟩) (HT.out.on HB.out) ⟨B, 2, none, 0, rfl, HJ.out, ints_none _⟩ (by decide) kt3).mono ?_
        rintro e y5 ⟨rfl, hb⟩
        clear c1 c2
        replace K1 := Lib.hid (K1.out.on hb)
        replace K2 := Lib.hid (K2.out.on hb)
        replace HI := Lib.hid (HI.out.on hb)
        replace HJ := Lib.hid (HJ.out.on hb)
        replace HB := Lib.hid (below_on HB.out hb)
        clear hb
        have c1 := K1.out.c 0 _ rfl
        have c2 := K2.out.c 0 _ rfl
        go_wp2_with fail
        refine (text_of (c := ⟨2, [1], [2, 3], 1, 0, 0⟩) (HT.out.on HB.out) ⟨A, 1, B, 2, rfl, HI.out, HJ.out⟩ (by decide) kt4).mono ?_
        rintro e y6 ⟨rfl, hb⟩
        clear c1 c2
        replace K1 := Lib.hid (K1.out.on hb)
        replace K2 := Lib.hid (K2.out.on hb)
        replace HI := Lib.hid (HI.out.on hb)
        replace HJ := Lib.hid (HJ.out.on hb)
        replace HB := Lib.hid (below_on HB.out hb)
        clear hb
        have c1 := K1.out.c 0 _ rfl
        have c2 := K2.out.c 0 _ rfl
        go_wp2_with fail
        refine (text_of (c := ⟨6, [2, 3], [], 0, 0, 0⟩) (HT.out.on HB.out) ⟨B, 2, none, 0, rfl, HJ.out, ints_none _⟩ (by decide) kt5).mono ?_
        rintro e y7 ⟨rfl, hb⟩
        clear c1 c2
        replace K1 := Lib.hid (K1.out.on hb)
        replace K2 := Lib.hid (K2.out.on hb)
        replace HI := Lib.hid (HI.out.on hb)
        replace HJ := Lib.hid (HJ.out.on hb)
        replace HB := Lib.hid (below_on HB.out hb)
        clear hb
        go_wp2
        go_ret
        exact ⟨rfl, HB.out⟩
end Go.Proofs.YtfcifheejjppfaaDoor
