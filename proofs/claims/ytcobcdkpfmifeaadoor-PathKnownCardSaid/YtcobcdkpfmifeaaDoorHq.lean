/-
  The walk of the law PathKnown. Condition: the library's own number is there.
-/
import Derived.Test.YtcobcdkpfmifeaaDoorHk
namespace Go.Proofs.YtcobcdkpfmifeaaDoor
open Go.RowKit

/-- the texts that are none -/
def badTexts : List ByteArray := [⟨#[]⟩, ⟨#[46]⟩, ⟨#[49, 46]⟩, ⟨#[46, 49]⟩, ⟨#[49, 54]⟩, ⟨#[48, 49]⟩, ⟨#[49, 46, 50, 46, 51, 46, 52]⟩, ⟨#[45, 49]⟩, ⟨#[49, 46, 46, 50]⟩, ⟨#[97]⟩, ⟨#[49, 46, 48, 49, 54]⟩]
/-- the words that are none -/
def badWords : List Nat := [0, 257, 4, 15, 65539, 9223372036854775808]
theorem bad_texts : ∀ s ∈ badTexts, pparse s.data.toList = none ∧ s.size < 100 := by decide +kernel
theorem bad_words : ∀ z ∈ badWords, pget z = none ∧ z < 18446744073709551616 := by decide +kernel
theorem bad_text_at {i : Nat} {s : ByteArray} (h : badTexts[i]? = some s) : pparse s.data.toList = none ∧ s.size < 100 := bad_texts s (List.mem_of_getElem? h)
theorem bad_word_at {i z : Nat} (h : badWords[i]? = some z) : pget z = none ∧ z < 18446744073709551616 := bad_words z (List.mem_of_getElem? h)
theorem lit_cells (w : World) (cs : Array Value) (t : TypeId) {j : Nat} {v : Value} (h : cs[j]? = some v) : (w.alloc (.cells cs t)).cell? ⟨w.heap.size, j, none⟩ = some v := by
  rw [cell_of_row _ _ _ _ _ _ (heap_alloc_new w _), h]

theorem two_lits (v : World) (l m : List Int) (cs ds : Array Value) (hc : cs = (icells l).toArray) (hd : ds = (icells m).toArray) :
    IntsAt ((v.alloc (.cells cs 3)).alloc (.cells ds 3)) ((v.alloc (.cells cs 3)).alloc (.cells ds 3)).heap.size (some ⟨v.heap.size, 0, none⟩) l ∧
    IntsAt ((v.alloc (.cells cs 3)).alloc (.cells ds 3)) ((v.alloc (.cells cs 3)).alloc (.cells ds 3)).heap.size (some ⟨v.heap.size + 1, 0, none⟩) m ∧ Below v.heap.size v ((v.alloc (.cells cs 3)).alloc (.cells ds 3)) := by
  have h1 := (lit_ints v l 3 cs hc).on (below_alloc _ (.cells ds 3))
  have h2 := lit_ints (v.alloc (.cells cs 3)) m 3 ds hd
  have hs : (v.alloc (.cells cs 3)).heap.size = v.heap.size + 1 := by simp
  rw [hs] at h2
  exact ⟨h1, h2, below_on (below_alloc _ _) (below_alloc _ _)⟩
theorem none_at (w : World) : IntsAt w w.heap.size none [] := fun h => absurd h (by simp)
def KRel (W : World) (n : Nat) (k : Nat) (p : Value) (wr : World) : Prop := ∃ i : Nat, k + i = n ∧ p = .int .i64 i ∧ Below W.heap.size W wr

set_option maxHeartbeats 4000000 in
theorem known_walk (w : World) (hG : Glo w) : Calls Tryd.prog 3 #[] w fun e w' => e = .returned (.bool true) ∧ Below w.heap.size w w' := by
  have HGL := Lib.hid hG
  clear hG
  go_enter Tryd.func3, Tryd.ntmps3
  go_wp2_with fail
  refine (awake_any w).mono ?_
  rintro e w1 ⟨rfl, hb1⟩
  have HB1 := Lib.hid hb1
  clear hb1
  have hT : ∀ j s, badTexts[j]? = some s → (w1.alloc (.cells #[.string ⟨#[]⟩, .string ⟨#[46]⟩, .string ⟨#[49, 46]⟩, .string ⟨#[46, 49]⟩, .string ⟨#[49, 54]⟩, .string ⟨#[48, 49]⟩, .string ⟨#[49, 46, 50, 46, 51, 46, 52]⟩, .string ⟨#[45, 49]⟩, .string ⟨#[49, 46, 46, 50]⟩, .string ⟨#[97]⟩, .string ⟨#[49, 46, 48, 49, 54]⟩] 9)).cell? ⟨w1.heap.size, j, none⟩ = some (.string s) := fun j s h =>
    lit_cells w1 (badTexts.map Value.string).toArray 9 (by rw [List.getElem?_toArray, List.getElem?_map, h]; rfl)
  have hO := below_on HB1.out (below_alloc w1 (.cells #[.string ⟨#[]⟩, .string ⟨#[46]⟩, .string ⟨#[49, 46]⟩, .string ⟨#[46, 49]⟩, .string ⟨#[49, 54]⟩, .string ⟨#[48, 49]⟩, .string ⟨#[49, 46, 50, 46, 51, 46, 52]⟩, .string ⟨#[45, 49]⟩, .string ⟨#[49, 46, 46, 50]⟩, .string ⟨#[97]⟩, .string ⟨#[49, 46, 48, 49, 54]⟩] 9))
  have hP : w1.heap.size < (w1.alloc (.cells #[.string ⟨#[]⟩, .string ⟨#[46]⟩, .string ⟨#[49, 46]⟩, .string ⟨#[46, 49]⟩, .string ⟨#[49, 54]⟩, .string ⟨#[48, 49]⟩, .string ⟨#[49, 46, 50, 46, 51, 46, 52]⟩, .string ⟨#[45, 49]⟩, .string ⟨#[49, 46, 46, 50]⟩, .string ⟨#[97]⟩, .string ⟨#[49, 46, 48, 49, 54]⟩] 9)).heap.size := by simp
  go_wp2_with fail
  generalize (w1.alloc (.cells #[.string ⟨#[]⟩, .string ⟨#[46]⟩, .string ⟨#[49, 46]⟩, .string ⟨#[46, 49]⟩, .string ⟨#[49, 54]⟩, .string ⟨#[48, 49]⟩, .string ⟨#[49, 46, 50, 46, 51, 46, 52]⟩, .string ⟨#[45, 49]⟩, .string ⟨#[49, 46, 46, 50]⟩, .string ⟨#[97]⟩, .string ⟨#[49, 46, 48, 49, 54]⟩] 9)) = w2 at hT hO hP ⊢
  obtain ⟨P, hP2⟩ : ∃ P, P = w1.heap.size := ⟨_, rfl⟩
  rw [← hP2] at hT hP ⊢
  have HTX := Lib.hid hT
  have HO := Lib.hid hO
  have HP := Lib.hid hP
  clear hT hO hP hP2 HB1
  go_loopg [2] 11 (fun k p wr => KRel w2 11 k p wr)
  case atStart => exact ⟨0, by omega, rfl, below_self _⟩
  case round =>
    obtain ⟨i, hk, rfl, hb⟩ := hrel
    have HK := Lib.hid hk
    have HB := Lib.hid hb
    clear hk hb
    by_cases hlt : i < 11
    · have HLT := Lib.hid hlt
      have hlt2 : (i : Int) < 11 := by omega
      obtain ⟨s, hs⟩ : ∃ s, badTexts[i]? = some s := ⟨badTexts[i]'hlt, List.getElem?_eq_getElem _⟩
      have HS := Lib.hid (bad_text_at hs)
      have c1 : wr.cell? ⟨P, i, none⟩ = some (.string s) := by rw [HB.out.cell (p := ⟨P, i, none⟩) HP.out]; exact HTX.out i s hs
      clear hs
      go_wp2_with fail
      refine (parse_not (by have := HS.out.2; omega) HS.out.1 ((HGL.out.on HO.out).on HB.out)).mono ?_
      rintro e w3 ⟨C, cc, rfl, hb⟩
      have HB3 := Lib.hid (below_on HB.out (below_on hb (below_alloc w3 (.cells #[.slice C 0 cc] 26))))
      have c2 := (Bx.new w3 (.slice C 0 cc) 26).c
      clear hb c1
      go_wp2
      go_roundg (11 - (i + 1))
      case measure => have := HK.out; have := HLT.out; omega
      case rel => exact ⟨i + 1, by have := HLT.out; omega, by go_num, HB3.out⟩
    · have hlt2 : ¬ (i : Int) < 11 := by omega
      have HO3 := Lib.hid (below_on HO.out HB.out)
      have hW : ∀ (j z : Nat), badWords[j]? = some z → (wr.alloc (.cells #[.int .u64 0, .int .u64 257, .int .u64 4, .int .u64 15, .int .u64 65539, .int .u64 9223372036854775808] 29)).cell? ⟨wr.heap.size, j, none⟩ = some (.int .u64 (z : Int)) := fun j z h =>
        lit_cells wr (badWords.map fun z : Nat => Value.int .u64 (z : Int)).toArray 29 (by rw [List.getElem?_toArray, List.getElem?_map, h]; rfl)
      have hO := below_on HO3.out (below_alloc wr (.cells #[.int .u64 0, .int .u64 257, .int .u64 4, .int .u64 15, .int .u64 65539, .int .u64 9223372036854775808] 29))
      have hP : wr.heap.size < (wr.alloc (.cells #[.int .u64 0, .int .u64 257, .int .u64 4, .int .u64 15, .int .u64 65539, .int .u64 9223372036854775808] 29)).heap.size := by simp
      clear HTX HO HP HB HO3
      go_wp2_with fail
      generalize (wr.alloc (.cells #[.int .u64 0, .int .u64 257, .int .u64 4, .int .u64 15, .int .u64 65539, .int .u64 9223372036854775808] 29)) = w4 at hW hO hP ⊢
      obtain ⟨Q, hQ2⟩ : ∃ P, P = wr.heap.size := ⟨_, rfl⟩
      rw [← hQ2] at hW hP ⊢
      have HWX := Lib.hid hW
      have HO := Lib.hid hO
      have HP := Lib.hid hP
      clear hW hO hP hQ2 hlt HK
      go_loopg [6] 6 (fun k p wr => KRel w4 6 k p wr)
      case atStart => exact ⟨0, by omega, rfl, below_self _⟩
      case round =>
        obtain ⟨i, hk, rfl, hb⟩ := hrel
        have HK := Lib.hid hk
        have HB := Lib.hid hb
        clear hk hb
        by_cases hlt : i < 6
        · have HLT := Lib.hid hlt
          have hlt2 : (i : Int) < 6 := by omega
          obtain ⟨z, hz⟩ : ∃ z, badWords[i]? = some z := ⟨badWords[i]'hlt, List.getElem?_eq_getElem _⟩
          have HS := Lib.hid (bad_word_at hz)
          have c1 : wr.cell? ⟨Q, i, none⟩ = some (.int .u64 (z : Int)) := by rw [HB.out.cell (p := ⟨Q, i, none⟩) HP.out]; exact HWX.out i z hz
          clear hz
          go_wp2_with fail
          refine (get_not HS.out.2 HS.out.1 wr).mono ?_
          rintro e w3 ⟨C, cc, rfl, hb⟩
          have HB3 := Lib.hid (below_on HB.out (below_on hb (below_alloc w3 (.cells #[.slice C 0 cc] 26))))
          have c2 := (Bx.new w3 (.slice C 0 cc) 26).c
          clear hb c1
          go_wp2
          go_roundg (6 - (i + 1))
          case measure => have := HK.out; have := HLT.out; omega
          case rel => exact ⟨i + 1, by have := HLT.out; omega, by go_num, HB3.out⟩
        · have hlt2 : ¬ (i : Int) < 6 := by omega
          have HO3 := Lib.hid (below_on HO.out HB.out)
          have hl := lit_ints wr [16] 3 #[.int .i64 16] rfl
          have ho := below_on HO3.out (below_alloc wr (.cells #[.int .i64 16] 3))
          clear HWX HO HP HB HK hlt HO3
          go_wp2_with fail
          generalize wr.alloc (.cells #[.int .i64 16] 3) = v1 at hl ho ⊢
          refine (word_no (w := v1) (show 1 = [(16 : Int)].length from rfl) hl (by decide)).mono ?_
          rintro e v2 ⟨rfl, hb⟩
          have HO4 := Lib.hid (below_on ho hb)
          clear hl ho hb
          go_wp2_with fail
          refine (get_is (z := 61443) (l := [0, 0, 15]) (n := 3) (by decide) (by decide +kernel) rfl v2).mono ?_
          rintro e v3 ⟨C, cc, rfl, hi, hb⟩
          have ho := below_on HO4.out (below_on hb (below_alloc v3 (.cells #[.slice C 3 cc] 26)))
          have hj := hi.on (below_alloc v3 (.cells #[.slice C 3 cc] 26))
          have hk := (Bx.new v3 (.slice C 3 cc) 26).c
          clear hi hb HO4
          go_wp2_with fail
          have hs : (v3.alloc (.cells #[.slice C 3 cc] 26)).heap.size = v3.heap.size + 1 := by simp
          generalize v3.alloc (.cells #[.slice C 3 cc] 26) = v4 at ho hj hk hs ⊢
          have hl := lit_ints v4 [0, 0, 15] 3 #[.int .i64 0, .int .i64 0, .int .i64 15] rfl
          have hj2 := hj.on (below_alloc v4 (.cells #[.int .i64 0, .int .i64 0, .int .i64 15] 3))
          have ho2 := below_on ho (below_alloc v4 (.cells #[.int .i64 0, .int .i64 0, .int .i64 15] 3))
          rw [hs] at hl
          clear hs hj ho hk
          generalize v4.alloc (.cells #[.int .i64 0, .int .i64 0, .int .i64 15] 3) = v5 at hl hj2 ho2 ⊢
          refine (ints_is (w := v5) (l := [0, 0, 15]) (m := [0, 0, 15]) rfl rfl (by decide) hj2 hl (same_ints _)).mono ?_
          rintro e v6 ⟨rfl, hb⟩
          have HO5 := Lib.hid (below_on ho2 hb)
          clear hl hj2 ho2 hb
          go_wp2_with fail
          refine (text_is (w := v6) (l := []) (s := ⟨#[]⟩) rfl (none_at v6) rfl).mono ?_
          rintro e v7 ⟨rfl, hb⟩
          have HO6 := Lib.hid (below_on HO5.out hb)
          obtain ⟨t1, t2, t3⟩ := two_lits v7 [1, 2] [1] #[.int .i64 1, .int .i64 2] #[.int .i64 1] rfl rfl
          clear HO5 hb
          go_wp2_with fail
          generalize (v7.alloc (.cells #[.int .i64 1, .int .i64 2] 3)).alloc (.cells #[.int .i64 1] 3) = v8 at t1 t2 t3 ⊢
          refine (begins_is (w := v8) (x := true) (l := [1, 2]) (m := [1]) rfl rfl (by decide) (by decide) t1 t2 (by decide)).mono ?_
          rintro e v9 ⟨rfl, hb⟩
          have HO7 := Lib.hid (below_on HO6.out (below_on t3 hb))
          clear HO6 hb t1 t2 t3
          go_wp2_with fail
          refine (begins_is (w := v9) (x := true) (l := []) (m := []) rfl rfl (by decide) (by decide) (none_at v9) (none_at v9) (by decide)).mono ?_
          rintro e v10 ⟨rfl, hb⟩
          have HO8 := Lib.hid (below_on HO7.out hb)
          obtain ⟨t1, t2, t3⟩ := two_lits v10 [1] [1, 2] #[.int .i64 1] #[.int .i64 1, .int .i64 2] rfl rfl
          clear HO7 hb
          go_wp2_with fail
          generalize (v10.alloc (.cells #[.int .i64 1] 3)).alloc (.cells #[.int .i64 1, .int .i64 2] 3) = v11 at t1 t2 t3 ⊢
          refine (begins_is (w := v11) (x := false) (l := [1]) (m := [1, 2]) rfl rfl (by decide) (by decide) t1 t2 (by decide)).mono ?_
          rintro e v12 ⟨rfl, hb⟩
          have HO9 := Lib.hid (below_on HO8.out (below_on t3 hb))
          obtain ⟨t1, t2, t3⟩ := two_lits v12 [99] [99] #[.int .i64 99] #[.int .i64 99] rfl rfl
          clear HO8 hb
          go_wp2_with fail
          generalize (v12.alloc (.cells #[.int .i64 99] 3)).alloc (.cells #[.int .i64 99] 3) = v13 at t1 t2 t3 ⊢
          refine (begins_is (w := v13) (x := true) (l := [99]) (m := [99]) rfl rfl (by decide) (by decide) t1 t2 (by decide)).mono ?_
          rintro e v14 ⟨rfl, hb⟩
          have HO10 := Lib.hid (below_on HO9.out (below_on t3 hb))
          clear HO9 hb t1 t2 t3
          go_wp2
          go_ret
          exact ⟨rfl, HO10.out⟩
end Go.Proofs.YtcobcdkpfmifeaaDoor
