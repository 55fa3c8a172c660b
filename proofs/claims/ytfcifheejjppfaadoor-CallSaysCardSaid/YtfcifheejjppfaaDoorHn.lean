/-
  The walks of the reference's Num below 16 and PathText. Condition: the steps lie in memory, at most a million.
-/
import Derived.Test.YtfcifheejjppfaaDoorHm
import Derived.Laws.IdiomStrings
namespace Go.Proofs.YtfcifheejjppfaaDoor
open Go.RowKit

/-- one byte in memory, as a text -/
theorem conv_one {w : World} {g x : Nat} (hx : x < 256) (h : w.cell? ⟨g, 0, none⟩ = some (.int .u8 (x : Int))) : (convert 76 9 (.slice (some ⟨g, 0, none⟩) 1 1)).run Tryd.prog w = .ok (.string ⟨#[UInt8.ofNat x]⟩) w := by
  have := run_convert_bytes_back (P := Tryd.prog) w 76 9 5 ⟨g, 0, none⟩ 1 [UInt8.ofNat x] Tryd.underlying76 Tryd.underlying5 Tryd.underlying9 (fun j hj => by
    obtain rfl : j = 0 := by simpa using hj
    have e : (UInt8.ofNat x).toNat = x := by simp; omega
    simp only [List.getElem_cons_zero, e]
    exact h)
  exact this
theorem u8_in {z : Int} (h1 : 0 ≤ z) (h2 : z < 256) : IntKind.u8.wrap z = z := by
  unfold IntKind.wrap
  simp only [show IntKind.u8.signed = false from rfl, show IntKind.u8.bits = 8 from rfl, Bool.false_and, Bool.false_eq_true, if_false]
  omega
theorem one_cell (w : World) (x : Int) : (w.alloc (.cells #[.int .u8 x] 5)).cell? ⟨w.heap.size, 0, none⟩ = some (.int .u8 x) := by
  rw [cell_of_row _ _ 0 _ _ _ (heap_alloc_new w _)]
  rfl

theorem pnum_one {n : Nat} {s : ByteArray} (hn : n < 10) (hs : decB n = s) (w : World) : Calls Tryd.prog 38 #[.int .i64 (n : Int)] w fun e w' => e = .returned (.string s) ∧ Below w.heap.size w w' := by
  have h1 : ¬ (n : Int) < 0 := by omega
  have h2 : (n : Int) < 10 := by omega
  have h3 : wrap64 (48 + (n : Int)) = 48 + (n : Int) := by unfold wrap64; omega
  have h4 : IntKind.u8.wrap (48 + (n : Int)) = 48 + (n : Int) := u8_in (by omega) (by omega)
  have hc : (convert 76 9 (.slice (some ⟨w.heap.size, 0, none⟩) 1 1)).run Tryd.prog (w.alloc (.cells #[.int .u8 (48 + (n : Int))] 5)) = .ok (.string s) (w.alloc (.cells #[.int .u8 (48 + (n : Int))] 5)) := by
    have := conv_one (w := w.alloc (.cells #[.int .u8 (48 + (n : Int))] 5)) (g := w.heap.size) (x := 48 + n) (by omega) (by rw [one_cell]; simp)
    rw [this, ← hs, decB, pdec, if_pos hn]
  clear hn hs
  go_enter Tryd.func38, Tryd.ntmps38
  go_wp2
  go_ret
  exact ⟨rfl, below_alloc _ _⟩

theorem tdiv_nat (n : Nat) : (n : Int).tdiv 10 = ((n / 10 : Nat) : Int) := by
  rw [Int.tdiv_eq_ediv_of_nonneg (by omega)]
  exact (Int.natCast_ediv n 10).symm
theorem tmod_nat (n : Nat) : (n : Int).tmod 10 = ((n % 10 : Nat) : Int) := by
  rw [Int.tmod_eq_emod_of_nonneg (by omega)]
  exact (Int.natCast_emod n 10).symm
theorem small_sum {z : Nat} (h : z ≤ 20) : ¬ 9223372036854775807 < z + 1 := by omega
theorem dig_in {r : Nat} (h : r < 10) : IntKind.i64.wrap (48 + (r : Int)) = 48 + (r : Int) ∧ IntKind.u8.wrap (48 + (r : Int)) = 48 + (r : Int) ∧ 48 + r < 256 := ⟨i64_in (by omega) (by omega), u8_in (by omega) (by omega), by omega⟩
theorem wrap_nat {n : Nat} (h : n < 65536) : wrap64 (n : Int) = n := by unfold wrap64; omega
theorem k_in {k : Nat} (h : k < 65536) : IntKind.i64.wrap (k : Int) = k ∧ wrap64 (k : Int) = k := ⟨i64_in (by omega) (by omega), wrap_nat h⟩
theorem keep_cell {w w' : World} {x : Int} (hb : Below (w.alloc (.cells #[.int .u8 x] 5)).drew.heap.size (w.alloc (.cells #[.int .u8 x] 5)).drew w') : w'.cell? ⟨w.heap.size, 0, none⟩ = some (.int .u8 x) := by
  rw [hb.cell (p := ⟨w.heap.size, 0, none⟩) (by show w.heap.size < (w.alloc (.cells #[.int .u8 x] 5)).heap.size; simp)]
  exact one_cell w x

set_option maxHeartbeats 4000000 in
theorem pnum_more {n k r : Nat} {s b u : ByteArray} (h10 : 10 ≤ n) (hk : n / 10 = k) (hk2 : k < 65536) (hr : n % 10 = r) (hr2 : r < 10) (hb : (⟨#[UInt8.ofNat (48 + r)]⟩ : ByteArray) = b) (hs : s ++ b = u) (hz : s.size ≤ 20) (w : World)
    (H : ∀ w, Calls Tryd.prog 38 #[.int .i64 (k : Int)] w fun e w' => e = .returned (.string s) ∧ Below w.heap.size w w') :
    Calls Tryd.prog 38 #[.int .i64 (n : Int)] w fun e w' => e = .returned (.string u) ∧ Below w.heap.size w w' := by
  have h1 : ¬ (n : Int) < 0 := by omega
  have h2 : ¬ (n : Int) < 10 := by omega
  have hq : (n : Int) / 10 = (k : Int) := by rw [← hk]; exact (Int.natCast_ediv n 10).symm
  have hm : (n : Int) % 10 = (r : Int) := by rw [← hr]; exact (Int.natCast_emod n 10).symm
  have hm2 : (n : Int).tmod 10 = (r : Int) := by rw [← hr]; exact tmod_nat n
  have hq2 : (n : Int).tdiv 10 = (k : Int) := by rw [← hk]; exact tdiv_nat n
  obtain ⟨h3, h4, h5⟩ := dig_in hr2
  obtain ⟨h6, h7⟩ := k_in hk2
  have hsz : ¬ 9223372036854775807 < s.size + b.size := by rw [← hb]; exact small_sum hz
  have hcv : ∀ (w : World) (g : Nat), w.cell? ⟨g, 0, none⟩ = some (.int .u8 (48 + (r : Int))) → (convert 76 9 (.slice (some ⟨g, 0, none⟩) 1 1)).run Tryd.prog w = .ok (.string b) w := fun w g h => by
    rw [← hb]
    exact conv_one h5 (by rw [h]; simp)
  have HH := Lib.hid H
  have HS := Lib.hid hs
  have HB := Lib.hid (below_self w)
  clear H hs h10 hk hk2 hr hr2 hz hb h5
  go_enter Tryd.func38, Tryd.ntmps38
  go_wp2_with fail
  go_region_with (go_at_call 38; ((with_reducible refine (HH.out _).mono ?_); rintro e w' ⟨rfl, hb⟩; first | (have hcell := keep_cell hb) | skip))
  all_goals go_wp2
  all_goals go_ret
  all_goals refine ⟨by rw [← HS.out]; rfl, ?_⟩
  all_goals first | exact below_on (below_on (below_self w).drew hb) (below_alloc _ _) | exact below_on (below_alloc w _).drew hb
theorem pnum_any {n : Nat} (hn : n < 16) (w : World) : Calls Tryd.prog 38 #[.int .i64 (n : Int)] w fun e w' => e = .returned (.string (decB n)) ∧ Below w.heap.size w w' := by
  by_cases h : n < 10
  · exact pnum_one h rfl w
  · refine pnum_more (k := 1) (r := n - 10) (s := decB 1) (by omega) (by omega) (by decide) (by omega) (by omega) rfl ?_ (by decide) w (fun w => pnum_one (by decide) rfl w)
    rw [decB, decB, pdec, pdec, if_pos (by decide), if_neg h, show 48 + (n - 10) = 38 + n by omega]
    rfl

/-- the text of the first steps -/
def ptake (l : List Int) (i : Nat) : List UInt8 := Lib.join ((l.take i).map fun z => pdec z.toNat) [46]
theorem ptake_first {l : List Int} {n : Nat} (h : l[0]? = some (n : Int)) : ptake l 1 = pdec n := by
  cases l with
  | nil => simp at h
  | cons z r =>
    simp at h
    subst h
    rw [ptake, List.take_succ_cons, List.take_zero, List.map_cons, List.map_nil, Lib.join_one, Int.toNat_natCast]
theorem ptake_succ {l : List Int} {i n : Nat} (hi : 0 < i) (h : l[i]? = some (n : Int)) : ptake l (i + 1) = ptake l i ++ [46] ++ pdec n := by
  have e : l.take (i + 1) = l.take i ++ [(n : Int)] := by rw [List.take_add_one, h]; rfl
  have hil : i < l.length := (List.getElem?_eq_some_iff.1 h).1
  rw [ptake, ptake, e]
  cases hl : l.take i with
  | nil =>
    have := congrArg List.length hl
    rw [List.length_take, List.length_nil] at this
    omega
  | cons z r =>
    rw [List.cons_append, List.map_cons, List.map_cons, Lib.join_cons, Lib.join_cons, List.map_append, Lib.joinTail, List.map_append, List.flatten_append, ← Lib.joinTail]
    simp
theorem ptake_le {l : List Int} (h : pgood l = true) (i : Nat) : (ptake l i).length ≤ 8 := by
  by_cases h0 : i = 0
  · subst h0
    simp [ptake, Lib.join_nil]
  · have hg : pgood (l.take i) = true := by
      have := pgood_iff.1 h
      refine pgood_iff.2 ⟨by rw [List.length_take]; omega, by rw [List.length_take]; omega, fun z hz => this.2.2 z (List.mem_of_mem_take hz)⟩
    have := ptext_length hg
    rwa [ptext, if_pos hg] at this

def RTextRel (W : World) (n : Nat) (l : List Int) (k : Nat) (p q : Value) (wr : World) : Prop :=
  ∃ (i : Nat) (s : ByteArray), k + i = n ∧ p = .string s ∧ s.data.toList = ptake l i ∧ q = .int .i64 i ∧ Below W.heap.size W wr
theorem rtext_no {A : Option Addr} {n cap : Nat} {l : List Int} {w : World} (hn : n = l.length) (hl : n ≤ 1000000) (hL : IntsAt w w.heap.size A l) (hg : pgood l = false) :
    Calls Tryd.prog 37 #[.slice A n cap] w fun e w' => e = .returned (.string ⟨#[]⟩) ∧ Below w.heap.size w w' := by
  have HN := Lib.hid hn
  have H6 := Lib.hid hl
  have HG := Lib.hid hg
  have HL := Lib.hid hL
  clear hn hg hL hl
  go_enter Tryd.func37, Tryd.ntmps37
  go_wp2_with fail
  refine (rgood_is HN.out H6.out HL.out HG.out).mono ?_
  rintro e w2 ⟨rfl, hb⟩
  have HB := Lib.hid hb
  clear hb
  go_wp2
  go_ret
  exact ⟨rfl, HB.out⟩
set_option maxHeartbeats 2000000 in
theorem rtext_yes {A : Option Addr} {n cap : Nat} {l : List Int} {w : World} (hn : n = l.length) (hL : IntsAt w w.heap.size A l) (hg : pgood l = true) :
    Calls Tryd.prog 37 #[.slice A n cap] w fun e w' => ∃ s : ByteArray, e = .returned (.string s) ∧ s.data.toList = ptext l ∧ Below w.heap.size w w' := by
  have h3 : n ≤ 3 := hn ▸ (pgood_len hg).2
  have HN := Lib.hid hn
  have HG := Lib.hid hg
  have HL := Lib.hid hL
  have H3 := Lib.hid h3
  clear hn hg hL h3
  go_enter Tryd.func37, Tryd.ntmps37
  go_wp2_with fail
  refine (rgood_is HN.out (by have := H3.out; omega) HL.out HG.out).mono ?_
  rintro e w2 ⟨rfl, hb⟩
  have HB0 := Lib.hid hb
  clear hb
  go_wp2_with fail
  go_loopg [3, 4] n (fun k p q wr => RTextRel w n l k p q wr)
  case atStart => exact ⟨0, _, by omega, rfl, rfl, rfl, HB0.out⟩
  case round =>
    obtain ⟨i, s, hk, rfl, hs, rfl, hb⟩ := hrel
    have HK := Lib.hid hk
    have HB := Lib.hid hb
    have HS := Lib.hid hs
    have hsz : s.size ≤ 8 := by
      have := ptake_le HG.out i
      rw [← hs] at this
      exact this
    clear hk hb hs
    by_cases hlt : i < n
    · have HLT := Lib.hid hlt
      have hlt2 : (i : Int) < (n : Int) := by omega
      obtain ⟨b, o, rfl, hblk, hc⟩ := HL.out (by rw [← HN.out]; omega)
      obtain ⟨z, hz⟩ : ∃ z, l[i]? = some z := ⟨l[i]'(by rw [← HN.out]; exact hlt), List.getElem?_eq_getElem _⟩
      obtain ⟨m, rfl, hm⟩ := pgood_at HG.out hz
      have HZ := Lib.hid hz
      have HM := Lib.hid hm
      have c1 := hc i _ hz
      rw [← HB.out.cell (p := ⟨b, _, none⟩) hblk] at c1
      have l1 : ¬ 9223372036854775807 < s.size + 1 := by omega
      have l2 : ¬ 9223372036854775807 < s.size + (decB m).size := by
        have : (decB m).size ≤ 2 := (dec_length m hm).2
        omega
      have l3 : ¬ 9223372036854775807 < s.size + 1 + (decB m).size := by
        have : (decB m).size ≤ 2 := (dec_length m hm).2
        omega
      clear hc hblk hz hm hsz
      by_cases h0 : i = 0
      · subst h0
        rw [Nat.add_zero] at c1
        go_wp2_with fail
        refine (pnum_any HM.out wr).mono ?_
        rintro e w3 ⟨rfl, hb⟩
        have HB3 := Lib.hid (below_on HB.out hb)
        clear hb c1
        go_wp2
        go_roundg (n - (0 + 1))
        case measure => have := HK.out; have := HLT.out; omega
        case rel =>
          refine ⟨1, _, by have := HLT.out; omega, rfl, ?_, rfl, HB3.out⟩
          rw [ByteArray.data_append, Array.toList_append, HS.out, ptake_first HZ.out]
          rfl
      · have h0' : (0 : Int) < (i : Int) := by omega
        have H0 := Lib.hid h0
        clear h0
        go_wp2_with fail
        refine (pnum_any HM.out wr).mono ?_
        rintro e w3 ⟨rfl, hb⟩
        have HB3 := Lib.hid (below_on HB.out hb)
        clear hb c1
        go_wp2
        go_roundg (n - (i + 1))
        case measure => have := HK.out; have := HLT.out; omega
        case rel =>
          refine ⟨i + 1, _, by have := HLT.out; omega, rfl, ?_, (by refine congrArg _ ?_; have := H3.out; have := HLT.out; unfold wrap64; omega), HB3.out⟩
          rw [ByteArray.data_append, Array.toList_append, ByteArray.data_append, Array.toList_append, HS.out, ptake_succ (by have := H0.out; omega) HZ.out]
          rfl
    · have hin : i = n := by have := HK.out; omega
      subst hin
      go_wp2
      go_ret
      refine ⟨s, rfl, ?_, HB.out⟩
      rw [HS.out, ptake, ptext, if_pos HG.out, HN.out, List.take_length]
theorem byte_eq {s : ByteArray} {l : List UInt8} (h : s.data.toList = l) : s = ⟨l.toArray⟩ := by
  subst h
  rfl
theorem rtext_is {A : Option Addr} {n cap : Nat} {l : List Int} {s : ByteArray} {w : World} (hn : n = l.length) (hl : n ≤ 1000000) (hL : IntsAt w w.heap.size A l) (hs : (⟨(ptext l).toArray⟩ : ByteArray) = s) :
    Calls Tryd.prog 37 #[.slice A n cap] w fun e w' => e = .returned (.string s) ∧ Below w.heap.size w w' := by
  subst hs
  rcases h : pgood l with _ | _
  · have e : ptext l = [] := by rw [ptext, h]; rfl
    rw [e]
    exact rtext_no hn hl hL h
  · refine (rtext_yes hn hL h).mono ?_
    rintro e w' ⟨s, rfl, hs, hb⟩
    rw [byte_eq hs]
    exact ⟨rfl, hb⟩
end Go.Proofs.YtfcifheejjppfaaDoor
