/-
  Numbers in base ten: the walks of strconv.FormatUint at base ten. Condition: the library's table of tens is there (the row lists it).
-/
import Derived.Test.YtfcifheejjppfaaDoorHj2
import Derived.Test.YtfcifheejjppfaaDoorVa
import Derived.Lib.ItoaLen
import Derived.Lib.SmallJoins
import Derived.Lib.ItoaMem
namespace Go.Proofs.YtfcifheejjppfaaDoor
open Go.Shelf Go.RowKit Go.Sort Go.Lib

/-- a number in base ten -/
def dct (n : Nat) : ByteArray := ⟨(Lib.decDigits n).toArray⟩
def Tab (w : World) : Prop := Lib.TabIs Tryd.prog w "internal/strconv.uint64pow10" .u64 Lib.pow10Tab
theorem Tab.on {w w' : World} (h : Tab w) (hb : Below w.heap.size w w') : Tab w' := Joins.tab_stays (g := 0) (by kernel_rfl) h hb (Nat.le_refl _)
theorem below_grow (w : World) (k : Nat) (os : Array Obj) : Below w.heap.size w (grow (w.drewN k) os) := by
  refine ⟨rfl, rfl, rfl, ?_, fun g hg => ?_⟩
  · show w.heap.size ≤ (w.heap ++ os).size
    rw [Array.size_append]
    omega
  · show (w.heap ++ os)[g]? = w.heap[g]?
    exact Array.getElem?_append_left hg
theorem itoa_dct {n : Nat} (hn : n < 1000000) {w : World} (h : Tab w) : Calls Tryd.prog 27 #[.int .i64 (n : Int)] w fun e w' => e = .returned (.string (dct n)) ∧ Below w.heap.size w w' := by
  refine (Tryd.strconv_Itoa (n : Int) (by omega) (by omega) w h).mono ?_
  rintro e w' ⟨rfl, k, os, rfl⟩
  exact ⟨by rw [dct, Lib.itoa_nonneg], below_grow w k os⟩
theorem dct_size {n : Nat} (h : n < 18446744073709551616) : (dct n).size ≤ 20 := by
  show (Lib.decDigits n).toArray.size ≤ 20
  rw [List.size_toArray, Lib.decDigits_length]
  exact Lib.nDigits_le20 n h
theorem fin_nil (w : World) (o : Obj) (dk : Array UInt8) (k : Nat) : ∃ os, (putRow (fun (b : UInt8) => Value.int .u8 (b.toNat : Int)) (w.alloc o) w.heap.size 0 dk).drewN k = grow (w.drewN k) os := by
  rw [alloc_eq_grow]
  obtain ⟨os, _, e⟩ := putRow_grow_new (fun (b : UInt8) => Value.int .u8 (b.toNat : Int)) w #[o] w.heap.size 0 dk (Nat.le_refl _)
  exact ⟨os, by rw [e]; rfl⟩
theorem fmt_small {u : Nat} (hu : u < 100) (w : World) : Calls Tryd.prog 43 #[.int .u64 (u : Int), .int .i64 10] w fun e w' => e = .returned (.string (dct u)) ∧ w' = w := by
  have h100 : (u : Int) < 100 := by omega
  have hw : IntKind.i64.wrap (u : Int) = u := i64_in (by omega) (by omega)
  go_enter Tryd.func43, Tryd.ntmps43
  go_wp2_with fail
  refine (Tryd.internal_strconv_small u hu w).mono ?_
  rintro e w' ⟨rfl, rfl⟩
  go_wp2
  go_ret
  exact ⟨rfl, rfl⟩
set_option maxHeartbeats 6400000 in
set_option maxRecDepth 100000 in
theorem fmt_big {u : Nat} (h1 : ¬ u < 100) (hu : u < 18446744073709551616) {w : World} (ht : Tab w) : Calls Tryd.prog 43 #[.int .u64 (u : Int), .int .i64 10] w fun e w' => e = .returned (.string (dct u)) ∧ ∃ k os, w' = grow (w.drewN k) os := by
  have h100 : ¬ (u : Int) < 100 := by omega
  obtain ⟨n, hn⟩ : ∃ n, n = Lib.nDigits u := ⟨_, rfl⟩
  have hn20 : n ≤ 24 := by have := Lib.nDigits_le20 u hu; omega
  have hal : Tryd.prog.arrayLen 86 = 24 := by simp [Program.arrayLen, Tryd.underlying86]
  have hsl : ∀ W, (Instr.sliceAt 86 (.pointer (some ⟨w.heap.size, 0, none⟩)) none (some (.int .i64 (n : Int))) none).run Tryd.prog W = .ok (.slice (some ⟨w.heap.size, 0, none⟩) n 24) W := fun W => by
    rw [run_sliceAt_array_h W 86 ⟨w.heap.size, 0, none⟩ (by simp [Program.arrayLen, Program.elem, Tryd.underlying86]) .i64 (n : Int) (by omega) (by rw [hal]; omega)]
    go_simp
  have hH : Holds (fun (b : UInt8) => Value.int .u8 (b.toNat : Int)) (w.alloc (.cells Lib.zeros24 86)) w.heap.size 0 (Array.replicate n 0) := fun j hj => by
    have hj2 : j < n := by simpa using hj
    refine ⟨?_, World.frozen?_alloc_new _ _ _ _⟩
    rw [World.cell?_alloc_new, Lib.zeros24_at _ (by omega), getElem!_pos _ j hj]
    simp
  have hfmt := Tryd.internal_strconv_formatBase10 w.heap.size 0 24 u (Array.replicate n 0) (w.alloc (.cells Lib.zeros24 86)) hH (by rw [Array.size_replicate, hn]; exact Lib.lt_pow_nDigits u) hu (by rw [Array.size_replicate]; omega)
  rw [Array.size_replicate] at hfmt
  have HN := Lib.hid hn
  have HT := Lib.hid ht
  have HH := Lib.hid hH
  clear hal hn hH ht
  go_enter Tryd.func43, Tryd.ntmps43
  go_wp2_with fail
  refine (Tryd.internal_strconv_numDigits u (by omega) hu (w.alloc (.cells Lib.zeros24 86)) (Lib.tabIs_alloc HT.out _)).mono ?_
  rintro e w' ⟨rfl, rfl⟩
  rw [← HN.out]
  go_wp2_with fail
  refine hfmt.mono ?_
  rintro e w' ⟨rfl, k, v', dk, rfl, hF⟩
  have hlen : (Lib.decDigits u).length = n := by rw [Lib.decDigits_length, HN.out]
  have hcv : (convert 76 9 (.slice (some ⟨w.heap.size, 0, none⟩) n 24)).run Tryd.prog ((putRow (fun (b : UInt8) => Value.int .u8 (b.toNat : Int)) (w.alloc (.cells Lib.zeros24 86)) w.heap.size 0 dk).drewN k) = .ok (.string (dct u)) ((putRow (fun (b : UInt8) => Value.int .u8 (b.toNat : Int)) (w.alloc (.cells Lib.zeros24 86)) w.heap.size 0 dk).drewN k) := by
    have h := run_convert_bytes_back (P := Tryd.prog) ((putRow (fun (b : UInt8) => Value.int .u8 (b.toNat : Int)) (w.alloc (.cells Lib.zeros24 86)) w.heap.size 0 dk).drewN k) 76 9 5 ⟨w.heap.size, 0, none⟩ 24 (Lib.decDigits u) Tryd.underlying76 Tryd.underlying5 Tryd.underlying9 (fun j hj => by
      rw [Lib.row_is_numeral (HN.out ▸ hF) j hj, Lib.add_plain, World.cell?_drewN]
      exact cell?_putRow (fun (b : UInt8) => Value.int .u8 (b.toNat : Int)) _ w.heap.size 0 _ dk HH.out (by rw [hF.size, Array.size_replicate]) j (by rw [hF.size]; omega))
    rw [hlen] at h
    exact h
  have HF := Lib.hid hF
  clear hF hlen hfmt
  go_wp2
  go_ret
  obtain ⟨os, eo⟩ := fin_nil w (.cells Lib.zeros24 86) dk k
  exact ⟨rfl, k, os, eo⟩
theorem fmt_any {u : Nat} (hu : u < 18446744073709551616) {w : World} (ht : Tab w) : Calls Tryd.prog 28 #[.int .u64 (u : Int), .int .i64 10] w fun e w' => e = .returned (.string (dct u)) ∧ Below w.heap.size w w' := by
  by_cases h1 : u < 100
  · go_enter Tryd.func28, Tryd.ntmps28
    go_wp2_with fail
    refine (fmt_small h1 w).mono ?_
    rintro e w' ⟨rfl, rfl⟩
    go_wp2
    go_ret
    exact ⟨rfl, below_self _⟩
  · have HT := Lib.hid ht
    clear ht
    go_enter Tryd.func28, Tryd.ntmps28
    go_wp2_with fail
    refine (fmt_big h1 hu HT.out).mono ?_
    rintro e w' ⟨rfl, k, os, rfl⟩
    go_wp2
    go_ret
    exact ⟨rfl, below_grow w k os⟩
end Go.Proofs.YtfcifheejjppfaaDoor
