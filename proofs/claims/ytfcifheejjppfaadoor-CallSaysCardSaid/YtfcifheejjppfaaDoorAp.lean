/-
  The reference's Num, its digits. No condition.
-/
import Derived.Test.YtfcifheejjppfaaDoorHn
namespace Go.Proofs.YtfcifheejjppfaaDoor
open Go.RowKit

theorem num_one {n : Nat} {s : ByteArray} (hn : n < 10) (hs : dct n = s) (w : World) : Calls Tryd.prog 38 #[.int .i64 (n : Int)] w fun e w' => e = .returned (.string s) ∧ Below w.heap.size w w' := by
  have h1 : ¬ (n : Int) < 0 := by omega
  have h2 : (n : Int) < 10 := by omega
  have h3 : wrap64 (48 + (n : Int)) = 48 + (n : Int) := by unfold wrap64; omega
  have h4 : IntKind.u8.wrap (48 + (n : Int)) = 48 + (n : Int) := u8_in (by omega) (by omega)
  have hc : (convert 76 9 (.slice (some ⟨w.heap.size, 0, none⟩) 1 1)).run Tryd.prog (w.alloc (.cells #[.int .u8 (48 + (n : Int))] 5)) = .ok (.string s) (w.alloc (.cells #[.int .u8 (48 + (n : Int))] 5)) := by
    have := conv_one (w := w.alloc (.cells #[.int .u8 (48 + (n : Int))] 5)) (g := w.heap.size) (x := 48 + n) (by omega) (by rw [one_cell]; simp)
    rw [this, ← hs, dct, Lib.decDigits_one hn]
  clear hn hs
  go_enter Tryd.func38, Tryd.ntmps38
  go_wp2
  go_ret
  exact ⟨rfl, below_alloc _ _⟩

set_option maxHeartbeats 4000000 in
theorem num_more {n k r : Nat} {s b u : ByteArray} (h10 : 10 ≤ n) (hk : n / 10 = k) (hk2 : k < 65536) (hr : n % 10 = r) (hr2 : r < 10) (hb : (⟨#[UInt8.ofNat (48 + r)]⟩ : ByteArray) = b) (hs : s ++ b = u) (hz : s.size ≤ 20) (w : World)
    (H : ∀ w, Calls Tryd.prog 38 #[.int .i64 (k : Int)] w fun e w' => e = .returned (.string s) ∧ Below w.heap.size w w') :
    Calls Tryd.prog 38 #[.int .i64 (n : Int)] w fun e w' => e = .returned (.string u) ∧ Below w.heap.size w w' := by
  have h1 : ¬ (n : Int) < 0 := by omega
  have h2 : ¬ (n : Int) < 10 := by omega
  have hq : (n : Int) / 10 = (k : Int) := by rw [← hk]; exact (Int.natCast_ediv n 10).symm
  have hm : (n : Int) % 10 = (r : Int) := by rw [← hr]; exact (Int.natCast_emod n 10).symm
  have hm2 : (n : Int).tmod 10 = (r : Int) := by rw [← hr]; exact tmod_nat n
  have hq2 : (n : Int).tdiv 10 = (k : Int) := by rw [← hk]; exact tdiv_nat n
  obtain ⟨h3, h4, h5⟩ := dig_in hr2
  obtain ⟨h6, h7⟩ := k_in hk2
  have hsz : ¬ 9223372036854775807 < s.size + b.size := by rw [← hb]; exact small_sum hz
  have hcv : ∀ (w : World) (g : Nat), w.cell? ⟨g, 0, none⟩ = some (.int .u8 (48 + (r : Int))) → (convert 76 9 (.slice (some ⟨g, 0, none⟩) 1 1)).run Tryd.prog w = .ok (.string b) w := fun w g h => by
    rw [← hb]
    exact conv_one h5 (by rw [h]; simp)
  have HH := Lib.hid H
  have HS := Lib.hid hs
  have HB := Lib.hid (below_self w)
  clear H hs h10 hk hk2 hr hr2 hz hb h5
  go_enter Tryd.func38, Tryd.ntmps38
  go_wp2_with fail
  go_region_with (go_at_call 38; ((with_reducible refine (HH.out _).mono ?_); rintro e w' ⟨rfl, hb⟩; first | (have hcell := keep_cell hb) | skip))
  all_goals go_wp2
  all_goals go_ret
  all_goals refine ⟨by rw [← HS.out]; rfl, ?_⟩
  all_goals first | exact below_on (below_on (below_self w).drew hb) (below_alloc _ _) | exact below_on (below_alloc w _).drew hb
theorem num_any : ∀ (n : Nat), n < 65536 → ∀ w, Calls Tryd.prog 38 #[.int .i64 (n : Int)] w fun e w' => e = .returned (.string (dct n)) ∧ Below w.heap.size w w' := by
  intro n
  induction n using Nat.strongRecOn with
  | _ n ih =>
    intro hn w
    by_cases h : n < 10
    · exact num_one h rfl w
    · refine num_more (by omega) rfl (by omega) rfl (by omega) rfl ?_ (dct_size (n := n / 10) (by omega)) w (fun w => ih (n / 10) (by omega) (by omega) w)
      show (⟨(Lib.decDigits (n / 10)).toArray⟩ : ByteArray) ++ ⟨[UInt8.ofNat (48 + n % 10)].toArray⟩ = ⟨(Lib.decDigits n).toArray⟩
      rw [ByteArray.mk_append_mk]
      conv => rhs; rw [Lib.decDigits, dif_neg h]
theorem digs_one {n : Nat} {s : ByteArray} (hn : n < 10) (hs : dct n = s) (w : World) : Calls Tryd.prog 39 #[.int .u64 (n : Int)] w fun e w' => e = .returned (.string s) ∧ Below w.heap.size w w' := by
  have h1 : ¬ (n : Int) < 0 := by omega
  have h2 : (n : Int) < 10 := by omega
  have h3 : IntKind.u64.wrap (48 + (n : Int)) = 48 + (n : Int) := u64_in (by omega) (by omega)
  have h4 : IntKind.u8.wrap (48 + (n : Int)) = 48 + (n : Int) := u8_in (by omega) (by omega)
  have hc : (convert 76 9 (.slice (some ⟨w.heap.size, 0, none⟩) 1 1)).run Tryd.prog (w.alloc (.cells #[.int .u8 (48 + (n : Int))] 5)) = .ok (.string s) (w.alloc (.cells #[.int .u8 (48 + (n : Int))] 5)) := by
    have := conv_one (w := w.alloc (.cells #[.int .u8 (48 + (n : Int))] 5)) (g := w.heap.size) (x := 48 + n) (by omega) (by rw [one_cell]; simp)
    rw [this, ← hs, dct, Lib.decDigits_one hn]
  clear hn hs
  go_enter Tryd.func39, Tryd.ntmps39
  go_wp2
  go_ret
  exact ⟨rfl, below_alloc _ _⟩

set_option maxHeartbeats 4000000 in
theorem digs_more {n k r : Nat} {s b u : ByteArray} (h10 : 10 ≤ n) (hk : n / 10 = k) (hk2 : k < 18446744073709551616) (hr : n % 10 = r) (hr2 : r < 10) (hb : (⟨#[UInt8.ofNat (48 + r)]⟩ : ByteArray) = b) (hs : s ++ b = u) (hz : s.size ≤ 20) (w : World)
    (H : ∀ w, Calls Tryd.prog 39 #[.int .u64 (k : Int)] w fun e w' => e = .returned (.string s) ∧ Below w.heap.size w w') :
    Calls Tryd.prog 39 #[.int .u64 (n : Int)] w fun e w' => e = .returned (.string u) ∧ Below w.heap.size w w' := by
  have h1 : ¬ (n : Int) < 0 := by omega
  have h2 : ¬ (n : Int) < 10 := by omega
  have hq : (n : Int) / 10 = (k : Int) := by rw [← hk]; exact (Int.natCast_ediv n 10).symm
  have hm : (n : Int) % 10 = (r : Int) := by rw [← hr]; exact (Int.natCast_emod n 10).symm
  have hm2 : (n : Int).tmod 10 = (r : Int) := by rw [← hr]; exact tmod_nat n
  have hq2 : (n : Int).tdiv 10 = (k : Int) := by rw [← hk]; exact tdiv_nat n
  have h3 : IntKind.u64.wrap (48 + (r : Int)) = 48 + (r : Int) := u64_in (by have := hr2; omega) (by have := hr2; omega)
  have h4 : IntKind.u8.wrap (48 + (r : Int)) = 48 + (r : Int) := u8_in (by omega) (by omega)
  have h5 : 48 + r < 256 := by have := hr2; omega
  have h6 : IntKind.u64.wrap (k : Int) = k := u64_in (by omega) (by omega)
  have hsz : ¬ 9223372036854775807 < s.size + b.size := by rw [← hb]; exact small_sum hz
  have hcv : ∀ (w : World) (g : Nat), w.cell? ⟨g, 0, none⟩ = some (.int .u8 (48 + (r : Int))) → (convert 76 9 (.slice (some ⟨g, 0, none⟩) 1 1)).run Tryd.prog w = .ok (.string b) w := fun w g h => by
    rw [← hb]
    exact conv_one h5 (by rw [h]; simp)
  have HH := Lib.hid H
  have HS := Lib.hid hs
  have HB := Lib.hid (below_self w)
  clear H hs h10 hk hk2 hr hr2 hz hb h5
  go_enter Tryd.func39, Tryd.ntmps39
  go_wp2_with fail
  go_region_with (go_at_call 39; ((with_reducible refine (HH.out _).mono ?_); rintro e w' ⟨rfl, hb⟩; first | (have hcell := keep_cell hb) | skip))
  all_goals go_wp2
  all_goals go_ret
  all_goals refine ⟨by rw [← HS.out]; rfl, ?_⟩
  all_goals first | exact below_on (below_on (below_self w).drew hb) (below_alloc _ _) | exact below_on (below_alloc w _).drew hb
theorem digits_any : ∀ (n : Nat), n < 18446744073709551616 → ∀ w, Calls Tryd.prog 39 #[.int .u64 (n : Int)] w fun e w' => e = .returned (.string (dct n)) ∧ Below w.heap.size w w' := by
  intro n
  induction n using Nat.strongRecOn with
  | _ n ih =>
    intro hn w
    by_cases h : n < 10
    · exact digs_one h rfl w
    · refine digs_more (by omega) rfl (by omega) rfl (by omega) rfl ?_ (dct_size (n := n / 10) (by omega)) w (fun w => ih (n / 10) (by omega) (by omega) w)
      show (⟨(Lib.decDigits (n / 10)).toArray⟩ : ByteArray) ++ ⟨[UInt8.ofNat (48 + n % 10)].toArray⟩ = ⟨(Lib.decDigits n).toArray⟩
      rw [ByteArray.mk_append_mk]
      conv => rhs; rw [Lib.decDigits, dif_neg h]
end Go.Proofs.YtfcifheejjppfaaDoor
