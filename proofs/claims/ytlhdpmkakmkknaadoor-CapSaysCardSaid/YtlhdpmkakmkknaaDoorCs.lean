/-
  The walks of the reference's Num and CapText. Condition: a number is from 0 to 65535.
-/
import Derived.Test.YtlhdpmkakmkknaaDoorCq
import Derived.Laws.IdiomStrings
namespace Go.Proofs.YtlhdpmkakmkknaaDoor
open Go.RowKit

/-- one byte in memory, as a text -/
theorem conv_one {w : World} {g x : Nat} (hx : x < 256) (h : w.cell? ⟨g, 0, none⟩ = some (.int .u8 (x : Int))) : (convert 69 9 (.slice (some ⟨g, 0, none⟩) 1 1)).run Tryd.prog w = .ok (.string ⟨#[UInt8.ofNat x]⟩) w := by
  have := run_convert_bytes_back (P := Tryd.prog) w 69 9 5 ⟨g, 0, none⟩ 1 [UInt8.ofNat x] Tryd.underlying69 Tryd.underlying5 Tryd.underlying9 (fun j hj => by
    obtain rfl : j = 0 := by simpa using hj
    have e : (UInt8.ofNat x).toNat = x := by simp; omega
    simp only [List.getElem_cons_zero, e]
    exact h)
  exact this
theorem u8_in {z : Int} (h1 : 0 ≤ z) (h2 : z < 256) : IntKind.u8.wrap z = z := by
  unfold IntKind.wrap
  simp only [show IntKind.u8.signed = false from rfl, show IntKind.u8.bits = 8 from rfl, Bool.false_and, Bool.false_eq_true, if_false]
  omega
theorem one_cell (w : World) (x : Int) : (w.alloc (.cells #[.int .u8 x] 5)).cell? ⟨w.heap.size, 0, none⟩ = some (.int .u8 x) := by
  rw [cell_of_row _ _ 0 _ _ _ (heap_alloc_new w _)]
  rfl

theorem num_one {n : Nat} {s : ByteArray} (hn : n < 10) (hs : dec n = s) (w : World) : Calls Tryd.prog 39 #[.int .i64 (n : Int)] w fun e w' => e = .returned (.string s) ∧ Below w.heap.size w w' := by
  have h1 : ¬ (n : Int) < 0 := by omega
  have h2 : (n : Int) < 10 := by omega
  have h3 : wrap64 (48 + (n : Int)) = 48 + (n : Int) := by unfold wrap64; omega
  have h4 : IntKind.u8.wrap (48 + (n : Int)) = 48 + (n : Int) := u8_in (by omega) (by omega)
  have hc : (convert 69 9 (.slice (some ⟨w.heap.size, 0, none⟩) 1 1)).run Tryd.prog (w.alloc (.cells #[.int .u8 (48 + (n : Int))] 5)) = .ok (.string s) (w.alloc (.cells #[.int .u8 (48 + (n : Int))] 5)) := by
    have := conv_one (w := w.alloc (.cells #[.int .u8 (48 + (n : Int))] 5)) (g := w.heap.size) (x := 48 + n) (by omega) (by rw [one_cell]; simp)
    rw [this, ← hs, dec, Lib.decDigits_one hn]
  clear hn hs
  go_enter Tryd.func39, Tryd.ntmps39
  go_wp2
  go_ret
  exact ⟨rfl, below_alloc _ _⟩

theorem i64_in {z : Int} (h1 : -9223372036854775808 ≤ z) (h2 : z ≤ 9223372036854775807) : IntKind.i64.wrap z = z := by
  unfold IntKind.wrap
  simp only [show IntKind.i64.signed = true from rfl, show IntKind.i64.bits = 64 from rfl, Bool.true_and, decide_eq_true_eq]
  split <;> omega
theorem tdiv_nat (n : Nat) : (n : Int).tdiv 10 = ((n / 10 : Nat) : Int) := by
  rw [Int.tdiv_eq_ediv_of_nonneg (by omega)]
  exact (Int.natCast_ediv n 10).symm
theorem tmod_nat (n : Nat) : (n : Int).tmod 10 = ((n % 10 : Nat) : Int) := by
  rw [Int.tmod_eq_emod_of_nonneg (by omega)]
  exact (Int.natCast_emod n 10).symm
theorem small_sum {z : Nat} (h : z ≤ 20) : ¬ 9223372036854775807 < z + 1 := by omega
theorem dig_in {r : Nat} (h : r < 10) : IntKind.i64.wrap (48 + (r : Int)) = 48 + (r : Int) ∧ IntKind.u8.wrap (48 + (r : Int)) = 48 + (r : Int) ∧ 48 + r < 256 := ⟨i64_in (by omega) (by omega), u8_in (by omega) (by omega), by omega⟩
theorem k_in {k : Nat} (h : k < 65536) : IntKind.i64.wrap (k : Int) = k ∧ wrap64 (k : Int) = k := ⟨i64_in (by omega) (by omega), wrap_nat h⟩

theorem keep_cell {w w' : World} {x : Int} (hb : Below (w.alloc (.cells #[.int .u8 x] 5)).drew.heap.size (w.alloc (.cells #[.int .u8 x] 5)).drew w') : w'.cell? ⟨w.heap.size, 0, none⟩ = some (.int .u8 x) := by
  rw [hb.cell (p := ⟨w.heap.size, 0, none⟩) (by show w.heap.size < (w.alloc (.cells #[.int .u8 x] 5)).heap.size; simp)]
  exact one_cell w x

set_option maxHeartbeats 4000000 in
theorem num_more {n k r : Nat} {s b u : ByteArray} (h10 : 10 ≤ n) (hk : n / 10 = k) (hk2 : k < 65536) (hr : n % 10 = r) (hr2 : r < 10) (hb : (⟨#[UInt8.ofNat (48 + r)]⟩ : ByteArray) = b) (hs : s ++ b = u) (hz : s.size ≤ 20) (w : World)
    (H : ∀ w, Calls Tryd.prog 39 #[.int .i64 (k : Int)] w fun e w' => e = .returned (.string s) ∧ Below w.heap.size w w') :
    Calls Tryd.prog 39 #[.int .i64 (n : Int)] w fun e w' => e = .returned (.string u) ∧ Below w.heap.size w w' := by
  have h1 : ¬ (n : Int) < 0 := by omega
  have h2 : ¬ (n : Int) < 10 := by omega
  have hq : (n : Int) / 10 = (k : Int) := by rw [← hk]; exact (Int.natCast_ediv n 10).symm
  have hm : (n : Int) % 10 = (r : Int) := by rw [← hr]; exact (Int.natCast_emod n 10).symm
  have hm2 : (n : Int).tmod 10 = (r : Int) := by rw [← hr]; exact tmod_nat n
  have hq2 : (n : Int).tdiv 10 = (k : Int) := by rw [← hk]; exact tdiv_nat n
  obtain ⟨h3, h4, h5⟩ := dig_in hr2
  obtain ⟨h6, h7⟩ := k_in hk2
  have hsz : ¬ 9223372036854775807 < s.size + b.size := by rw [← hb]; exact small_sum hz
  have hcv : ∀ (w : World) (g : Nat), w.cell? ⟨g, 0, none⟩ = some (.int .u8 (48 + (r : Int))) → (convert 69 9 (.slice (some ⟨g, 0, none⟩) 1 1)).run Tryd.prog w = .ok (.string b) w := fun w g h => by
    rw [← hb]
    exact conv_one h5 (by rw [h]; simp)
  have HH := Lib.hid H
  have HS := Lib.hid hs
  have HB := Lib.hid (below_self w)
  clear H hs h10 hk hk2 hr hr2 hz hb h5
  go_enter Tryd.func39, Tryd.ntmps39
  go_wp2_with fail
  go_region_with (go_at_call 39; ((with_reducible refine (HH.out _).mono ?_); rintro e w' ⟨rfl, hb⟩; first | (have hcell := keep_cell hb) | skip))
  all_goals go_wp2
  all_goals go_ret
  all_goals refine ⟨by rw [← HS.out]; rfl, ?_⟩
  all_goals first | exact below_on (below_on (below_self w).drew hb) (below_alloc _ _) | exact below_on (below_alloc w _).drew hb
theorem num_any : ∀ (n : Nat), n < 65536 → ∀ w, Calls Tryd.prog 39 #[.int .i64 (n : Int)] w fun e w' => e = .returned (.string (dec n)) ∧ Below w.heap.size w w' := by
  intro n
  induction n using Nat.strongRecOn with
  | _ n ih =>
    intro hn w
    by_cases h : n < 10
    · exact num_one h rfl w
    · refine num_more (by omega) rfl (by omega) rfl (by omega) rfl ?_ (dec_size (n := n / 10) (by omega)) w (fun w => ih (n / 10) (by omega) (by omega) w)
      show (⟨(Lib.decDigits (n / 10)).toArray⟩ : ByteArray) ++ ⟨[UInt8.ofNat (48 + n % 10)].toArray⟩ = ⟨(Lib.decDigits n).toArray⟩
      rw [ByteArray.mk_append_mk]
      conv => rhs; rw [Lib.decDigits, dif_neg h]
theorem rfr_use {W w : World} {g N : Nat} {a b d f : Int} {xs : Array Value} {r : Value} (h : Fr W w g a b d f) (hc : Calls Tryd.prog N xs w fun e w' => e = .returned r ∧ Below w.heap.size w w') :
    Calls Tryd.prog N xs w fun e w' => e = .returned r ∧ w'.cell? ⟨g, 0, none⟩ = some (.int .i64 a) ∧ w'.cell? ⟨g, 1, none⟩ = some (.int .i64 b) ∧ w'.cell? ⟨g, 2, none⟩ = some (.int .i64 d) ∧ w'.cell? ⟨g, 3, none⟩ = some (.int .i64 f) ∧ Fr W w' g a b d f := by
  refine hc.mono ?_
  rintro e w' ⟨rfl, hb⟩
  have k := h.on hb
  exact ⟨rfl, k.c0, k.c1, k.c2, k.c3, k⟩
theorem rrtext_at {r : Nat} (hr : r < 8) (w : World) : Calls Tryd.prog 40 #[.int .i64 (r : Int)] w fun e w' => e = .returned (.string (ltrs r)) ∧ Below w.heap.size w w' := by
  refine (rtext_nat r hr w).mono ?_
  rintro e w' ⟨rfl, rfl⟩
  exact ⟨rfl, below_self _⟩

set_option maxHeartbeats 4000000 in
theorem rctext_yes {t n r g : Nat} {s1 s2 s3 s4 : ByteArray} (h : Cp.good ⟨t, n, r, g⟩ = true) (h0 : Cp.non ⟨t, n, r, g⟩ = false) (ht : t ≤ 5) (hn : n < 48) (hr : r < 8) (e1 : dec t = s1) (e2 : dec n = s2) (e3 : ltrs r = s3)
    (z1 : s1.size ≤ 20) (z2 : s2.size ≤ 20) (z3 : s3.size ≤ 20) (z4 : s4.size ≤ 20) (hg : g < 65536) (e4 : dec g = s4) (w : World) :
    Calls Tryd.prog 24 #[.agg #[.int .i64 (t : Int), .int .i64 (n : Int), .int .i64 (r : Int), .int .i64 (g : Int)]] w fun e w' => e = .returned (.string (s1 ++ ⟨#[32]⟩ ++ s2 ++ ⟨#[32]⟩ ++ s3 ++ ⟨#[32]⟩ ++ s4)) ∧ Below w.heap.size w w' := by
  have HG := Lib.hid h
  have ht0 : ((t : Int) == 0) = false := by
    rcases good_iff_all.1 h with ⟨q1, q2, q3, q4⟩ | q
    · rw [q1, q2, q3, q4] at h0
      cases h0
    · simp
      omega
  have hK := Fr.new w t n r g 39
  have I1 : Hid (∀ w, Calls Tryd.prog 39 #[.int .i64 (t : Int)] w fun e w' => e = .returned (.string s1) ∧ Below w.heap.size w w') := Lib.hid fun w => e1 ▸ num_any t (by omega) w
  have I2 : Hid (∀ w, Calls Tryd.prog 39 #[.int .i64 (n : Int)] w fun e w' => e = .returned (.string s2) ∧ Below w.heap.size w w') := Lib.hid fun w => e2 ▸ num_any n (by omega) w
  have I3 : Hid (∀ w, Calls Tryd.prog 40 #[.int .i64 (r : Int)] w fun e w' => e = .returned (.string s3) ∧ Below w.heap.size w w') := Lib.hid fun w => e3 ▸ rrtext_at hr w
  have I4 : Hid (∀ w, Calls Tryd.prog 39 #[.int .i64 (g : Int)] w fun e w' => e = .returned (.string s4) ∧ Below w.heap.size w w') := Lib.hid fun w => e4 ▸ num_any g hg w
  have l1 : ¬ 9223372036854775807 < s1.size + 1 := by omega
  have l2 : ¬ 9223372036854775807 < s1.size + 1 + s2.size := by omega
  have l3 : ¬ 9223372036854775807 < s1.size + 1 + s2.size + 1 := by omega
  have l4 : ¬ 9223372036854775807 < s1.size + 1 + s2.size + 1 + s3.size := by omega
  have l5 : ¬ 9223372036854775807 < s1.size + 1 + s2.size + 1 + s3.size + 1 := by omega
  have l6 : ¬ 9223372036854775807 < s1.size + 1 + s2.size + 1 + s3.size + 1 + s4.size := by omega
  clear h h0 ht hn hr hg e1 e2 e3 e4 z1 z2 z3 z4
  go_enter Tryd.func24, Tryd.ntmps24
  go_wp2_with fail
  generalize w.alloc (.cells #[.int .i64 (t : Int), .int .i64 (n : Int), .int .i64 (r : Int), .int .i64 (g : Int)] 39) = w1 at hK ⊢
  refine (rcgood_at HG.out w1).mono ?_
  rintro e w3 ⟨rfl, hb⟩
  have hK3 := (hK.on hb).drew
  have K2 := Lib.hid (hK.on hb)
  have d0 := K2.out.c0
  clear hK hb
  have c0 := hK3.c0
  have c1 := hK3.c1
  have c2 := hK3.c2
  have c3 := hK3.c3
  go_wp2_with fail
  go_region_held3 (fun w' => w'.cell? ⟨w.heap.size, 0, none⟩ = some (.int .i64 (t : Int)) ∧ w'.cell? ⟨w.heap.size, 1, none⟩ = some (.int .i64 (n : Int)) ∧ w'.cell? ⟨w.heap.size, 2, none⟩ = some (.int .i64 (r : Int)) ∧ w'.cell? ⟨w.heap.size, 3, none⟩ = some (.int .i64 (g : Int)) ∧ Fr w w' w.heap.size t n r g)
    (first | exact ⟨by with_reducible assumption, by with_reducible assumption, by with_reducible assumption, by with_reducible assumption, by with_reducible assumption⟩ | fail)
    (first
      | (go_at_call 39; ((with_reducible refine (rfr_use (by with_reducible assumption) (I1.out _)).mono ?_); rintro e w' ⟨rfl, y0, y1, y2, y3, y4⟩))
      | (go_at_call 39; ((with_reducible refine (rfr_use (by with_reducible assumption) (I2.out _)).mono ?_); rintro e w' ⟨rfl, y0, y1, y2, y3, y4⟩))
      | (go_at_call 39; ((with_reducible refine (rfr_use (by with_reducible assumption) (I4.out _)).mono ?_); rintro e w' ⟨rfl, y0, y1, y2, y3, y4⟩))
      | (go_at_call 40; ((with_reducible refine (rfr_use (by with_reducible assumption) (I3.out _)).mono ?_); rintro e w' ⟨rfl, y0, y1, y2, y3, y4⟩)))
  go_wp2
  go_ret
  exact ⟨rfl, y4.old⟩
theorem rctext_bad {a b d f : Int} (h : Cp.good ⟨a, b, d, f⟩ = false) (w : World) : Calls Tryd.prog 24 #[.agg #[.int .i64 a, .int .i64 b, .int .i64 d, .int .i64 f]] w fun e w' => e = .returned (.string ⟨#[]⟩) ∧ Below w.heap.size w w' := by
  have HG := Lib.hid h
  have hK := Fr.new w a b d f 39
  clear h
  go_enter Tryd.func24, Tryd.ntmps24
  go_wp2_with fail
  generalize w.alloc (.cells #[.int .i64 a, .int .i64 b, .int .i64 d, .int .i64 f] 39) = w1 at hK ⊢
  refine (rcgood_at HG.out w1).mono ?_
  rintro e w2 ⟨rfl, hb⟩
  have K2 := Lib.hid (hK.on hb)
  clear hK hb
  go_wp2
  go_ret
  exact ⟨rfl, K2.out.old⟩
theorem rctext_none (w : World) : Calls Tryd.prog 24 #[.agg #[.int .i64 0, .int .i64 0, .int .i64 0, .int .i64 0]] w fun e w' => e = .returned (.string ⟨#[45]⟩) ∧ Below w.heap.size w w' := by
  have HG := Lib.hid none_good
  have hK := Fr.new w 0 0 0 0 39
  go_enter Tryd.func24, Tryd.ntmps24
  go_wp2_with fail
  generalize w.alloc (.cells #[.int .i64 0, .int .i64 0, .int .i64 0, .int .i64 0] 39) = w1 at hK ⊢
  refine (rcgood_at HG.out w1).mono ?_
  rintro e w2 ⟨rfl, hb⟩
  have K2 := Lib.hid (hK.on hb)
  have c0 := K2.out.c0
  clear hK hb
  go_wp2
  go_ret
  exact ⟨rfl, K2.out.old⟩
theorem rctext_any (c : Cp) (w : World) : Calls Tryd.prog 24 #[c.val] w fun e w' => e = .returned (.string c.text) ∧ Below w.heap.size w w' := by
  rcases h : c.good with _ | _
  · have e : c.text = ⟨#[]⟩ := by rw [Cp.text, h]; rfl
    rw [e]
    exact rctext_bad h w
  · rcases h0 : c.non with _ | _
    · obtain ⟨a, b, d, f⟩ := c
      obtain ⟨t, n, r, g, rfl, rfl, rfl, rfl, h1, h2, h3, h4⟩ := good_nat h
      have e : Cp.text ⟨t, n, r, g⟩ = ctext t n r g := by rw [Cp.text, h, h0]; rfl
      rw [e]
      exact rctext_yes h h0 h1 h2 h3 rfl rfl rfl (dec_size (by omega)) (dec_size (by omega)) (by have := ltrs_size r h3; omega) (dec_size h4) h4 rfl w
    · have e := non_eq h0
      subst e
      exact rctext_none w
end Go.Proofs.YtlhdpmkakmkknaaDoor
