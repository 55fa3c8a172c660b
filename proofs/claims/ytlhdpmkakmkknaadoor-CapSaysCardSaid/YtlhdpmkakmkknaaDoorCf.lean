/-
  The walk of package cap's Text. Condition: the number of a badge that is not small is told (the library's table is read for it).
-/
import Derived.Test.YtlhdpmkakmkknaaDoorCd
import Derived.Test.YtlhdpmkakmkknaaDoorVa
import Derived.Lib.ItoaLen
import Derived.Lib.SmallJoins
namespace Go.Proofs.YtlhdpmkakmkknaaDoor
open Go.RowKit

/-- a number in base ten -/
def dec (n : Nat) : ByteArray := ⟨(Lib.decDigits n).toArray⟩
theorem itoa_small {n : Nat} (h : n < 100) (w : World) : Calls Tryd.prog 31 #[.int .i64 (n : Int)] w fun e w' => e = .returned (.string (dec n)) ∧ Below w.heap.size w w' := by
  refine (Tryd.strconv_Itoa_small n h w).mono ?_
  rintro e w' ⟨rfl, rfl⟩
  exact ⟨rfl, below_self _⟩
def Tab (w : World) : Prop := Lib.TabIs Tryd.prog w "internal/strconv.uint64pow10" .u64 Lib.pow10Tab
theorem itoa_tab {n : Nat} (hn : n < 65536) {w : World} (h : Tab w) : Calls Tryd.prog 31 #[.int .i64 (n : Int)] w fun e w' => e = .returned (.string (dec n)) ∧ Below w.heap.size w w' := by
  refine (Tryd.strconv_Itoa (n : Int) (by omega) (by omega) w h).mono ?_
  rintro e w' ⟨rfl, k, os, rfl⟩
  refine ⟨?_, ?_⟩
  · rw [dec, show Lib.itoa (n : Int) = Lib.decDigits n by rw [Lib.itoa, if_neg (by omega)]; simp]
  · refine ⟨rfl, rfl, rfl, ?_, fun g hg => ?_⟩
    · show w.heap.size ≤ (w.heap ++ os).size
      rw [Array.size_append]
      omega
    · show (w.heap ++ os)[g]? = w.heap[g]?
      exact Array.getElem?_append_left hg
theorem Tab.on {w w' : World} (h : Tab w) (hb : Below w.heap.size w w') : Tab w' := Joins.tab_stays (g := 0) (by kernel_rfl) h hb (Nat.le_refl _)
/-- its text -/
def ctext (t n r g : Nat) : ByteArray := dec t ++ ⟨#[32]⟩ ++ dec n ++ ⟨#[32]⟩ ++ ltrs r ++ ⟨#[32]⟩ ++ dec g
theorem dec_size {n : Nat} (h : n < 65536) : (dec n).size ≤ 20 := by
  show (Lib.decDigits n).toArray.size ≤ 20
  rw [List.size_toArray, Lib.decDigits_length]
  exact Lib.nDigits_le20 n (by omega)
theorem ltrs_size : ∀ x < 8, (ltrs x).size ≤ 3 := by decide +kernel

/-- a capability's box, beside which the number of its badge is told -/
structure Tx (W w : World) (g : Nat) (a b d f : Int) (s : ByteArray) : Prop where
  fr : Fr W w g a b d f
  tell : ∀ w', Below w.heap.size w w' → Calls Tryd.prog 31 #[.int .i64 f] w' fun e w'' => e = .returned (.string s) ∧ Below w'.heap.size w' w''
theorem Tx.on {W w w' : World} {g : Nat} {a b d f : Int} {s : ByteArray} (h : Tx W w g a b d f s) (hb : Below w.heap.size w w') : Tx W w' g a b d f s := ⟨h.fr.on hb, fun w2 h2 => h.tell w2 (below_on hb h2)⟩
theorem Tx.drew {W w : World} {g : Nat} {a b d f : Int} {s : ByteArray} (h : Tx W w g a b d f s) : Tx W w.drew g a b d f s := h.on (below_self _).drew
theorem tx_use {W w : World} {g N : Nat} {a b d f : Int} {s : ByteArray} {xs : Array Value} {r : Value} (h : Tx W w g a b d f s) (hc : Calls Tryd.prog N xs w fun e w' => e = .returned r ∧ Below w.heap.size w w') :
    Calls Tryd.prog N xs w fun e w' => e = .returned r ∧ w'.cell? ⟨g, 0, none⟩ = some (.int .i64 a) ∧ w'.cell? ⟨g, 1, none⟩ = some (.int .i64 b) ∧ w'.cell? ⟨g, 2, none⟩ = some (.int .i64 d) ∧ w'.cell? ⟨g, 3, none⟩ = some (.int .i64 f) ∧ Tx W w' g a b d f s := by
  refine hc.mono ?_
  rintro e w' ⟨rfl, hb⟩
  have k := h.on hb
  exact ⟨rfl, k.fr.c0, k.fr.c1, k.fr.c2, k.fr.c3, k⟩
theorem rtext_at {r : Nat} (hr : r < 8) (w : World) : Calls Tryd.prog 32 #[.int .i64 (r : Int)] w fun e w' => e = .returned (.string (ltrs r)) ∧ Below w.heap.size w w' := by
  have := text_any (r : Int) w
  rwa [held_self hr] at this

set_option maxHeartbeats 4000000 in
theorem text_yes {t n r g : Nat} {s1 s2 s3 s4 : ByteArray} (h : Cp.good ⟨t, n, r, g⟩ = true) (h0 : Cp.non ⟨t, n, r, g⟩ = false) (ht : t ≤ 5) (hn : n < 48) (hr : r < 8) (e1 : dec t = s1) (e2 : dec n = s2) (e3 : ltrs r = s3)
    (z1 : s1.size ≤ 20) (z2 : s2.size ≤ 20) (z3 : s3.size ≤ 20) (z4 : s4.size ≤ 20) (w : World) (hT : ∀ w', Below w.heap.size w w' → Calls Tryd.prog 31 #[.int .i64 (g : Int)] w' fun e w'' => e = .returned (.string s4) ∧ Below w'.heap.size w' w'') :
    Calls Tryd.prog 12 #[.agg #[.int .i64 (t : Int), .int .i64 (n : Int), .int .i64 (r : Int), .int .i64 (g : Int)]] w fun e w' => e = .returned (.string (s1 ++ ⟨#[32]⟩ ++ s2 ++ ⟨#[32]⟩ ++ s3 ++ ⟨#[32]⟩ ++ s4)) ∧ Below w.heap.size w w' := by
  have HG := Lib.hid h
  have H0 := Lib.hid h0
  have hK : Tx w (w.alloc (.cells #[.int .i64 (t : Int), .int .i64 (n : Int), .int .i64 (r : Int), .int .i64 (g : Int)] 24)) w.heap.size t n r g s4 := ⟨Fr.new w t n r g 24, fun w' hb => hT w' (below_on (below_alloc _ _) hb)⟩
  have I1 : Hid (∀ w, Calls Tryd.prog 31 #[.int .i64 (t : Int)] w fun e w' => e = .returned (.string s1) ∧ Below w.heap.size w w') := Lib.hid fun w => e1 ▸ itoa_small (by omega) w
  have I2 : Hid (∀ w, Calls Tryd.prog 31 #[.int .i64 (n : Int)] w fun e w' => e = .returned (.string s2) ∧ Below w.heap.size w w') := Lib.hid fun w => e2 ▸ itoa_small (by omega) w
  have I3 : Hid (∀ w, Calls Tryd.prog 32 #[.int .i64 (r : Int)] w fun e w' => e = .returned (.string s3) ∧ Below w.heap.size w w') := Lib.hid fun w => e3 ▸ rtext_at hr w
  have l1 : ¬ 9223372036854775807 < s1.size + 1 := by omega
  have l2 : ¬ 9223372036854775807 < s1.size + 1 + s2.size := by omega
  have l3 : ¬ 9223372036854775807 < s1.size + 1 + s2.size + 1 := by omega
  have l4 : ¬ 9223372036854775807 < s1.size + 1 + s2.size + 1 + s3.size := by omega
  have l5 : ¬ 9223372036854775807 < s1.size + 1 + s2.size + 1 + s3.size + 1 := by omega
  have l6 : ¬ 9223372036854775807 < s1.size + 1 + s2.size + 1 + s3.size + 1 + s4.size := by omega
  clear h h0 ht hn hr e1 e2 e3 z1 z2 z3 z4 hT
  go_enter Tryd.func12, Tryd.ntmps12
  go_wp2_with fail
  generalize w.alloc (.cells #[.int .i64 (t : Int), .int .i64 (n : Int), .int .i64 (r : Int), .int .i64 (g : Int)] 24) = w1 at hK ⊢
  refine (cgood_at HG.out w1).mono ?_
  rintro e w2 ⟨rfl, hb⟩
  have K2 := Lib.hid (hK.on hb)
  clear hK hb
  have c0 := K2.out.fr.c0
  have c1 := K2.out.fr.c1
  have c2 := K2.out.fr.c2
  have c3 := K2.out.fr.c3
  go_wp2_with fail
  refine (non_at H0.out w2).mono ?_
  rintro e w3 ⟨rfl, hb⟩
  have hK3 := (K2.out.on hb).drew
  clear K2 hb c0 c1 c2 c3
  have c0 := hK3.fr.c0
  have c1 := hK3.fr.c1
  have c2 := hK3.fr.c2
  have c3 := hK3.fr.c3
  go_wp2_with fail
  go_region_held3 (fun w' => w'.cell? ⟨w.heap.size, 0, none⟩ = some (.int .i64 (t : Int)) ∧ w'.cell? ⟨w.heap.size, 1, none⟩ = some (.int .i64 (n : Int)) ∧ w'.cell? ⟨w.heap.size, 2, none⟩ = some (.int .i64 (r : Int)) ∧ w'.cell? ⟨w.heap.size, 3, none⟩ = some (.int .i64 (g : Int)) ∧ Tx w w' w.heap.size t n r g s4)
    (first | exact ⟨by with_reducible assumption, by with_reducible assumption, by with_reducible assumption, by with_reducible assumption, by with_reducible assumption⟩ | fail)
    (first
      | (go_at_call 31; ((with_reducible refine (tx_use (by with_reducible assumption) (I1.out _)).mono ?_); rintro e w' ⟨rfl, y0, y1, y2, y3, y4⟩))
      | (go_at_call 31; ((with_reducible refine (tx_use (by with_reducible assumption) (I2.out _)).mono ?_); rintro e w' ⟨rfl, y0, y1, y2, y3, y4⟩))
      | (go_at_call 31; ((with_reducible refine (tx_use (by with_reducible assumption) (Tx.tell (by with_reducible assumption) _ (below_self _))).mono ?_); rintro e w' ⟨rfl, y0, y1, y2, y3, y4⟩))
      | (go_at_call 32; ((with_reducible refine (tx_use (by with_reducible assumption) (I3.out _)).mono ?_); rintro e w' ⟨rfl, y0, y1, y2, y3, y4⟩)))
  go_wp2
  go_ret
  exact ⟨rfl, y4.fr.old⟩
theorem text_bad {a b d f : Int} (h : Cp.good ⟨a, b, d, f⟩ = false) (w : World) : Calls Tryd.prog 12 #[.agg #[.int .i64 a, .int .i64 b, .int .i64 d, .int .i64 f]] w fun e w' => e = .returned (.string ⟨#[]⟩) ∧ Below w.heap.size w w' := by
  have HG := Lib.hid h
  have hK := Fr.new w a b d f 24
  clear h
  go_enter Tryd.func12, Tryd.ntmps12
  go_wp2_with fail
  generalize w.alloc (.cells #[.int .i64 a, .int .i64 b, .int .i64 d, .int .i64 f] 24) = w1 at hK ⊢
  refine (cgood_at HG.out w1).mono ?_
  rintro e w2 ⟨rfl, hb⟩
  have K2 := Lib.hid (hK.on hb)
  clear hK hb
  go_wp2
  go_ret
  exact ⟨rfl, K2.out.old⟩
theorem none_good : Cp.good .none = true := by decide
theorem none_non : Cp.non .none = true := by decide
theorem ctext_none (w : World) : Calls Tryd.prog 12 #[.agg #[.int .i64 0, .int .i64 0, .int .i64 0, .int .i64 0]] w fun e w' => e = .returned (.string ⟨#[45]⟩) ∧ Below w.heap.size w w' := by
  have HG := Lib.hid none_good
  have HN := Lib.hid none_non
  have hK := Fr.new w 0 0 0 0 24
  go_enter Tryd.func12, Tryd.ntmps12
  go_wp2_with fail
  generalize w.alloc (.cells #[.int .i64 0, .int .i64 0, .int .i64 0, .int .i64 0] 24) = w1 at hK ⊢
  refine (cgood_at HG.out w1).mono ?_
  rintro e w2 ⟨rfl, hb⟩
  have K2 := Lib.hid (hK.on hb)
  have c0 := K2.out.c0
  have c1 := K2.out.c1
  have c2 := K2.out.c2
  have c3 := K2.out.c3
  clear hK hb
  go_wp2_with fail
  refine (non_at HN.out w2).mono ?_
  rintro e w3 ⟨rfl, hb⟩
  go_wp2
  go_ret
  exact ⟨rfl, (K2.out.on hb).old⟩

/-- what Text answers -/
def Cp.text (c : Cp) : ByteArray := if c.good = true then (if c.non = true then ⟨#[45]⟩ else ctext c.ty.toNat c.th.toNat c.ri.toNat c.ba.toNat) else ⟨#[]⟩
theorem non_eq {c : Cp} (h : c.non = true) : c = .none := by
  obtain ⟨a, b, d, f⟩ := c
  simp only [Cp.non, Cp.eq, Cp.none, Bool.and_eq_true, beq_iff_eq] at h
  obtain ⟨rfl, rfl, rfl, rfl⟩ := h
  rfl
theorem ctext_any (c : Cp) (w : World) (hT : Tab w) : Calls Tryd.prog 12 #[c.val] w fun e w' => e = .returned (.string c.text) ∧ Below w.heap.size w w' := by
  rcases h : c.good with _ | _
  · have e : c.text = ⟨#[]⟩ := by rw [Cp.text, h]; rfl
    rw [e]
    exact text_bad h w
  · rcases h0 : c.non with _ | _
    · obtain ⟨a, b, d, f⟩ := c
      obtain ⟨t, n, r, g, rfl, rfl, rfl, rfl, h1, h2, h3, h4⟩ := good_nat h
      have e : Cp.text ⟨t, n, r, g⟩ = ctext t n r g := by rw [Cp.text, h, h0]; rfl
      rw [e]
      exact text_yes h h0 h1 h2 h3 rfl rfl rfl (dec_size (by omega)) (dec_size (by omega)) (by have := ltrs_size r h3; omega) (dec_size h4) w (fun w' hb => itoa_tab h4 (hT.on hb))
    · have e := non_eq h0
      subst e
      exact ctext_none w
/-- where the badge is small, no table is asked for -/
theorem ctext_small {t n r g : Nat} {s : ByteArray} (h : Cp.good ⟨t, n, r, g⟩ = true) (h0 : Cp.non ⟨t, n, r, g⟩ = false) (hg : g < 100) (hs : ctext t n r g = s) (w : World) :
    Calls Tryd.prog 12 #[.agg #[.int .i64 (t : Int), .int .i64 (n : Int), .int .i64 (r : Int), .int .i64 (g : Int)]] w fun e w' => e = .returned (.string s) ∧ Below w.heap.size w w' := by
  subst hs
  obtain ⟨t', n', r', g', e1, e2, e3, e4, h1, h2, h3, h4⟩ := good_nat h
  obtain rfl : t = t' := by omega
  obtain rfl : n = n' := by omega
  obtain rfl : r = r' := by omega
  exact text_yes h h0 h1 h2 h3 rfl rfl rfl (dec_size (by omega)) (dec_size (by omega)) (by have := ltrs_size r h3; omega) (dec_size (by omega)) w (fun w' _ => itoa_small hg w')
end Go.Proofs.YtlhdpmkakmkknaaDoor
