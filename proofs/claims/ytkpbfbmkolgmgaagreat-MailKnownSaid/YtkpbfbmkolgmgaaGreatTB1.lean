/-
  Ways through a state as plain data: which ways may be, where one leads, all that go on from a node. Condition: none; where it is said, the state may be.
  The walks of package find's size, leadsOn, follow. Condition: the state lies in memory, and may be.
  The walks of package path's Good and of package find's isThread, Slot, Cap, Empty. Condition: the state and the steps lie in memory.
  What is asked, as plain data: a call, the form of each number that may be asked. No condition.
  The walks of package call's spans, of its forms' table. No condition.
  The walks of package call's fits, Good. Condition: the ways lie in memory.
  The walk of package call's Good. Condition: the ways lie in memory.
-/
import Derived.Test.YtkpbfbmkolgmgaaGreatTKo
import Derived.Test.YtkpbfbmkolgmgaaGreatTKk
import Derived.Test.YtkpbfbmkolgmgaaGreatTKm
import Derived.Lib.SlicesCompact
namespace Go.Proofs.YtkpbfbmkolgmgaaGreat
open Go.RowKit

/-! ### a way -/
def stepOk (z : Int) : Bool := decide (0 ≤ z) && decide (z ≤ 15)
/-- a way that may be -/
def pgood (l : List Int) : Bool := decide (1 ≤ l.length) && (decide (l.length ≤ 3) && l.all stepOk)
theorem stepOk_iff {z : Int} : stepOk z = true ↔ 0 ≤ z ∧ z ≤ 15 := by
  simp only [stepOk, Bool.and_eq_true, decide_eq_true_eq]
theorem pgood_iff {l : List Int} : pgood l = true ↔ 1 ≤ l.length ∧ l.length ≤ 3 ∧ ∀ z ∈ l, 0 ≤ z ∧ z ≤ 15 := by
  simp only [pgood, Bool.and_eq_true, decide_eq_true_eq, List.all_eq_true, stepOk_iff]

/-! ### a Node of a state that may be -/
structure Nd (s : St) (i : Nat) : Prop where
  lt : i < s.th.length
  ty : (thAt s.th i).ty = 2
  b1 : 1 ≤ (thAt s.th i).bits
  b4 : (thAt s.th i).bits ≤ 4
  z : 0 ≤ (thAt s.th i).base
  top : (thAt s.th i).base + tw2 (thAt s.th i).bits ≤ s.sl.length
def szN (s : St) (i : Nat) : Nat := (tw2 (thAt s.th i).bits).toNat
def bsN (s : St) (i : Nat) : Nat := (thAt s.th i).base.toNat
def leadsB (s : St) (k : Nat) : Bool := decide ((slAt s.sl k).c.ty = 2) && decide ((slAt s.sl k).c.ri % 2 = 1)
def nodeOf (s : St) (k : Nat) : Nat := (slAt s.sl k).c.th.toNat
theorem k1_geo {s : St} (h : s.k1 = true) : s.g.ok = true ∧ (s.sl.length : Int) = s.g.s ∧ (s.th.length : Int) = s.g.k := by
  simpa [St.k1, Bool.and_eq_true] using h
theorem nd_of {s : St} (h : Gst s) {i : Nat} (hi : i < s.th.length) (h2 : (thAt s.th i).ty = 2) : Nd s i := by
  obtain ⟨-, hs, -⟩ := k1_geo h.k1
  have hk := h.k2 i hi
  simp only [St.k2, Bool.and_eq_true] at hk
  obtain ⟨hg, hf, -⟩ := hk
  have hf' : (thAt s.th i).base + tw2 (thAt s.th i).bits ≤ s.sl.length := by
    simp only [St.fits2, h2, Bool.not_eq_true', Bool.and_eq_false_iff, decide_eq_false_iff_not] at hf
    rcases hf with hf | hf
    · simp at hf
    · omega
  have hc := tng_good.1 hg
  refine ⟨hi, h2, ?_, ?_, ?_, hf'⟩
  all_goals
    generalize thAt s.th i = t at h2 hc
    cases hc <;> simp only [Tng.of] at h2 ⊢ <;> omega
theorem szN_is {s : St} {i : Nat} (h : Nd s i) : (szN s i : Int) = tw2 (thAt s.th i).bits ∧ 2 ≤ szN s i ∧ szN s i ≤ 16 := by
  obtain ⟨N, h1, h2, h3⟩ := tw2_is h.b1 h.b4
  rw [szN, h1]
  omega
theorem bsN_is {s : St} {i : Nat} (h : Nd s i) : (bsN s i : Int) = (thAt s.th i).base := by
  have := h.z
  rw [bsN]
  omega
theorem bsN_top {s : St} {i : Nat} (h : Nd s i) : bsN s i + szN s i ≤ s.sl.length := by
  have h1 := h.top
  have h2 := (szN_is h).1
  have h3 := bsN_is h
  omega
theorem nd_next {s : St} (h : Gst s) {k : Nat} (hk : k < s.sl.length) (hl : leadsB s k = true) : Nd s (nodeOf s k) ∧ 0 ≤ (slAt s.sl k).c.th := by
  have h4 := h.k4 k hk
  simp only [leadsB, Bool.and_eq_true, decide_eq_true_eq] at hl
  simp only [St.k4, Bool.and_eq_true, hl.1, if_neg (show ¬ (2 : Int) = 0 by omega)] at h4
  obtain ⟨hg, ht, -⟩ := h4
  simp only [St.thing4, Bool.and_eq_true, decide_eq_true_eq, beq_iff_eq] at ht
  have hz : 0 ≤ (slAt s.sl k).c.th := by
    generalize (slAt s.sl k).c = c at hg
    obtain ⟨a, b, d, f⟩ := c
    rcases good_iff_all.1 hg with ⟨h1, h2, h3, h4⟩ | h1
    · simp only; omega
    · simp only; omega
  exact ⟨nd_of h (by rw [nodeOf]; omega) (by rw [nodeOf, ht.2, hl.1]), hz⟩
theorem nd_root {s : St} (h : Gst s) {t : Nat} (ht : (t : Int) < s.g.t) : Nd s (2 + t) := by
  have h3 := Tng.eq_iff.1 (h.k3 t ht)
  refine nd_of h ?_ (by rw [h3]; rfl)
  rcases Nat.lt_or_ge (2 + t) s.th.length with h0 | h0
  · exact h0
  · rw [thAt_out h0] at h3
    have := congrArg Tng.ty h3
    simp [Tng.zero, Tng.of, rootT] at this
theorem nd_owner {s : St} {i : Nat} (h : Nd s i) {x : Nat} (hx : x < szN s i) : (ownerN s.th ((bsN s i + x : Nat) : Int)).isSome = true := by
  rcases he : ownerN s.th ((bsN s i + x : Nat) : Int) with _ | o
  · have h1 := ownerN_none.1 he i h.lt
    have h2 : (thAt s.th i).hasS ((bsN s i + x : Nat) : Int) = true := Tng.hasS_iff.2 ⟨h.ty, by have := bsN_is h; omega, by have := bsN_is h; have := (szN_is h).1; omega⟩
    rw [h2] at h1
    cases h1
  · rfl

/-! ### where one leads -/
def ffol (s : St) : Nat → List Int → Option Nat
  | _, [] => none
  | i, [x] => if x < szN s i then some (bsN s i + x.toNat) else none
  | i, x :: y :: l => if x < szN s i then (if leadsB s (bsN s i + x.toNat) = true then ffol s (nodeOf s (bsN s i + x.toNat)) (y :: l) else none) else none
def fthread (s : St) (t : Int) : Bool := sgood s && (decide (0 ≤ t) && decide (t < s.g.t))
theorem fthread_iff {s : St} {t : Int} : fthread s t = true ↔ sgood s = true ∧ 0 ≤ t ∧ t < s.g.t := by simp [fthread]
def fwhere (s : St) (t : Int) (l : List Int) : Option Nat := ffol s (2 + t).toNat l
def fpair : Option Nat → Int × Int
  | some k => ((k : Int), 0)
  | none => (0, 3)
/-- a way's slot, and the error -/
def fslot (s : St) (t : Int) (l : List Int) : Int × Int := if fthread s t = true ∧ pgood l = true then fpair (fwhere s t l) else (0, 1)
def fcap (s : St) (t : Int) (l : List Int) : Int × Cp × Int :=
  if (fslot s t l).2 = 0 then (if (slAt s.sl (fslot s t l).1.toNat).c.non = true then (0, .none, 4) else ((fslot s t l).1, (slAt s.sl (fslot s t l).1.toNat).c, 0)) else (0, .none, (fslot s t l).2)
def fempty (s : St) (t : Int) (l : List Int) : Int × Int :=
  if (fslot s t l).2 = 0 then (if (slAt s.sl (fslot s t l).1.toNat).c.non = true then ((fslot s t l).1, 0) else (0, 5)) else (0, (fslot s t l).2)
theorem ffol_owned {s : St} (h : Gst s) : ∀ {l : List Int} {i k : Nat}, Nd s i → (∀ x ∈ l, 0 ≤ x ∧ x ≤ 15) → ffol s i l = some k → k < s.sl.length ∧ (ownerN s.th (k : Int)).isSome = true
  | [], _, _, _, _, e => by simp [ffol] at e
  | [x], i, k, hn, hx, e => by
    have hx0 := hx x (List.mem_cons_self ..)
    simp only [ffol] at e
    split at e
    · rename_i hlt
      obtain rfl : bsN s i + x.toNat = k := by simpa using e
      have h1 : x.toNat < szN s i := by omega
      have := bsN_top hn
      exact ⟨by omega, nd_owner hn h1⟩
    · cases e
  | x :: y :: l, i, k, hn, hx, e => by
    have hx0 := hx x (List.mem_cons_self ..)
    simp only [ffol] at e
    split at e
    · rename_i hlt
      have h1 : x.toNat < szN s i := by omega
      have := bsN_top hn
      split at e
      · rename_i hl
        exact ffol_owned h (nd_next h (by omega) hl).1 (fun z hz => hx z (List.mem_cons_of_mem _ hz)) e
      · cases e
    · cases e

theorem fslot_slot {s : St} {t x : Int} {l : List Int} (h : fslot s t l = (x, 0)) : ∃ k : Nat, x = k ∧ k < s.sl.length ∧ sgood s = true := by
  rw [fslot] at h
  split at h
  · rename_i hc
    obtain ⟨hg, h0, h1⟩ := fthread_iff.1 hc.1
    have hG := sgood_iff.1 hg
    rcases hw : fwhere s t l with _ | k
    · rw [hw, fpair] at h
      cases h
    · rw [hw, fpair] at h
      obtain ⟨rfl, -⟩ := Prod.mk.inj h
      rw [fwhere, show (2 + t).toNat = 2 + t.toNat by omega] at hw
      exact ⟨k, rfl, (ffol_owned hG (nd_root hG (by omega)) (pgood_iff.1 hc.2).2.2 hw).1, hg⟩
  · cases h
/-! ### all ways that go on from a node -/
/-! ### a slice made compact -/
end Go.Proofs.YtkpbfbmkolgmgaaGreat
namespace Go.Proofs.YtkpbfbmkolgmgaaGreat
open Go.RowKit

theorem bits_cases {b : Int} (h1 : 1 ≤ b) (h4 : b ≤ 4) : b = 1 ∨ b = 2 ∨ b = 3 ∨ b = 4 := by omega
set_option maxHeartbeats 4000000 in
theorem size_is {s : St} {a b c : Int} {A C : Option Addr} {n ca m cc : Nat} {i z : Nat} {w : World} (hS : StH w s a b c A n ca C m cc) (hN : Nd s i) (hz : szN s i = z) :
    Calls Tryz.prog 199 #[.agg #[.int .i64 a, .int .i64 b, .int .i64 c, .slice A n ca, .slice C m cc], .int .i64 (i : Int)] w fun e w' => e = .returned (.int .i64 (z : Int)) ∧ Below w.heap.size w w' := by
  have hlt := hN.lt
  obtain ⟨sb, sp, rfl, hsb, hc⟩ := hS.lies.th (by omega)
  have c1 := (hc i hlt).c1
  have hm := hS.hm
  have hlt2 : (i : Int) < (m : Int) := by omega
  have k1 := Sbx.new w a b c A n ca (some ⟨sb, sp, none⟩) m cc 27
  have hz2 : (z : Int) = tw2 (thAt s.th i).bits := by rw [← hz]; exact (szN_is hN).1
  have hb := bits_cases hN.b1 hN.b4
  have HS := Lib.hid hS
  generalize (thAt s.th i).bits = t at c1 hz2 hb
  have e1 := k1.old.cell (p := ⟨sb, sp + i * 13 + 1, none⟩) hsb
  rw [c1] at e1
  clear hS hc hlt c1 hz hm hN hsb
  rcases hb with rfl | rfl | rfl | rfl
  all_goals
    rw [show tw2 _ = _ from rfl] at hz2
    rw [hz2]
    clear hz2
    go_enter Tryz.func199, Tryz.ntmps199
    go_wp2_with fail
    generalize w.alloc _ = w0 at k1 e1 ⊢
    obtain ⟨b0, b1, b2, c3, c4, old, -, lt⟩ := k1
    have HO := Lib.hid old
    clear old
    go_wp2
    go_ret
    exact ⟨by rfl, HO.out⟩
set_option maxHeartbeats 4000000 in
theorem leads_is {s : St} {a b c : Int} {A C : Option Addr} {n ca m cc : Nat} {k : Nat} {r : Bool} {w : World} (hS : StH w s a b c A n ca C m cc) (hG : Gst s) (hk : k < s.sl.length) (hr : leadsB s k = r) :
    Calls Tryz.prog 200 #[.agg #[.int .i64 a, .int .i64 b, .int .i64 c, .slice A n ca, .slice C m cc], .int .i64 (k : Int)] w fun e w' => e = .returned (.bool r) ∧ Below w.heap.size w w' := by
  obtain ⟨sb, sp, rfl, hsb, hc⟩ := hS.lies.sl (by omega)
  have hT := hc k hk
  have hg := (hG.k4 k hk)
  rw [St.k4, Bool.and_eq_true] at hg
  have hg := hg.1
  have hn := hS.hn
  have hk2 : (k : Int) < (n : Int) := by omega
  have k1 := Sbx.new w a b c (some ⟨sb, sp, none⟩) n ca C m cc 27
  rw [leadsB] at hr
  generalize slAt s.sl k = y at hT hg hr
  obtain ⟨⟨ty, th, ri, ba⟩, up⟩ := y
  obtain ⟨s0, s1, s2, s3, -⟩ := hT
  simp only at s0 s1 s2 s3 hg hr
  have e0 := k1.old.cell (p := ⟨sb, sp + k * 5, none⟩) hsb
  have e1 := k1.old.cell (p := ⟨sb, sp + k * 5 + 1, none⟩) hsb
  have e2 := k1.old.cell (p := ⟨sb, sp + k * 5 + 2, none⟩) hsb
  have e3 := k1.old.cell (p := ⟨sb, sp + k * 5 + 3, none⟩) hsb
  rw [s0] at e0
  rw [s1] at e1
  rw [s2] at e2
  rw [s3] at e3
  have hri : 0 ≤ ri ∧ ri ≤ 7 := by
    rcases good_iff_all.1 hg with ⟨h1, h2, h3, h4⟩ | h1
    · omega
    · omega
  have hri : ri = 0 ∨ ri = 1 ∨ ri = 2 ∨ ri = 3 ∨ ri = 4 ∨ ri = 5 ∨ ri = 6 ∨ ri = 7 := by omega
  have hand : (bits BinOp.and IntKind.i64 ri 1 != 0) = decide (ri % 2 = 1) := by
    rcases hri with rfl | rfl | rfl | rfl | rfl | rfl | rfl | rfl <;> rfl
  generalize decide (ri % 2 = 1) = z at hand hr
  by_cases h2 : ty = 2
  · subst h2
    have HR : Hid (r = z) := Lib.hid (by rw [← hr]; rfl)
    clear hS hc hk hG hg hn hsb s0 s1 s2 s3 hri hr
    go_enter Tryz.func200, Tryz.ntmps200
    go_wp2_with fail
    generalize w.alloc _ = w0 at k1 e0 e1 e2 e3 ⊢
    obtain ⟨b0, b1, b2, c3, c4, old, -, lt⟩ := k1
    have HO := Lib.hid old
    clear old
    go_wp2
    go_ret
    exact ⟨by rw [HR.out]; rfl, below_on HO.out (below_alloc _ _)⟩
  · have HR : Hid (r = false) := Lib.hid (by rw [← hr, decide_eq_false h2]; rfl)
    clear hS hc hk hG hg hn hsb s0 s1 s2 s3 hri hr
    go_enter Tryz.func200, Tryz.ntmps200
    go_wp2_with fail
    generalize w.alloc _ = w0 at k1 e0 e1 e2 e3 ⊢
    obtain ⟨b0, b1, b2, c3, c4, old, -, lt⟩ := k1
    have HO := Lib.hid old
    clear old
    go_wp2
    go_ret
    exact ⟨by rw [HR.out]; rfl, below_on HO.out (below_alloc _ _)⟩

/-! ### follow -/
theorem k6_use {f : Nat} {args : Array Value} {r v : Value} {W w0 w1 : World} {g sb so : Nat} {a b c : Int} {A : Option Addr} {n ca : Nat} {C : Option Addr} {m cc : Nat} (K : Sbx W w0 g a b c A n ca C m cc) (hlt : sb < w0.heap.size) (hs : w0.cell? ⟨sb, so, none⟩ = some v) (hb : Below w0.heap.size w0 w1)
    (hC : Calls Tryz.prog f args w1 fun e w' => e = .returned r ∧ Below w1.heap.size w1 w') :
    Calls Tryz.prog f args w1 fun e w' => e = .returned r ∧ w'.cell? ⟨g, 0, none⟩ = some (.int .i64 a) ∧ w'.cell? ⟨g, 1, none⟩ = some (.int .i64 b) ∧ w'.cell? ⟨g, 2, none⟩ = some (.int .i64 c) ∧ w'.cell? ⟨g, 3, none⟩ = some (.slice A n ca) ∧ w'.cell? ⟨g, 4, none⟩ = some (.slice C m cc) ∧ w'.cell? ⟨sb, so, none⟩ = some v ∧ Below w0.heap.size w0 w' := by
  refine hC.mono ?_
  rintro e w' ⟨rfl, h⟩
  have hb' := below_on hb h
  obtain ⟨b0, b1, b2, c3, c4, -, -, -⟩ := K.on hb'
  exact ⟨rfl, b0, b1, b2, c3, c4, (hb'.cell (p := ⟨sb, so, none⟩) hlt).trans hs, hb'⟩
def fov : Option Nat → Value
  | some k => .tuple #[.int .i64 (k : Int), .bool true]
  | none => .tuple #[.int .i64 0, .bool false]
theorem ints_head {w : World} {B : Option Addr} {x : Int} {l : List Int} {N : Nat} (h : IntsAt w N B (x :: l)) : ∃ sb so, B = some ⟨sb, so, none⟩ ∧ sb < N ∧ w.cell? ⟨sb, so, none⟩ = some (.int .i64 x) ∧ IntsAt w N (some ⟨sb, so + 1, none⟩) l := by
  obtain ⟨sb, so, e, hlt, hc⟩ := h (by simp)
  refine ⟨sb, so, e, hlt, by simpa using hc 0 x rfl, fun _ => ⟨sb, so + 1, rfl, hlt, fun j z hz => ?_⟩⟩
  have := hc (j + 1) z (by simpa using hz)
  rwa [show so + (j + 1) = so + 1 + j by omega] at this
def FolC (s : St) (a b c : Int) (A : Option Addr) (n ca : Nat) (C : Option Addr) (m cc : Nat) (l : List Int) : Prop :=
  ∀ (i q cap : Nat) (B : Option Addr) (r : Option Nat) (w : World), StH w s a b c A n ca C m cc → Nd s i → 0 < l.length → l.length ≤ 3 → (∀ x ∈ l, 0 ≤ x ∧ x ≤ 15) → q = l.length → q ≤ cap → IntsAt w w.heap.size B l → ffol s i l = r →
    Calls Tryz.prog 176 #[.agg #[.int .i64 a, .int .i64 b, .int .i64 c, .slice A n ca, .slice C m cc], .int .i64 (i : Int), .slice B q cap] w fun e w' => e = .returned (fov r) ∧ Below w.heap.size w w'
set_option maxRecDepth 100000 in
set_option maxHeartbeats 8000000 in
theorem follow_is {s : St} {a b c : Int} {A C : Option Addr} {n ca m cc : Nat} (hG : Gst s) : ∀ (l : List Int), FolC s a b c A n ca C m cc l
  | [] => fun _ _ _ _ _ _ _ _ h0 => absurd h0 (by simp)
  | x :: l => by
    have ih := follow_is (s := s) (a := a) (b := b) (c := c) (A := A) (C := C) (n := n) (ca := ca) (m := m) (cc := cc) hG l
    intro i q cap B r w hS hN _ h3 hx hq hcap hL hr
    obtain ⟨sb, so, rfl, hsb, hc, hT⟩ := ints_head hL
    have hx0 := (hx x (List.mem_cons_self ..))
    obtain ⟨z, hz⟩ : ∃ z, szN s i = z := ⟨_, rfl⟩
    have k1 := Sbx.new w a b c A n ca C m cc 27
    have hq1 : q = l.length + 1 := by simpa using hq
    have hq3 : q ≤ 3 := by simp only [List.length_cons] at h3; omega
    have hqi : (0 : Int) < (q : Int) := by omega
    have hqn : 0 < q := by omega
    have HS0 := Lib.hid hS
    have HT := Lib.hid hT
    have HN := Lib.hid hN
    have HX := Lib.hid hx
    have HQ := Lib.hid hq1
    have HQ3 := Lib.hid hq3
    have HCAP := Lib.hid hcap
    have HR := Lib.hid hr
    have HZ := Lib.hid hz
    have HX0 := Lib.hid hx0
    have IH := Lib.hid ih
    clear hS hT hN hx hq hq1 hq3 hcap hr hz hx0 ih h3 hL
    go_enter Tryz.func176, Tryz.ntmps176
    go_wp2_with fail
    generalize hw0 : w.alloc _ = w0 at k1 ⊢
    clear hw0
    have s0 : w0.drew.cell? ⟨sb, so, none⟩ = some (.int .i64 x) := (k1.old.cell (p := ⟨sb, so, none⟩) hsb).trans hc
    have hsb0 : sb < w0.heap.size := Nat.lt_of_lt_of_le hsb k1.old.size
    have K1 : Hid (Sbx w w0.drew w.heap.size a b c A n ca C m cc) := Lib.hid ⟨k1.c0, k1.c1, k1.c2, k1.c3, k1.c4, k1.old.drew, k1.base, k1.lt⟩
    have HS := Lib.hid (HS0.out.on K1.out.old)
    clear k1 hc
    obtain ⟨b0, b1, b2, c3, c4, -, -, lt⟩ := K1.out
    have CS : Hid (∀ w1, Below w0.drew.heap.size w0.drew w1 → _) := Lib.hid fun w1 (h : Below w0.drew.heap.size w0.drew w1) => k6_use K1.out hsb0 s0 h (size_is (HS.out.on h) HN.out HZ.out)
    have hb0 : Below w0.drew.heap.size w0.drew w0.drew := Below.refl _ _
    obtain ⟨g, hg⟩ : ∃ g, g = w.heap.size := ⟨_, rfl⟩
    rw [← hg] at CS K1 b0 b1 b2 c3 c4 lt ⊢
    have HGG := Lib.hid hg
    clear hg
    go_region_held3 (fun w' => w'.cell? ⟨g, 0, none⟩ = some (.int .i64 a) ∧ w'.cell? ⟨g, 1, none⟩ = some (.int .i64 b) ∧ w'.cell? ⟨g, 2, none⟩ = some (.int .i64 c) ∧ w'.cell? ⟨g, 3, none⟩ = some (.slice A n ca) ∧ w'.cell? ⟨g, 4, none⟩ = some (.slice C m cc) ∧ w'.cell? ⟨sb, so, none⟩ = some (.int .i64 x) ∧ Below w0.drew.heap.size w0.drew w')
      (first | exact ⟨by with_reducible assumption, by with_reducible assumption, by with_reducible assumption, by with_reducible assumption, by with_reducible assumption, by with_reducible assumption, by with_reducible assumption⟩ | fail)
      (first
        | (go_at_call 199; ((with_reducible refine (CS.out _ (by with_reducible assumption)).mono ?_); rintro e w' ⟨rfl, y0, y1, y2, y3, y4, y5, y6⟩))
        | fail)
    have y7 := y6
    have y8 := y5
    clear b0 b1 b2 c3 c4 lt s0 hb0 y0 y1 y2 y3 y4 y5
    have K2 := Lib.hid (K1.out.on y6)
    clear y6 K1 CS
    obtain ⟨b0, b1, b2, c3, c4, -, -, lt⟩ := K2.out
    by_cases hxz : x < (z : Int)
    case neg =>
      have hxz2 : (z : Int) ≤ x := by omega
      have HF : Hid (r = none) := Lib.hid (by rw [← HR.out]; cases l <;> simp only [ffol] <;> rw [if_neg (by rw [HZ.out]; exact hxz)])
      go_wp2
      go_ret2
      exact ⟨by rw [HF.out]; rfl, K2.out.old⟩
    have hxz2 : ¬ (z : Int) ≤ x := by omega
    have hlt := HN.out.lt
    obtain ⟨tb, tp, rfl, htb, htc⟩ := (HS.out.on y7).lies.th (by omega)
    have e2 := (htc i hlt).c2
    have hm := HS.out.hm
    have hlt2 : (i : Int) < (m : Int) := by omega
    have s1 : w'.cell? ⟨sb, so, none⟩ = some (.int .i64 x) := y8
    obtain ⟨k, hk⟩ : ∃ k, k = bsN s i + x.toNat := ⟨_, rfl⟩
    have ht0 := HN.out.z
    have ht1 := bsN_top HN.out
    have hbs := bsN_is HN.out
    have hfew := HS.out.few
    have hn := HS.out.hn
    have hkl : k < s.sl.length := by have := HX0.out; have := HZ.out; omega
    have hz1 := (szN_is HN.out).2.2
    generalize (thAt s.th i).base = t at e2 ht0 hbs
    have hx0 := HX0.out.1
    have hx1 := HX0.out.2
    have hkk : t + x = (k : Int) := by omega
    have ht2 : t ≤ 1000 := by omega
    have HKL := Lib.hid hkl
    have HK := Lib.hid hk
    have HKN : Hid ((k : Int) < (n : Int)) := Lib.hid (by omega)
    have HY7 := Lib.hid y7
    clear htb htc hlt hm hk ht1 hbs hfew hn hkl hz1 y7 y8
    go_wp2_with fail
    go_quiet (fail)
    cases l with
    | nil =>
      have hq1 : q = 1 := HQ.out
      subst hq1
      have HF : Hid (r = some k) := Lib.hid (by rw [← HR.out, HK.out]; simp only [ffol]; rw [if_pos (by rw [HZ.out]; exact hxz)])
      go_wp2
      go_ret2
      exact ⟨by rw [HF.out]; rfl, below_draws K2.out.old _⟩
    | cons y l' =>
    have hq1 : ¬ (q : Int) = 1 := by have := HQ.out; simp only [List.length_cons] at this; omega
    have HSW := Lib.hid (HS.out.on (below_draws HY7.out nq))
    have KW : Hid (Sbx w (w'.drewN nq) g a b c A n ca (some ⟨tb, tp, none⟩) m cc) := Lib.hid ⟨K2.out.c0, K2.out.c1, K2.out.c2, K2.out.c3, K2.out.c4, below_draws K2.out.old _, K2.out.base, K2.out.lt⟩
    have HB2 := Lib.hid (below_draws HY7.out nq)
    clear HY7 K2 s1 e2
    obtain ⟨z2, hz2⟩ : ∃ z2, leadsB s k = z2 := ⟨_, rfl⟩
    have HZ2 := Lib.hid hz2
    clear hz2
    go_wp2_with fail
    refine (leads_is HSW.out hG HKL.out HZ2.out).mono ?_
    rintro e w3 ⟨rfl, hb3⟩
    have K3 := Lib.hid (KW.out.on hb3)
    have HS3 := Lib.hid (HSW.out.on hb3)
    have HB3 := Lib.hid (HB2.out.trans (hb3.mono HB2.out.size))
    clear b0 b1 b2 c3 c4 lt KW HSW HB2 hb3
    cases z2 with
    | false =>
      have HF : Hid (r = none) := Lib.hid (by rw [← HR.out]; simp only [ffol]; rw [if_pos (by rw [HZ.out]; exact hxz), ← HK.out, HZ2.out]; rfl)
      go_wp2
      go_ret2
      exact ⟨by rw [HF.out]; rfl, K3.out.old⟩
    | true =>
    obtain ⟨b0, b1, b2, c3, c4, -, -, lt⟩ := K3.out
    obtain ⟨hN2, hth⟩ := nd_next hG HKL.out HZ2.out
    obtain ⟨lb, lp, rfl, hlb, hlc⟩ := HS3.out.lies.sl (by have := HKL.out; omega)
    have e1 := (hlc k HKL.out).c1
    have hnd : (slAt s.sl k).c.th = (nodeOf s k : Int) := by rw [nodeOf]; omega
    rw [hnd] at e1
    have hkn := HKN.out
    have HN2 := Lib.hid hN2
    have HF : Hid (ffol s (nodeOf s k) (y :: l') = r) := Lib.hid (by rw [← HR.out]; simp only [ffol]; rw [if_pos (by rw [HZ.out]; exact hxz), ← HK.out, if_pos HZ2.out])
    generalize nodeOf s k = j at e1 HN2 HF
    have hq2 : 1 ≤ q := by have := HQ.out; omega
    have hqc : q ≤ cap := HCAP.out
    have hq3 : (1 : Int) ≤ (q : Int) := by omega
    have hqc2 : (q : Int) ≤ (cap : Int) := by omega
    have hcap1 : ¬ cap = 1 := by have := HQ.out; simp only [List.length_cons] at this; omega
    have KD : Hid (Sbx w w3.drew g a b c (some ⟨lb, lp, none⟩) n ca (some ⟨tb, tp, none⟩) m cc) := Lib.hid ⟨b0, b1, b2, c3, c4, K3.out.old.drew, K3.out.base, lt⟩
    have hlb3 : lb < w3.drew.heap.size := hlb
    replace e1 : w3.drew.cell? ⟨lb, lp + k * 5 + 1, none⟩ = some (.int .i64 (j : Int)) := e1
    have IHC := Lib.hid fun w1 (h : Below w3.drew.heap.size w3.drew w1) => k6_use KD.out hlb3 e1 h (IH.out j (q - 1) (cap - 1) (some ⟨sb, so + 1, none⟩) r w1 (HS3.out.on (below_on (below_self w3).drew h)) HN2.out (by simp) (by have := HQ.out; have := HQ3.out; simp only [List.length_cons] at *; omega) (fun z hz => HX.out z (List.mem_cons_of_mem _ hz)) (by have := HQ.out; simp only [List.length_cons] at *; omega) (by have := HCAP.out; omega) (HT.out.on (below_on KD.out.old h)) HF.out)
    clear hlb hlc hnd hN2 hth hlb3 b0 b1 b2 c3 c4 lt
    obtain ⟨b0, b1, b2, c3, c4, -, -, lt⟩ := KD.out
    have hb0 : Below w3.drew.heap.size w3.drew w3.drew := Below.refl _ _
    cases r with
    | none =>
      simp only [fov] at IHC ⊢
      go_wp2_with fail
      go_region_held3 (fun w' => w'.cell? ⟨g, 0, none⟩ = some (.int .i64 a) ∧ w'.cell? ⟨g, 1, none⟩ = some (.int .i64 b) ∧ w'.cell? ⟨g, 2, none⟩ = some (.int .i64 c) ∧ w'.cell? ⟨g, 3, none⟩ = some (.slice (some ⟨lb, lp, none⟩) n ca) ∧ w'.cell? ⟨g, 4, none⟩ = some (.slice (some ⟨tb, tp, none⟩) m cc) ∧ w'.cell? ⟨lb, lp + k * 5 + 1, none⟩ = some (.int .i64 (j : Int)) ∧ Below w3.drew.heap.size w3.drew w')
        (first | exact ⟨by with_reducible assumption, by with_reducible assumption, by with_reducible assumption, by with_reducible assumption, by with_reducible assumption, by with_reducible assumption, by with_reducible assumption⟩ | fail)
        (first
          | (go_at_call 176; ((with_reducible refine (IHC.out _ (by with_reducible assumption)).mono ?_); rintro e w' ⟨rfl, y0, y1, y2, y3, y4, y5, y6⟩))
          | fail)
      go_wp2
      go_ret2
      exact ⟨rfl, below_on KD.out.old (by with_reducible assumption)⟩
    | some kk =>
      simp only [fov] at IHC ⊢
      go_wp2_with fail
      go_region_held3 (fun w' => w'.cell? ⟨g, 0, none⟩ = some (.int .i64 a) ∧ w'.cell? ⟨g, 1, none⟩ = some (.int .i64 b) ∧ w'.cell? ⟨g, 2, none⟩ = some (.int .i64 c) ∧ w'.cell? ⟨g, 3, none⟩ = some (.slice (some ⟨lb, lp, none⟩) n ca) ∧ w'.cell? ⟨g, 4, none⟩ = some (.slice (some ⟨tb, tp, none⟩) m cc) ∧ w'.cell? ⟨lb, lp + k * 5 + 1, none⟩ = some (.int .i64 (j : Int)) ∧ Below w3.drew.heap.size w3.drew w')
        (first | exact ⟨by with_reducible assumption, by with_reducible assumption, by with_reducible assumption, by with_reducible assumption, by with_reducible assumption, by with_reducible assumption, by with_reducible assumption⟩ | fail)
        (first
          | (go_at_call 176; ((with_reducible refine (IHC.out _ (by with_reducible assumption)).mono ?_); rintro e w' ⟨rfl, y0, y1, y2, y3, y4, y5, y6⟩))
          | fail)
      go_wp2
      go_ret2
      exact ⟨rfl, below_on KD.out.old (by with_reducible assumption)⟩
end Go.Proofs.YtkpbfbmkolgmgaaGreat
namespace Go.Proofs.YtkpbfbmkolgmgaaGreat
open Go.RowKit

def WGoodRel (W : World) (n : Nat) (l : List Int) (k : Nat) (p : Value) (wr : World) : Prop :=
  ∃ i : Nat, k + i = n ∧ p = .int .i64 i ∧ (l.take i).all stepOk = true ∧ Below W.heap.size W wr

set_option maxHeartbeats 1000000 in
theorem wgood_is {A : Option Addr} {n cap : Nat} {l : List Int} {r : Bool} {w : World} (hn : n = l.length) (hL : IntsAt w w.heap.size A l) (hr : pgood l = r) :
    Calls Tryz.prog 135 #[.agg #[.slice A n cap]] w fun e w' => e = .returned (.bool r) ∧ Below w.heap.size w w' := by
  have LL := Lib.hid hL
  have HN := Lib.hid hn
  rw [← hr]
  clear hn hL hr
  by_cases h1 : n < 1
  · have e : pgood l = false := by rw [pgood, ← HN.out, decide_eq_false (by omega), Bool.false_and]
    rw [e]
    have h1' : (n : Int) < 1 := by omega
    clear e h1
    go_enter Tryz.func135, Tryz.ntmps135
    go_wp2
    go_ret
    exact ⟨rfl, below_alloc _ _⟩
  by_cases h3 : n > 3
  · have e : pgood l = false := by rw [pgood, ← HN.out, decide_eq_false (p := n ≤ 3) (by omega), Bool.false_and, Bool.and_false]
    rw [e]
    have h1' : ¬ (n : Int) < 1 := by omega
    have h3' : (3 : Int) < n := by omega
    clear e h1 h3
    go_enter Tryz.func135, Tryz.ntmps135
    go_wp2
    go_ret
    exact ⟨rfl, below_alloc _ _⟩
  have e : pgood l = l.all stepOk := by rw [pgood, ← HN.out, decide_eq_true (p := 1 ≤ n) (by omega), decide_eq_true (p := n ≤ 3) (by omega), Bool.true_and, Bool.true_and]
  rw [e]
  have h1' : ¬ (n : Int) < 1 := by omega
  have h3' : ¬ (3 : Int) < n := by omega
  have H3 := Lib.hid h3
  clear e h1 h3
  go_enter Tryz.func135, Tryz.ntmps135
  go_wp2_with fail
  go_loopg [18] n (fun k p wr => WGoodRel w n l k p wr)
  case atStart => exact ⟨0, by omega, rfl, rfl, below_alloc _ _⟩
  case round =>
    obtain ⟨i, hk, rfl, ha, hb⟩ := hrel
    have HK := Lib.hid hk
    have HB := Lib.hid hb
    have HA := Lib.hid ha
    clear hk hb ha
    by_cases hlt : i < n
    · have HLT := Lib.hid hlt
      have hlt2 : (i : Int) < (n : Int) := by omega
      obtain ⟨b, o, rfl, hblk, hc⟩ := LL.out (by rw [← HN.out]; omega)
      obtain ⟨z, hz⟩ : ∃ z, l[i]? = some z := ⟨l[i]'(by rw [← HN.out]; exact hlt), List.getElem?_eq_getElem _⟩
      have HZ := Lib.hid hz
      have c1 := hc i z hz
      rw [← HB.out.cell (p := ⟨b, _, none⟩) hblk] at c1
      clear hc hblk hz
      by_cases hs : stepOk z = true
      · obtain ⟨g1, g2⟩ := stepOk_iff.1 hs
        have g1' : ¬ z < 0 := by omega
        have g2' : ¬ 15 < z := by omega
        have HS := Lib.hid hs
        clear g1 g2 hs
        go_wp2
        go_roundg (n - (i + 1))
        case measure => have := HK.out; have := HLT.out; omega
        case rel =>
          refine ⟨i + 1, by have := HLT.out; omega, by go_num, ?_, HB.out⟩
          rw [List.take_add_one, HZ.out, List.all_append, HA.out]
          simpa using HS.out
      · have hf : l.all stepOk = false := by
          rw [Bool.eq_false_iff]
          intro e
          exact hs (List.all_eq_true.1 e z (List.mem_of_getElem? HZ.out))
        have HF := Lib.hid hf
        by_cases g1 : z < 0
        · clear hs hf
          go_wp2
          go_ret
          exact ⟨by rw [HF.out]; rfl, HB.out⟩
        · have g2 : 15 < z := by
            rw [stepOk_iff] at hs
            omega
          clear hs hf
          go_wp2
          go_ret
          exact ⟨by rw [HF.out]; rfl, HB.out⟩
    · go_wp2
      go_ret
      refine ⟨?_, HB.out⟩
      have hi : i = l.length := by have := HK.out; have := HN.out; omega
      have := HA.out
      rw [hi, List.take_length] at this
      rw [this]
      rfl

/-! ### isThread -/
set_option maxHeartbeats 4000000 in
theorem thread_is {s : St} {a b c : Int} {A C : Option Addr} {n ca m cc : Nat} {t : Int} {r : Bool} {w : World} (hS : StH w s a b c A n ca C m cc) (hr : fthread s t = r) :
    Calls Tryz.prog 175 #[.agg #[.int .i64 a, .int .i64 b, .int .i64 c, .slice A n ca, .slice C m cc], .int .i64 t] w fun e w' => e = .returned (.bool r) ∧ Below w.heap.size w w' := by
  have hga : s.g.t = a := by rw [hS.hg]
  have HR := Lib.hid hr
  have k1 := Sbx.new w a b c A n ca C m cc 27
  have HS := Lib.hid hS
  have HGA := Lib.hid hga
  clear hr hS hga
  obtain ⟨z, hz⟩ : ∃ z, sgood s = z := ⟨_, rfl⟩
  have HZ := Lib.hid hz
  clear hz
  go_enter Tryz.func175, Tryz.ntmps175
  go_wp2_with fail
  generalize w.alloc _ = w0 at k1 ⊢
  have K1 := Lib.hid k1
  obtain ⟨b0, b1, b2, c3, c4, -, -, lt⟩ := k1
  go_wp2_with fail
  refine (sgood_is (HS.out.on K1.out.old) HZ.out).mono ?_
  rintro e w2 ⟨rfl, hb⟩
  have K2 := Lib.hid (K1.out.on hb)
  clear hb b0 b1 b2 c3 c4 lt K1
  obtain ⟨b0, b1, b2, c3, c4, -, -, lt⟩ := K2.out
  rcases z with _ | _
  · have HF : Hid (r = false) := Lib.hid (by rw [← HR.out, fthread, HZ.out]; rfl)
    go_wp2
    go_ret
    exact ⟨by rw [HF.out]; rfl, K2.out.old⟩
  by_cases h0 : 0 ≤ t
  case neg =>
    have HF : Hid (r = false) := Lib.hid (by rw [← HR.out, fthread, decide_eq_false h0, Bool.false_and, Bool.and_false])
    go_wp2
    go_ret
    exact ⟨by rw [HF.out]; rfl, K2.out.old⟩
  have HF : Hid (r = decide (t < a)) := Lib.hid (by rw [← HR.out, fthread, HZ.out, decide_eq_true h0, HGA.out]; rfl)
  go_wp2
  go_ret
  exact ⟨by rw [HF.out]; rfl, K2.out.old⟩

/-! ### Slot -/
set_option maxRecDepth 100000 in
set_option maxHeartbeats 8000000 in
theorem slot_is {s : St} {a b c : Int} {A C : Option Addr} {n ca m cc : Nat} {t x y : Int} {B : Option Addr} {q cap : Nat} {l : List Int} {w : World} (hS : StH w s a b c A n ca C m cc) (hq : q = l.length) (hcap : q ≤ cap) (hL : IntsAt w w.heap.size B l) (hr : fslot s t l = (x, y)) :
    Calls Tryz.prog 137 #[.agg #[.int .i64 a, .int .i64 b, .int .i64 c, .slice A n ca, .slice C m cc], .int .i64 t, .agg #[.slice B q cap]] w fun e w' => e = .returned (.tuple #[.int .i64 x, .int .i64 y]) ∧ Below w.heap.size w w' := by
  have HR := Lib.hid hr
  have k1 := (Sbx.new w a b c A n ca C m cc 27).on (below_alloc _ (.cells #[.slice B q cap] 30))
  have p1 : ((w.alloc (.cells #[.int .i64 a, .int .i64 b, .int .i64 c, .slice A n ca, .slice C m cc] 27)).alloc (.cells #[.slice B q cap] 30)).cell? ⟨w.heap.size + 1, 0, none⟩ = some (.slice B q cap) := by simp
  have p2 : w.heap.size + 1 < ((w.alloc (.cells #[.int .i64 a, .int .i64 b, .int .i64 c, .slice A n ca, .slice C m cc] 27)).alloc (.cells #[.slice B q cap] 30)).heap.size := by simp
  have HS := Lib.hid hS
  have HQ := Lib.hid hq
  have HCAP := Lib.hid hcap
  have HL := Lib.hid hL
  clear hr hS hq hcap hL
  obtain ⟨z, hz⟩ : ∃ z, fthread s t = z := ⟨_, rfl⟩
  have HZ := Lib.hid hz
  clear hz
  obtain ⟨z2, hz2⟩ : ∃ z, pgood l = z := ⟨_, rfl⟩
  have HZ2 := Lib.hid hz2
  clear hz2
  go_enter Tryz.func137, Tryz.ntmps137
  go_wp2_with fail
  obtain ⟨pb, hpb⟩ : ∃ pb, pb = w.heap.size + 1 := ⟨_, rfl⟩
  rw [← hpb] at p1 p2 ⊢
  clear hpb
  generalize (w.alloc _).alloc _ = w0 at k1 p1 p2 ⊢
  have K1 := Lib.hid k1
  have HP1 := Lib.hid p1
  have HP2 := Lib.hid p2
  obtain ⟨b0, b1, b2, c3, c4, -, -, lt⟩ := k1
  clear p2
  go_wp2_with fail
  refine (thread_is (HS.out.on K1.out.old) HZ.out).mono ?_
  rintro e w2 ⟨rfl, hb⟩
  have K2 := Lib.hid (K1.out.on hb)
  have HP : Hid (w2.cell? ⟨pb, 0, none⟩ = some (.slice B q cap)) := Lib.hid ((hb.cell (p := ⟨pb, 0, none⟩) HP2.out).trans HP1.out)
  have HPL : Hid (pb < w2.heap.size) := Lib.hid (Nat.lt_of_lt_of_le HP2.out hb.size)
  clear hb b0 b1 b2 c3 c4 lt K1 p1 HP1 HP2
  rcases z with _ | _
  · have HF : Hid ((x, y) = (0, 1)) := Lib.hid (by rw [← HR.out, fslot, if_neg (by rw [HZ.out]; simp)])
    go_wp2
    go_ret2
    obtain ⟨rfl, rfl⟩ := Prod.mk.inj HF.out
    exact ⟨rfl, K2.out.old⟩
  have p1 := HP.out
  go_wp2_with fail
  refine (wgood_is HQ.out (HL.out.on K2.out.old) HZ2.out).mono ?_
  rintro e w3 ⟨rfl, hb⟩
  have K3 := Lib.hid (K2.out.on hb)
  have HP3 : Hid (w3.cell? ⟨pb, 0, none⟩ = some (.slice B q cap)) := Lib.hid ((hb.cell (p := ⟨pb, 0, none⟩) HPL.out).trans HP.out)
  clear hb K2 p1 HP HPL
  rcases z2 with _ | _
  · have HF : Hid ((x, y) = (0, 1)) := Lib.hid (by rw [← HR.out, fslot, if_neg (by rw [HZ2.out]; simp)])
    go_wp2
    go_ret2
    obtain ⟨rfl, rfl⟩ := Prod.mk.inj HF.out
    exact ⟨rfl, K3.out.old⟩
  obtain ⟨hg, h0, h1⟩ := fthread_iff.1 HZ.out
  have hG := sgood_iff.1 hg
  obtain ⟨k, rfl⟩ : ∃ k : Nat, t = k := ⟨t.toNat, by omega⟩
  have hg3 := (k1_geo hG.k1).1
  have hpg := pgood_iff.1 HZ2.out
  have hk16 : (k : Int) ≤ 1000 := by
    have := (nd_root hG h1).lt
    have := HS.out.fewm
    have := HS.out.hm
    omega
  obtain ⟨r, hrr⟩ : ∃ r, ffol s (2 + k) l = r := ⟨_, rfl⟩
  have HF : Hid ((x, y) = fpair r) := Lib.hid (by rw [← HR.out, fslot, if_pos ⟨HZ.out, HZ2.out⟩, fwhere, show (2 + (k : Int)).toNat = 2 + k by omega, hrr])
  have HC := Lib.hid (follow_is hG l (2 + k) q cap B r w3 (HS.out.on K3.out.old) (nd_root hG h1) (by omega) hpg.2.1 hpg.2.2 HQ.out HCAP.out (HL.out.on K3.out.old) hrr)
  have HG := Lib.hid hG
  clear hg h0 h1 hG hg3 hpg hrr
  have p1 := HP3.out
  obtain ⟨b0, b1, b2, c3, c4, -, -, lt⟩ := K3.out
  obtain ⟨j, hj⟩ : ∃ j : Nat, j = 2 + k := ⟨_, rfl⟩
  rw [← hj] at HC
  have hk2 : (2 : Int) + (k : Int) = (j : Int) := by omega
  clear hj
  go_wp2_with fail
  refine HC.out.mono ?_
  rintro e w4 ⟨rfl, hb⟩
  have HB4 := Lib.hid (below_on K3.out.old hb)
  clear hb b0 b1 b2 c3 c4 lt p1
  cases r with
  | none =>
    simp only [fov]
    obtain ⟨rfl, rfl⟩ := Prod.mk.inj HF.out
    go_wp2
    go_ret2
    exact ⟨rfl, HB4.out⟩
  | some kk =>
    simp only [fov]
    obtain ⟨rfl, rfl⟩ := Prod.mk.inj HF.out
    go_wp2
    go_ret2
    exact ⟨rfl, HB4.out⟩

/-! ### Empty -/
set_option maxRecDepth 100000 in
set_option maxHeartbeats 8000000 in
theorem empty_is {s : St} {a b c : Int} {A C : Option Addr} {n ca m cc : Nat} {t x y : Int} {B : Option Addr} {q cap : Nat} {l : List Int} {w : World} (hS : StH w s a b c A n ca C m cc) (hq : q = l.length) (hcap : q ≤ cap) (hL : IntsAt w w.heap.size B l) (hr : fempty s t l = (x, y)) :
    Calls Tryz.prog 94 #[.agg #[.int .i64 a, .int .i64 b, .int .i64 c, .slice A n ca, .slice C m cc], .int .i64 t, .agg #[.slice B q cap]] w fun e w' => e = .returned (.tuple #[.int .i64 x, .int .i64 y]) ∧ Below w.heap.size w w' := by
  have k1 := (Sbx.new w a b c A n ca C m cc 27).on (below_alloc _ (.cells #[.slice B q cap] 30))
  have p1 : ((w.alloc (.cells #[.int .i64 a, .int .i64 b, .int .i64 c, .slice A n ca, .slice C m cc] 27)).alloc (.cells #[.slice B q cap] 30)).cell? ⟨w.heap.size + 1, 0, none⟩ = some (.slice B q cap) := by simp
  have HS := Lib.hid hS
  have HQ := Lib.hid hq
  have HCAP := Lib.hid hcap
  have HL := Lib.hid hL
  obtain ⟨x1, y1, hf⟩ : ∃ x1 y1, fslot s t l = (x1, y1) := ⟨_, _, rfl⟩
  have HF := Lib.hid hf
  have HR : Hid ((if y1 = 0 then (if (slAt s.sl x1.toNat).c.non = true then (x1, 0) else (0, 5)) else (0, y1)) = (x, y)) := Lib.hid (by rw [← hr, fempty, hf])
  clear hr hS hq hcap hL hf
  go_enter Tryz.func94, Tryz.ntmps94
  go_wp2_with fail
  obtain ⟨pb, hpb⟩ : ∃ pb, pb = w.heap.size + 1 := ⟨_, rfl⟩
  rw [← hpb] at p1 ⊢
  clear hpb
  generalize (w.alloc _).alloc _ = w0 at k1 p1 ⊢
  have K1 := Lib.hid k1
  obtain ⟨b0, b1, b2, c3, c4, -, -, lt⟩ := k1
  go_wp2_with fail
  refine (slot_is (HS.out.on K1.out.old) HQ.out HCAP.out (HL.out.on K1.out.old) HF.out).mono ?_
  rintro e w2 ⟨rfl, hb⟩
  have K2 := Lib.hid (K1.out.on hb)
  clear hb b0 b1 b2 c3 c4 lt K1 p1
  by_cases hy : y1 = 0
  case neg =>
    have HX : Hid ((x, y) = (0, y1)) := Lib.hid (by rw [← HR.out, if_neg hy])
    have hy2 : (y1 != 0) = true := by simpa using hy
    go_wp2
    go_ret2
    obtain ⟨rfl, rfl⟩ := Prod.mk.inj HX.out
    exact ⟨rfl, K2.out.old⟩
  subst hy
  obtain ⟨k, rfl, hk, -⟩ := fslot_slot HF.out
  obtain ⟨b0, b1, b2, c3, c4, -, -, lt⟩ := K2.out
  obtain ⟨lb, lp, rfl, hlb, hlc⟩ := (HS.out.on K2.out.old).lies.sl (by omega)
  have hT := hlc k hk
  have hn := HS.out.hn
  have hkn : (k : Int) < (n : Int) := by omega
  have HRR := HR.out
  rw [if_pos rfl, Int.toNat_natCast] at HRR
  generalize slAt s.sl k = yy at hT HRR
  obtain ⟨⟨ty, th, ri, ba⟩, up⟩ := yy
  obtain ⟨s0, s1, s2, s3, -⟩ := hT
  simp only at s0 s1 s2 s3 HRR
  obtain ⟨z, hz⟩ : ∃ z, Cp.non ⟨ty, th, ri, ba⟩ = z := ⟨_, rfl⟩
  rw [hz] at HRR
  have HZ := Lib.hid hz
  have HX := Lib.hid HRR
  clear hz HRR hlb hlc hn hk HR
  go_wp2_with fail
  refine (non_at HZ.out w2).mono ?_
  rintro e w3 ⟨rfl, hb⟩
  have K3 := Lib.hid (K2.out.on hb)
  clear hb b0 b1 b2 c3 c4 lt s0 s1 s2 s3
  cases z with
  | true =>
    go_wp2
    go_ret2
    obtain ⟨rfl, rfl⟩ := Prod.mk.inj HX.out
    exact ⟨rfl, K3.out.old⟩
  | false =>
    go_wp2
    go_ret2
    obtain ⟨rfl, rfl⟩ := Prod.mk.inj HX.out
    exact ⟨rfl, K3.out.old⟩

/-! ### Cap -/
set_option maxRecDepth 100000 in
set_option maxHeartbeats 8000000 in
theorem fcap_is {s : St} {a b c : Int} {A C : Option Addr} {n ca m cc : Nat} {t x y : Int} {cp : Cp} {B : Option Addr} {q cap : Nat} {l : List Int} {w : World} (hS : StH w s a b c A n ca C m cc) (hq : q = l.length) (hcap : q ≤ cap) (hL : IntsAt w w.heap.size B l) (hr : fcap s t l = (x, cp, y)) :
    Calls Tryz.prog 73 #[.agg #[.int .i64 a, .int .i64 b, .int .i64 c, .slice A n ca, .slice C m cc], .int .i64 t, .agg #[.slice B q cap]] w fun e w' => e = .returned (.tuple #[.int .i64 x, cp.val, .int .i64 y]) ∧ Below w.heap.size w w' := by
  have k1 := ((Sbx.new w a b c A n ca C m cc 27).on (below_alloc _ (.cells #[.slice B q cap] 30))).on (below_alloc _ (.cells #[.int .i64 0, .int .i64 0, .int .i64 0, .int .i64 0] 62))
  have p0 : ((w.alloc (.cells #[.int .i64 a, .int .i64 b, .int .i64 c, .slice A n ca, .slice C m cc] 27)).alloc (.cells #[.slice B q cap] 30)).cell? ⟨w.heap.size + 1, 0, none⟩ = some (.slice B q cap) := by simp
  have p1 : (((w.alloc (.cells #[.int .i64 a, .int .i64 b, .int .i64 c, .slice A n ca, .slice C m cc] 27)).alloc (.cells #[.slice B q cap] 30)).alloc (.cells #[.int .i64 0, .int .i64 0, .int .i64 0, .int .i64 0] 62)).cell? ⟨w.heap.size + 1, 0, none⟩ = some (.slice B q cap) := ((below_alloc _ _).cell (p := ⟨w.heap.size + 1, 0, none⟩) (by simp)).trans p0
  clear p0
  have j1 := Fr.also (W := w) (w := ((w.alloc (.cells #[.int .i64 a, .int .i64 b, .int .i64 c, .slice A n ca, .slice C m cc] 27)).alloc (.cells #[.slice B q cap] 30))) (below_on (below_alloc _ _) (below_alloc _ _)) 0 0 0 0 62
  rw [show ((w.alloc (.cells #[.int .i64 a, .int .i64 b, .int .i64 c, .slice A n ca, .slice C m cc] 27)).alloc (.cells #[.slice B q cap] 30)).heap.size = w.heap.size + 1 + 1 by simp] at j1
  have HS := Lib.hid hS
  have HQ := Lib.hid hq
  have HCAP := Lib.hid hcap
  have HL := Lib.hid hL
  obtain ⟨x1, y1, hf⟩ : ∃ x1 y1, fslot s t l = (x1, y1) := ⟨_, _, rfl⟩
  have HF := Lib.hid hf
  have HR : Hid ((if y1 = 0 then (if (slAt s.sl x1.toNat).c.non = true then (0, .none, 4) else (x1, (slAt s.sl x1.toNat).c, 0)) else (0, .none, y1)) = (x, cp, y)) := Lib.hid (by rw [← hr, fcap, hf])
  clear hr hS hq hcap hL hf
  go_enter Tryz.func73, Tryz.ntmps73
  go_wp2_with fail
  obtain ⟨jb, hjb⟩ : ∃ jb, jb = w.heap.size + 1 + 1 := ⟨_, rfl⟩
  rw [← hjb] at j1 ⊢
  obtain ⟨pb, hpb⟩ : ∃ pb, pb = w.heap.size + 1 := ⟨_, rfl⟩
  rw [← hpb] at p1 ⊢
  clear hpb hjb
  generalize ((w.alloc _).alloc _).alloc _ = w0 at k1 p1 j1 ⊢
  have K1 := Lib.hid k1
  have J1 := Lib.hid j1
  obtain ⟨b0, b1, b2, c3, c4, -, -, lt⟩ := k1
  clear j1
  go_wp2_with fail
  refine (slot_is (HS.out.on K1.out.old) HQ.out HCAP.out (HL.out.on K1.out.old) HF.out).mono ?_
  rintro e w2 ⟨rfl, hb⟩
  have K2 := Lib.hid (K1.out.on hb)
  have J2 := Lib.hid (J1.out.on hb)
  clear hb b0 b1 b2 c3 c4 lt K1 J1 p1
  by_cases hy : y1 = 0
  case neg =>
    have HX : Hid ((x, cp, y) = (0, Cp.none, y1)) := Lib.hid (by rw [← HR.out, if_neg hy])
    have hy2 : (y1 != 0) = true := by simpa using hy
    obtain ⟨d0, d1, d2, d3, df, -, -, -⟩ := J2.out
    have f0 := df 0
    have f1 := df 1
    have f2 := df 2
    have f3 := df 3
    clear df
    go_wp2
    have qq := J2.out.put 0 0 0 0
    have e0 := qq.c0
    have e1 := qq.c1
    have e2 := qq.c2
    have e3 := qq.c3
    unfold put4 at e0 e1 e2 e3
    refine bodyPost_ret (by simp [results, Tryz.results73, go_sem, e0, e1, e2, e3]; rfl) rfl ?_
    obtain ⟨rfl, h⟩ := Prod.mk.inj HX.out
    obtain ⟨rfl, rfl⟩ := Prod.mk.inj h
    exact ⟨rfl, qq.old⟩
  subst hy
  obtain ⟨k, rfl, hk, -⟩ := fslot_slot HF.out
  obtain ⟨b0, b1, b2, c3, c4, -, -, lt⟩ := K2.out
  obtain ⟨lb, lp, rfl, hlb, hlc⟩ := (HS.out.on K2.out.old).lies.sl (by omega)
  have hT := hlc k hk
  have hn := HS.out.hn
  have hkn : (k : Int) < (n : Int) := by omega
  have HRR := HR.out
  rw [if_pos rfl, Int.toNat_natCast] at HRR
  generalize slAt s.sl k = yy at hT HRR
  obtain ⟨⟨ty, th, ri, ba⟩, up⟩ := yy
  obtain ⟨s0, s1, s2, s3, -⟩ := hT
  simp only at s0 s1 s2 s3 HRR
  obtain ⟨z, hz⟩ : ∃ z, Cp.non ⟨ty, th, ri, ba⟩ = z := ⟨_, rfl⟩
  rw [hz] at HRR
  have HZ := Lib.hid hz
  have HX := Lib.hid HRR
  have G3 := Fr.new w2 ty th ri ba 62
  have J3 := Lib.hid (J2.out.alloc (.cells #[.int .i64 ty, .int .i64 th, .int .i64 ri, .int .i64 ba] 62))
  clear hz HRR hlb hlc hn hk HR
  go_wp2_with fail
  generalize w2.alloc _ = w3 at G3 J3 ⊢
  refine (non_at HZ.out w3).mono ?_
  rintro e w4 ⟨rfl, hb⟩
  have G4 := Lib.hid (G3.on hb)
  have J4 := Lib.hid (J3.out.on hb)
  clear hb G3 J3 b0 b1 b2 c3 c4 lt s0 s1 s2 s3
  obtain ⟨d0, d1, d2, d3, df, -, -, -⟩ := J4.out
  obtain ⟨g0, g1, g2, g3, -, -, -, -⟩ := G4.out
  have f0 := df 0
  have f1 := df 1
  have f2 := df 2
  have f3 := df 3
  clear df
  cases z with
  | true =>
    go_wp2
    have qq := J4.out.put 0 0 0 0
    have e0 := qq.c0
    have e1 := qq.c1
    have e2 := qq.c2
    have e3 := qq.c3
    unfold put4 at e0 e1 e2 e3
    refine bodyPost_ret (by simp [results, Tryz.results73, go_sem, e0, e1, e2, e3]; rfl) rfl ?_
    obtain ⟨rfl, h⟩ := Prod.mk.inj HX.out
    obtain ⟨rfl, rfl⟩ := Prod.mk.inj h
    exact ⟨rfl, qq.old⟩
  | false =>
    go_wp2_with fail
    go_region
    go_wp2
    have qq := J4.out.put ty th ri ba
    have e0 := qq.c0
    have e1 := qq.c1
    have e2 := qq.c2
    have e3 := qq.c3
    unfold put4 at e0 e1 e2 e3
    refine bodyPost_ret (by simp [results, Tryz.results73, go_sem, e0, e1, e2, e3]; rfl) rfl ?_
    obtain ⟨rfl, h⟩ := Prod.mk.inj HX.out
    obtain ⟨rfl, rfl⟩ := Prod.mk.inj h
    exact ⟨rfl, qq.old.drew⟩
end Go.Proofs.YtkpbfbmkolgmgaaGreat
namespace Go.Proofs.YtkpbfbmkolgmgaaGreat
open Go.RowKit

/-- what is asked -/
structure Cl where
  op : Int
  a : List Int
  b : List Int
  x : Int
  y : Int
  w : Nat
def Cl.eq (c d : Cl) : Bool := decide (c.op = d.op) && (decide (c.a = d.a) && (decide (c.b = d.b) && (decide (c.x = d.x) && (decide (c.y = d.y) && decide (c.w = d.w)))))
theorem Cl.eq_iff {c d : Cl} : c.eq d = true ↔ c = d := by
  cases c
  cases d
  simp [Cl.eq]
def Cl.zero : Cl := ⟨0, [], [], 0, 0, 0⟩
/-- the form of what may be asked: its word; of the second way how many steps, of the numbers from where to where; whether it has a word -/
structure Fm where
  s : List UInt8
  bl : Nat
  bm : Nat
  xl : Nat
  xm : Nat
  yl : Nat
  ym : Nat
  w : Bool
def forms : Nat → Fm
  | 1 => ⟨[109, 97, 107, 101], 1, 3, 1, 5, 0, 4096, false⟩
  | 2 => ⟨[99, 111, 112, 121], 1, 3, 0, 7, 0, 0, false⟩
  | 3 => ⟨[109, 105, 110, 116], 1, 3, 0, 7, 1, 65535, false⟩
  | 4 => ⟨[109, 111, 118, 101], 1, 3, 0, 0, 0, 0, false⟩
  | 5 => ⟨[100, 101, 108, 101, 116, 101], 0, 0, 0, 0, 0, 0, false⟩
  | 6 => ⟨[114, 101, 118, 111, 107, 101], 0, 0, 0, 0, 0, 0, false⟩
  | 7 => ⟨[115, 101, 110, 100], 0, 3, 0, 0, 0, 0, true⟩
  | 8 => ⟨[114, 101, 99, 118], 0, 3, 0, 0, 0, 0, false⟩
  | 9 => ⟨[114, 105, 110, 103], 0, 0, 0, 0, 0, 0, false⟩
  | 10 => ⟨[112, 111, 108, 108], 0, 0, 0, 0, 0, 0, false⟩
  | 11 => ⟨[119, 114, 105, 116, 101], 0, 0, 0, 3, 0, 0, true⟩
  | 12 => ⟨[114, 101, 97, 100], 0, 0, 0, 3, 0, 0, false⟩
  | _ => ⟨[116, 101, 108, 108], 0, 0, 0, 0, 0, 0, false⟩
def fmOf (op : Int) : Option Fm := if 1 ≤ op ∧ op ≤ 13 then some (forms op.toNat) else none
def inSpan (l m : Nat) (x : Int) : Bool := decide ((l : Int) ≤ x) && decide (x ≤ (m : Int))
def fits (f : Fm) (c : Cl) : Bool := inSpan f.bl f.bm c.b.length && ((decide (c.b.length = 0) || pgood c.b) && (inSpan f.xl f.xm c.x && (inSpan f.yl f.ym c.y && (f.w || decide (c.w = 0)))))
/-- may it be? -/
def cgood (c : Cl) : Bool := match fmOf c.op with | none => false | some f => pgood c.a && fits f c

theorem fm_some {op : Int} {f : Fm} (h : fmOf op = some f) : ∃ k : Nat, op = k ∧ 1 ≤ k ∧ k ≤ 13 ∧ f = forms k := by
  unfold fmOf at h
  by_cases hc : 1 ≤ op ∧ op ≤ 13
  · rw [if_pos hc] at h
    injection h with h
    exact ⟨op.toNat, by omega, by omega, by omega, h.symm⟩
  · rw [if_neg hc] at h
    cases h
end Go.Proofs.YtkpbfbmkolgmgaaGreat
namespace Go.Proofs.YtkpbfbmkolgmgaaGreat
open Go.RowKit

/-- cells in a block of the call's own; what was before stands -/
structure Bxs (W w : World) (g : Nat) (cs : List Value) : Prop where
  c : ∀ (k : Nat) (u : Value), cs[k]? = some u → w.cell? ⟨g, k, none⟩ = some u
  old : Below W.heap.size W w
  base : W.heap.size ≤ g
  lt : g < w.heap.size
theorem Bxs.new (w : World) (cs : List Value) (t : TypeId) : Bxs w (w.alloc (.cells cs.toArray t)) w.heap.size cs := by
  have hg := heap_alloc_new w (.cells cs.toArray t)
  exact ⟨fun k u h => by rw [cell_of_row _ _ k _ _ _ hg]; simpa using h, below_alloc _ _, Nat.le_refl _, by simp⟩
theorem Bxs.on {W w w' : World} {g : Nat} {cs : List Value} (h : Bxs W w g cs) (hb : Below w.heap.size w w') : Bxs W w' g cs :=
  ⟨fun k u hk => by rw [hb.cell (p := ⟨g, k, none⟩) h.lt]; exact h.c k u hk, below_on h.old hb, h.base, Nat.lt_of_lt_of_le h.lt hb.size⟩
theorem Bxs.more {W w : World} (h : Below W.heap.size W w) (cs : List Value) (t : TypeId) : Bxs W (w.alloc (.cells cs.toArray t)) w.heap.size cs :=
  ⟨(Bxs.new w cs t).c, below_on h (below_alloc _ _), h.size, (Bxs.new w cs t).lt⟩
theorem Bxs.next (w : World) (o : Obj) (cs : List Value) (t : TypeId) : Bxs w ((w.alloc o).alloc (.cells cs.toArray t)) (w.heap.size + 1) cs := by
  have h := Bxs.more (below_alloc w o) cs t
  rwa [show (w.alloc o).heap.size = w.heap.size + 1 by simp] at h
/-- a form as a value -/
def fcells (f : Fm) : List Value := [.string ⟨f.s.toArray⟩, .int .i64 f.bl, .int .i64 f.bm, .int .i64 f.xl, .int .i64 f.xm, .int .i64 f.yl, .int .i64 f.ym, .bool f.w]
theorem holds_any (l m : Nat) (x : Int) (w : World) : Calls Tryz.prog 174 #[.agg #[.int .i64 (l : Int), .int .i64 (m : Int)], .int .i64 x] w fun e w' => e = .returned (.bool (inSpan l m x)) ∧ Below w.heap.size w w' := by
  have hb := below_alloc w (.cells #[.int .i64 (l : Int), .int .i64 (m : Int)] 169)
  have HB := Lib.hid hb
  clear hb
  unfold inSpan
  by_cases h : (l : Int) ≤ x
  · by_cases h2 : x ≤ (m : Int)
    · rw [decide_eq_true h, decide_eq_true h2]
      go_enter Tryz.func174, Tryz.ntmps174
      go_wp2
      go_ret
      exact ⟨rfl, HB.out⟩
    · rw [decide_eq_true h, decide_eq_false h2]
      go_enter Tryz.func174, Tryz.ntmps174
      go_wp2
      go_ret
      exact ⟨rfl, HB.out⟩
  · rw [decide_eq_false h]
    go_enter Tryz.func174, Tryz.ntmps174
    go_wp2
    go_ret
    exact ⟨rfl, HB.out⟩
theorem holds_at {l m : Nat} {x : Int} {z : Bool} (h : inSpan l m x = z) (w : World) : Calls Tryz.prog 174 #[.agg #[.int .i64 (l : Int), .int .i64 (m : Int)], .int .i64 x] w fun e w' => e = .returned (.bool z) ∧ Below w.heap.size w w' := h ▸ holds_any l m x w

theorem bal {V w' : World} {o : Obj} (h : Below V.heap.size V w') : Below V.heap.size V (w'.alloc o) := h.alloc h.size o
set_option maxHeartbeats 4000000 in
theorem form_1 (w : World) : Calls Tryz.prog 134 #[.int .i64 1] w fun e w' => e = .returned (.tuple #[.agg (fcells (forms 1)).toArray, .bool true]) ∧ Below w.heap.size w w' := by
  go_enter Tryz.func134, Tryz.ntmps134
  go_wp2
  go_returns
  refine ⟨by kernel_rfl, ?_⟩
  repeat (refine bal ?_)
  exact below_self _
set_option maxHeartbeats 4000000 in
theorem form_2 (w : World) : Calls Tryz.prog 134 #[.int .i64 2] w fun e w' => e = .returned (.tuple #[.agg (fcells (forms 2)).toArray, .bool true]) ∧ Below w.heap.size w w' := by
  go_enter Tryz.func134, Tryz.ntmps134
  go_wp2
  go_returns
  refine ⟨by kernel_rfl, ?_⟩
  repeat (refine bal ?_)
  exact below_self _
set_option maxHeartbeats 4000000 in
theorem form_3 (w : World) : Calls Tryz.prog 134 #[.int .i64 3] w fun e w' => e = .returned (.tuple #[.agg (fcells (forms 3)).toArray, .bool true]) ∧ Below w.heap.size w w' := by
  go_enter Tryz.func134, Tryz.ntmps134
  go_wp2
  go_returns
  refine ⟨by kernel_rfl, ?_⟩
  repeat (refine bal ?_)
  exact below_self _
set_option maxHeartbeats 4000000 in
theorem form_4 (w : World) : Calls Tryz.prog 134 #[.int .i64 4] w fun e w' => e = .returned (.tuple #[.agg (fcells (forms 4)).toArray, .bool true]) ∧ Below w.heap.size w w' := by
  go_enter Tryz.func134, Tryz.ntmps134
  go_wp2
  go_returns
  refine ⟨by kernel_rfl, ?_⟩
  repeat (refine bal ?_)
  exact below_self _
set_option maxHeartbeats 4000000 in
theorem form_5 (w : World) : Calls Tryz.prog 134 #[.int .i64 5] w fun e w' => e = .returned (.tuple #[.agg (fcells (forms 5)).toArray, .bool true]) ∧ Below w.heap.size w w' := by
  go_enter Tryz.func134, Tryz.ntmps134
  go_wp2
  go_returns
  refine ⟨by kernel_rfl, ?_⟩
  repeat (refine bal ?_)
  exact below_self _
set_option maxHeartbeats 4000000 in
theorem form_6 (w : World) : Calls Tryz.prog 134 #[.int .i64 6] w fun e w' => e = .returned (.tuple #[.agg (fcells (forms 6)).toArray, .bool true]) ∧ Below w.heap.size w w' := by
  go_enter Tryz.func134, Tryz.ntmps134
  go_wp2
  go_returns
  refine ⟨by kernel_rfl, ?_⟩
  repeat (refine bal ?_)
  exact below_self _
set_option maxHeartbeats 4000000 in
theorem form_7 (w : World) : Calls Tryz.prog 134 #[.int .i64 7] w fun e w' => e = .returned (.tuple #[.agg (fcells (forms 7)).toArray, .bool true]) ∧ Below w.heap.size w w' := by
  go_enter Tryz.func134, Tryz.ntmps134
  go_wp2
  go_returns
  refine ⟨by kernel_rfl, ?_⟩
  repeat (refine bal ?_)
  exact below_self _
set_option maxHeartbeats 4000000 in
theorem form_8 (w : World) : Calls Tryz.prog 134 #[.int .i64 8] w fun e w' => e = .returned (.tuple #[.agg (fcells (forms 8)).toArray, .bool true]) ∧ Below w.heap.size w w' := by
  go_enter Tryz.func134, Tryz.ntmps134
  go_wp2
  go_returns
  refine ⟨by kernel_rfl, ?_⟩
  repeat (refine bal ?_)
  exact below_self _
set_option maxHeartbeats 4000000 in
theorem form_9 (w : World) : Calls Tryz.prog 134 #[.int .i64 9] w fun e w' => e = .returned (.tuple #[.agg (fcells (forms 9)).toArray, .bool true]) ∧ Below w.heap.size w w' := by
  go_enter Tryz.func134, Tryz.ntmps134
  go_wp2
  go_returns
  refine ⟨by kernel_rfl, ?_⟩
  repeat (refine bal ?_)
  exact below_self _
set_option maxHeartbeats 4000000 in
theorem form_10 (w : World) : Calls Tryz.prog 134 #[.int .i64 10] w fun e w' => e = .returned (.tuple #[.agg (fcells (forms 10)).toArray, .bool true]) ∧ Below w.heap.size w w' := by
  go_enter Tryz.func134, Tryz.ntmps134
  go_wp2
  go_returns
  refine ⟨by kernel_rfl, ?_⟩
  repeat (refine bal ?_)
  exact below_self _
set_option maxHeartbeats 4000000 in
theorem form_11 (w : World) : Calls Tryz.prog 134 #[.int .i64 11] w fun e w' => e = .returned (.tuple #[.agg (fcells (forms 11)).toArray, .bool true]) ∧ Below w.heap.size w w' := by
  go_enter Tryz.func134, Tryz.ntmps134
  go_wp2
  go_returns
  refine ⟨by kernel_rfl, ?_⟩
  repeat (refine bal ?_)
  exact below_self _
set_option maxHeartbeats 4000000 in
theorem form_12 (w : World) : Calls Tryz.prog 134 #[.int .i64 12] w fun e w' => e = .returned (.tuple #[.agg (fcells (forms 12)).toArray, .bool true]) ∧ Below w.heap.size w w' := by
  go_enter Tryz.func134, Tryz.ntmps134
  go_wp2
  go_returns
  refine ⟨by kernel_rfl, ?_⟩
  repeat (refine bal ?_)
  exact below_self _
set_option maxHeartbeats 4000000 in
theorem form_13 (w : World) : Calls Tryz.prog 134 #[.int .i64 13] w fun e w' => e = .returned (.tuple #[.agg (fcells (forms 13)).toArray, .bool true]) ∧ Below w.heap.size w w' := by
  go_enter Tryz.func134, Tryz.ntmps134
  go_wp2
  go_returns
  refine ⟨by kernel_rfl, ?_⟩
  repeat (refine bal ?_)
  exact below_self _
theorem form_at {k : Nat} (h1 : 1 ≤ k) (h2 : k ≤ 13) (w : World) : Calls Tryz.prog 134 #[.int .i64 (k : Int)] w fun e w' => e = .returned (.tuple #[.agg (fcells (forms k)).toArray, .bool true]) ∧ Below w.heap.size w w' := by
  match k, h1, h2 with
  | 1, _, _ => exact form_1 w
  | 2, _, _ => exact form_2 w
  | 3, _, _ => exact form_3 w
  | 4, _, _ => exact form_4 w
  | 5, _, _ => exact form_5 w
  | 6, _, _ => exact form_6 w
  | 7, _, _ => exact form_7 w
  | 8, _, _ => exact form_8 w
  | 9, _, _ => exact form_9 w
  | 10, _, _ => exact form_10 w
  | 11, _, _ => exact form_11 w
  | 12, _, _ => exact form_12 w
  | 13, _, _ => exact form_13 w
set_option maxHeartbeats 4000000 in
theorem form_no {z : Int} (h : ¬ (1 ≤ z ∧ z ≤ 13)) (w : World) : Calls Tryz.prog 134 #[.int .i64 z] w fun e w' => e = .returned (.tuple #[.agg #[.string ⟨#[]⟩, .int .i64 0, .int .i64 0, .int .i64 0, .int .i64 0, .int .i64 0, .int .i64 0, .bool false], .bool false]) ∧ Below w.heap.size w w' := by
  have n1 : ¬ z = 1 := by omega
  have n2 : ¬ z = 2 := by omega
  have n3 : ¬ z = 3 := by omega
  have n4 : ¬ z = 4 := by omega
  have n5 : ¬ z = 5 := by omega
  have n6 : ¬ z = 6 := by omega
  have n7 : ¬ z = 7 := by omega
  have n8 : ¬ z = 8 := by omega
  have n9 : ¬ z = 9 := by omega
  have n10 : ¬ z = 10 := by omega
  have n11 : ¬ z = 11 := by omega
  have n12 : ¬ z = 12 := by omega
  have n13 : ¬ z = 13 := by omega
  clear h
  go_enter Tryz.func134, Tryz.ntmps134
  go_wp2
  go_returns
  refine ⟨by kernel_rfl, ?_⟩
  repeat (refine bal ?_)
  exact below_self _

end Go.Proofs.YtkpbfbmkolgmgaaGreat
namespace Go.Proofs.YtkpbfbmkolgmgaaGreat
open Go.RowKit

set_option maxHeartbeats 8000000 in
theorem clfits_any (s : ByteArray) (bl bm xl xm yl ym : Nat) (fw : Bool) (o : Int) (A : Option Addr) (na ca : Nat) (B : Option Addr) (m cb : Nat) (l : List Int) (x y : Int) (z : Nat) (w : World) (hm : m = l.length) (hB : IntsAt w w.heap.size B l) {b0 bg bx byy : Bool}
    (h0 : inSpan bl bm m = b0) (hg : pgood l = bg) (hx : inSpan xl xm x = bx) (hy : inSpan yl ym y = byy) :
    Calls Tryz.prog 136 #[.agg #[.string s, .int .i64 (bl : Int), .int .i64 (bm : Int), .int .i64 (xl : Int), .int .i64 (xm : Int), .int .i64 (yl : Int), .int .i64 (ym : Int), .bool fw], .agg #[.int .i64 o, .slice A na ca, .slice B m cb, .int .i64 x, .int .i64 y, .int .u64 (z : Int)]] w fun e w' => e = .returned (.bool (b0 && ((decide (m = 0) || bg) && (bx && (byy && (fw || decide (z = 0))))))) ∧ Below w.heap.size w w' := by
  have K1 := Bxs.new w [.string s, .int .i64 (bl : Int), .int .i64 (bm : Int), .int .i64 (xl : Int), .int .i64 (xm : Int), .int .i64 (yl : Int), .int .i64 (ym : Int), .bool fw] 171
  have K2 := Bxs.next w (.cells #[.string s, .int .i64 (bl : Int), .int .i64 (bm : Int), .int .i64 (xl : Int), .int .i64 (xm : Int), .int .i64 (yl : Int), .int .i64 (ym : Int), .bool fw] 171) [.int .i64 o, .slice A na ca, .slice B m cb, .int .i64 x, .int .i64 y, .int .u64 (z : Int)] 33
  have HB := Lib.hid K2.old
  have HI := Lib.hid (hB.on HB.out)
  have H1 := Lib.hid (K1.on (below_alloc _ (.cells #[.int .i64 o, .slice A na ca, .slice B m cb, .int .i64 x, .int .i64 y, .int .u64 (z : Int)] 33)))
  have H2 := Lib.hid K2
  clear K1 K2
  have HM := Lib.hid hm
  have E0 := Lib.hid h0
  have EG := Lib.hid hg
  have EX := Lib.hid hx
  have EY := Lib.hid hy
  clear hm hB h0 hg hx hy
  go_enter Tryz.func136, Tryz.ntmps136
  go_wp2_with fail
  generalize (w.alloc (.cells #[.string s, .int .i64 (bl : Int), .int .i64 (bm : Int), .int .i64 (xl : Int), .int .i64 (xm : Int), .int .i64 (yl : Int), .int .i64 (ym : Int), .bool fw] 171)).alloc (.cells #[.int .i64 o, .slice A na ca, .slice B m cb, .int .i64 x, .int .i64 y, .int .u64 (z : Int)] 33) = w1 at H1 H2 HB HI ⊢
  refine (holds_at E0.out w1).mono ?_
  rintro e w2 ⟨rfl, hb⟩
  replace H1 := Lib.hid (H1.out.on hb)
  replace H2 := Lib.hid (H2.out.on hb)
  replace HI := Lib.hid (HI.out.on hb)
  replace HB := Lib.hid (below_on HB.out hb)
  clear hb
  have f1 := H1.out.c 1 _ rfl
  have f2 := H1.out.c 2 _ rfl
  have f3 := H1.out.c 3 _ rfl
  have f4 := H1.out.c 4 _ rfl
  have f5 := H1.out.c 5 _ rfl
  have f6 := H1.out.c 6 _ rfl
  have f7 := H1.out.c 7 _ rfl
  have q2 := H2.out.c 2 _ rfl
  have q3 := H2.out.c 3 _ rfl
  have q4 := H2.out.c 4 _ rfl
  have q5 := H2.out.c 5 _ rfl
  cases b0
  case false =>
    go_wp2
    go_ret
    exact ⟨by simp [*], HB.out⟩
  case true =>
    by_cases hm0 : m = 0
    · have hm1 : (m : Int) = 0 := by omega
      go_wp2_with fail
      refine (holds_at EX.out w2).mono ?_
      rintro e u0 ⟨rfl, hb⟩
      clear f1 f2 f3 f4 f5 f6 f7 q2 q3 q4 q5
      replace H1 := Lib.hid (H1.out.on hb)
      replace H2 := Lib.hid (H2.out.on hb)
      replace HI := Lib.hid (HI.out.on hb)
      replace HB := Lib.hid (below_on HB.out hb)
      clear hb
      have f1 := H1.out.c 1 _ rfl
      have f2 := H1.out.c 2 _ rfl
      have f3 := H1.out.c 3 _ rfl
      have f4 := H1.out.c 4 _ rfl
      have f5 := H1.out.c 5 _ rfl
      have f6 := H1.out.c 6 _ rfl
      have f7 := H1.out.c 7 _ rfl
      have q2 := H2.out.c 2 _ rfl
      have q3 := H2.out.c 3 _ rfl
      have q4 := H2.out.c 4 _ rfl
      have q5 := H2.out.c 5 _ rfl
      cases bx
      case false =>
        go_wp2
        go_ret
        exact ⟨by simp [*], HB.out⟩
      case true =>
        go_wp2_with fail
        refine (holds_at EY.out u0).mono ?_
        rintro e v0 ⟨rfl, hb⟩
        clear f1 f2 f3 f4 f5 f6 f7 q2 q3 q4 q5
        replace H1 := Lib.hid (H1.out.on hb)
        replace H2 := Lib.hid (H2.out.on hb)
        replace HI := Lib.hid (HI.out.on hb)
        replace HB := Lib.hid (below_on HB.out hb)
        clear hb
        have f1 := H1.out.c 1 _ rfl
        have f2 := H1.out.c 2 _ rfl
        have f3 := H1.out.c 3 _ rfl
        have f4 := H1.out.c 4 _ rfl
        have f5 := H1.out.c 5 _ rfl
        have f6 := H1.out.c 6 _ rfl
        have f7 := H1.out.c 7 _ rfl
        have q2 := H2.out.c 2 _ rfl
        have q3 := H2.out.c 3 _ rfl
        have q4 := H2.out.c 4 _ rfl
        have q5 := H2.out.c 5 _ rfl
        cases byy
        case false =>
          go_wp2
          go_ret
          exact ⟨by simp [*], HB.out⟩
        case true =>
          cases fw
          case false =>
            by_cases hz0 : z = 0
            · have hz1 : (z : Int) = 0 := by omega
              go_wp2
              go_ret
              exact ⟨by simp [*], HB.out⟩
            · have hz1 : ¬ (z : Int) = 0 := by omega
              go_wp2
              go_ret
              exact ⟨by simp [*], HB.out⟩
          case true =>
            go_wp2
            go_ret
            exact ⟨by simp [*], HB.out⟩
    · have hm1 : ¬ (m : Int) = 0 := by omega
      go_wp2_with fail
      refine (wgood_is (w := w2) HM.out HI.out EG.out).mono ?_
      rintro e w3 ⟨rfl, hb⟩
      clear f1 f2 f3 f4 f5 f6 f7 q2 q3 q4 q5
      replace H1 := Lib.hid (H1.out.on hb)
      replace H2 := Lib.hid (H2.out.on hb)
      replace HI := Lib.hid (HI.out.on hb)
      replace HB := Lib.hid (below_on HB.out hb)
      clear hb
      have f1 := H1.out.c 1 _ rfl
      have f2 := H1.out.c 2 _ rfl
      have f3 := H1.out.c 3 _ rfl
      have f4 := H1.out.c 4 _ rfl
      have f5 := H1.out.c 5 _ rfl
      have f6 := H1.out.c 6 _ rfl
      have f7 := H1.out.c 7 _ rfl
      have q2 := H2.out.c 2 _ rfl
      have q3 := H2.out.c 3 _ rfl
      have q4 := H2.out.c 4 _ rfl
      have q5 := H2.out.c 5 _ rfl
      cases bg
      case false =>
        go_wp2
        go_ret
        exact ⟨by simp [*], HB.out⟩
      case true =>
        go_wp2_with fail
        refine (holds_at EX.out w3).mono ?_
        rintro e u1 ⟨rfl, hb⟩
        clear f1 f2 f3 f4 f5 f6 f7 q2 q3 q4 q5
        replace H1 := Lib.hid (H1.out.on hb)
        replace H2 := Lib.hid (H2.out.on hb)
        replace HI := Lib.hid (HI.out.on hb)
        replace HB := Lib.hid (below_on HB.out hb)
        clear hb
        have f1 := H1.out.c 1 _ rfl
        have f2 := H1.out.c 2 _ rfl
        have f3 := H1.out.c 3 _ rfl
        have f4 := H1.out.c 4 _ rfl
        have f5 := H1.out.c 5 _ rfl
        have f6 := H1.out.c 6 _ rfl
        have f7 := H1.out.c 7 _ rfl
        have q2 := H2.out.c 2 _ rfl
        have q3 := H2.out.c 3 _ rfl
        have q4 := H2.out.c 4 _ rfl
        have q5 := H2.out.c 5 _ rfl
        cases bx
        case false =>
          go_wp2
          go_ret
          exact ⟨by simp [*], HB.out⟩
        case true =>
          go_wp2_with fail
          refine (holds_at EY.out u1).mono ?_
          rintro e v1 ⟨rfl, hb⟩
          clear f1 f2 f3 f4 f5 f6 f7 q2 q3 q4 q5
          replace H1 := Lib.hid (H1.out.on hb)
          replace H2 := Lib.hid (H2.out.on hb)
          replace HI := Lib.hid (HI.out.on hb)
          replace HB := Lib.hid (below_on HB.out hb)
          clear hb
          have f1 := H1.out.c 1 _ rfl
          have f2 := H1.out.c 2 _ rfl
          have f3 := H1.out.c 3 _ rfl
          have f4 := H1.out.c 4 _ rfl
          have f5 := H1.out.c 5 _ rfl
          have f6 := H1.out.c 6 _ rfl
          have f7 := H1.out.c 7 _ rfl
          have q2 := H2.out.c 2 _ rfl
          have q3 := H2.out.c 3 _ rfl
          have q4 := H2.out.c 4 _ rfl
          have q5 := H2.out.c 5 _ rfl
          cases byy
          case false =>
            go_wp2
            go_ret
            exact ⟨by simp [*], HB.out⟩
          case true =>
            cases fw
            case false =>
              by_cases hz0 : z = 0
              · have hz1 : (z : Int) = 0 := by omega
                go_wp2
                go_ret
                exact ⟨by simp [*], HB.out⟩
              · have hz1 : ¬ (z : Int) = 0 := by omega
                go_wp2
                go_ret
                exact ⟨by simp [*], HB.out⟩
            case true =>
              go_wp2
              go_ret
              exact ⟨by simp [*], HB.out⟩
end Go.Proofs.YtkpbfbmkolgmgaaGreat
namespace Go.Proofs.YtkpbfbmkolgmgaaGreat
open Go.RowKit

theorem form_is {op : Int} {f : Fm} {s : ByteArray} {bl bm xl xm yl ym : Nat} {fw : Bool} (h : fmOf op = some f) (hs : (⟨f.s.toArray⟩ : ByteArray) = s) (h1 : f.bl = bl) (h2 : f.bm = bm) (h3 : f.xl = xl) (h4 : f.xm = xm) (h5 : f.yl = yl) (h6 : f.ym = ym) (h7 : f.w = fw) (w : World) :
    Calls Tryz.prog 134 #[.int .i64 op] w fun e w' => e = .returned (.tuple #[.agg #[.string s, .int .i64 (bl : Int), .int .i64 (bm : Int), .int .i64 (xl : Int), .int .i64 (xm : Int), .int .i64 (yl : Int), .int .i64 (ym : Int), .bool fw], .bool true]) ∧ Below w.heap.size w w' := by
  obtain ⟨k, rfl, k1, k2, rfl⟩ := fm_some h
  subst hs h1 h2 h3 h4 h5 h6 h7
  exact form_at k1 k2 w
theorem form_none {op : Int} (h : fmOf op = none) (w : World) : Calls Tryz.prog 134 #[.int .i64 op] w fun e w' => e = .returned (.tuple #[.agg #[.string ⟨#[]⟩, .int .i64 0, .int .i64 0, .int .i64 0, .int .i64 0, .int .i64 0, .int .i64 0, .bool false], .bool false]) ∧ Below w.heap.size w w' := by
  refine form_no ?_ w
  unfold fmOf at h
  intro hc
  rw [if_pos hc] at h
  cases h
set_option maxHeartbeats 4000000 in
theorem cgood_no {o : Int} {A : Option Addr} {na ca : Nat} {B : Option Addr} {m cb : Nat} {x y : Int} {z : Nat} (h : fmOf o = none) (w : World) :
    Calls Tryz.prog 71 #[.agg #[.int .i64 o, .slice A na ca, .slice B m cb, .int .i64 x, .int .i64 y, .int .u64 (z : Int)]] w fun e w' => e = .returned (.bool false) ∧ Below w.heap.size w w' := by
  have HB := Lib.hid (below_alloc w (.cells #[.int .i64 o, .slice A na ca, .slice B m cb, .int .i64 x, .int .i64 y, .int .u64 (z : Int)] 33))
  have HN := Lib.hid h
  clear h
  go_enter Tryz.func71, Tryz.ntmps71
  go_wp2_with fail
  generalize w.alloc _ = w1 at HB ⊢
  refine (form_none HN.out w1).mono ?_
  rintro e w2 ⟨rfl, hb⟩
  replace HB := Lib.hid (below_on HB.out hb)
  clear hb
  go_wp2
  go_ret
  exact ⟨rfl, bal HB.out⟩
set_option maxHeartbeats 4000000 in
theorem cgood_yes {f : Fm} {o : Int} {A : Option Addr} {na ca : Nat} {B : Option Addr} {m cb : Nat} {a l : List Int} {x y : Int} {z : Nat} {w : World} (h : fmOf o = some f) (hn : na = a.length) (hA : IntsAt w w.heap.size A a) (hm : m = l.length) (hB : IntsAt w w.heap.size B l) {g1 g2 : Bool}
    (hg1 : pgood a = g1) (hg2 : fits f ⟨o, a, l, x, y, z⟩ = g2) :
    Calls Tryz.prog 71 #[.agg #[.int .i64 o, .slice A na ca, .slice B m cb, .int .i64 x, .int .i64 y, .int .u64 (z : Int)]] w fun e w' => e = .returned (.bool (g1 && g2)) ∧ Below w.heap.size w w' := by
  have K2 := Bxs.new w [.int .i64 o, .slice A na ca, .slice B m cb, .int .i64 x, .int .i64 y, .int .u64 (z : Int)] 33
  have HB := Lib.hid K2.old
  have HI := Lib.hid (hA.on HB.out)
  have HJ := Lib.hid (hB.on HB.out)
  have H2 := Lib.hid K2
  have HF := Lib.hid h
  have HN := Lib.hid hn
  have HM := Lib.hid hm
  have E1 := Lib.hid hg1
  have E2 := Lib.hid hg2
  clear K2 h hn hA hm hB hg1 hg2
  go_enter Tryz.func71, Tryz.ntmps71
  go_wp2_with fail
  generalize w.alloc _ = w1 at HB HI HJ H2 ⊢
  obtain ⟨s, hs⟩ : ∃ s, (⟨f.s.toArray⟩ : ByteArray) = s := ⟨_, rfl⟩
  obtain ⟨bl, h1⟩ : ∃ n, f.bl = n := ⟨_, rfl⟩
  obtain ⟨bm, h2⟩ : ∃ n, f.bm = n := ⟨_, rfl⟩
  obtain ⟨xl, h3⟩ : ∃ n, f.xl = n := ⟨_, rfl⟩
  obtain ⟨xm, h4⟩ : ∃ n, f.xm = n := ⟨_, rfl⟩
  obtain ⟨yl, h5⟩ : ∃ n, f.yl = n := ⟨_, rfl⟩
  obtain ⟨ym, h6⟩ : ∃ n, f.ym = n := ⟨_, rfl⟩
  obtain ⟨fw, h7⟩ : ∃ n, f.w = n := ⟨_, rfl⟩
  have HV := Lib.hid (show fits f ⟨o, a, l, x, y, z⟩ = (inSpan bl bm m && ((decide (m = 0) || pgood l) && (inSpan xl xm x && (inSpan yl ym y && (fw || decide (z = 0)))))) by rw [← h1, ← h2, ← h3, ← h4, ← h5, ← h6, ← h7, HM.out]; rfl)
  refine (form_is HF.out hs h1 h2 h3 h4 h5 h6 h7 w1).mono ?_
  clear hs h1 h2 h3 h4 h5 h6 h7
  rintro e w2 ⟨rfl, hb⟩
  replace HB := Lib.hid (below_on HB.out hb)
  replace HI := Lib.hid (HI.out.on hb)
  replace HJ := Lib.hid (HJ.out.on hb)
  replace H2 := Lib.hid (H2.out.on hb)
  have K1 := Bxs.new w2 [.string s, .int .i64 (bl : Int), .int .i64 (bm : Int), .int .i64 (xl : Int), .int .i64 (xm : Int), .int .i64 (yl : Int), .int .i64 (ym : Int), .bool fw] 171
  have H1 := Lib.hid K1
  replace HB := Lib.hid (below_on HB.out K1.old)
  replace HI := Lib.hid (HI.out.on K1.old)
  replace HJ := Lib.hid (HJ.out.on K1.old)
  replace H2 := Lib.hid (H2.out.on K1.old)
  clear hb K1
  go_upto_region 2 with fail
  obtain ⟨g, hg⟩ : ∃ g, g = w2.heap.size := ⟨_, rfl⟩
  rw [← hg] at H1 ⊢
  clear hg
  generalize w2.alloc _ = w3 at HB HI HJ H2 H1 ⊢
  have f0 := H1.out.c 0 _ rfl
  have f1 := H1.out.c 1 _ rfl
  have f2 := H1.out.c 2 _ rfl
  have f3 := H1.out.c 3 _ rfl
  have f4 := H1.out.c 4 _ rfl
  have f5 := H1.out.c 5 _ rfl
  have f6 := H1.out.c 6 _ rfl
  have f7 := H1.out.c 7 _ rfl
  have q0 := H2.out.c 0 _ rfl
  have q1 := H2.out.c 1 _ rfl
  have q2 := H2.out.c 2 _ rfl
  have q3 := H2.out.c 3 _ rfl
  have q4 := H2.out.c 4 _ rfl
  have q5 := H2.out.c 5 _ rfl
  go_wp2_with fail
  refine (wgood_is (w := w3) HN.out HI.out E1.out).mono ?_
  rintro e w4 ⟨rfl, hb⟩
  clear f0 f1 f2 f3 f4 f5 f6 f7 q0 q1 q2 q3 q4 q5
  replace HB := Lib.hid (below_on HB.out hb)
  replace HJ := Lib.hid (HJ.out.on hb)
  replace H1 := Lib.hid (H1.out.on hb)
  replace H2 := Lib.hid (H2.out.on hb)
  clear hb
  have f0 := H1.out.c 0 _ rfl
  have f1 := H1.out.c 1 _ rfl
  have f2 := H1.out.c 2 _ rfl
  have f3 := H1.out.c 3 _ rfl
  have f4 := H1.out.c 4 _ rfl
  have f5 := H1.out.c 5 _ rfl
  have f6 := H1.out.c 6 _ rfl
  have f7 := H1.out.c 7 _ rfl
  have q0 := H2.out.c 0 _ rfl
  have q1 := H2.out.c 1 _ rfl
  have q2 := H2.out.c 2 _ rfl
  have q3 := H2.out.c 3 _ rfl
  have q4 := H2.out.c 4 _ rfl
  have q5 := H2.out.c 5 _ rfl
  cases g1
  case false =>
    go_wp2
    go_ret
    exact ⟨by simp, HB.out⟩
  case true =>
    go_wp2_with fail
    refine (clfits_any s bl bm xl xm yl ym fw o A na ca B m cb l x y z w4 HM.out HJ.out rfl rfl rfl rfl).mono ?_
    rintro e w5 ⟨rfl, hb⟩
    rw [← HV.out, E2.out]
    replace HB := Lib.hid (below_on HB.out hb)
    clear hb
    go_wp2
    go_ret
    exact ⟨by simp, HB.out⟩
theorem clcgood_any (c : Cl) {A B : Option Addr} {ca cb : Nat} {w : World} (hA : IntsAt w w.heap.size A c.a) (hB : IntsAt w w.heap.size B c.b) :
    Calls Tryz.prog 71 #[.agg #[.int .i64 c.op, .slice A c.a.length ca, .slice B c.b.length cb, .int .i64 c.x, .int .i64 c.y, .int .u64 (c.w : Int)]] w fun e w' => e = .returned (.bool (cgood c)) ∧ Below w.heap.size w w' := by
  cases hf : fmOf c.op with
  | none =>
    have e : cgood c = false := by simp [cgood, hf]
    rw [e]
    exact cgood_no hf w
  | some f =>
    have e : cgood c = (pgood c.a && fits f c) := by simp [cgood, hf]
    rw [e]
    exact cgood_yes hf rfl hA rfl hB rfl rfl
theorem clcgood_at {o : Int} {A : Option Addr} {na ca : Nat} {B : Option Addr} {m cb : Nat} {a l : List Int} {x y : Int} {z : Nat} {w : World} {g : Bool} (hn : na = a.length) (hA : IntsAt w w.heap.size A a) (hm : m = l.length) (hB : IntsAt w w.heap.size B l) (hg : cgood ⟨o, a, l, x, y, z⟩ = g) :
    Calls Tryz.prog 71 #[.agg #[.int .i64 o, .slice A na ca, .slice B m cb, .int .i64 x, .int .i64 y, .int .u64 (z : Int)]] w fun e w' => e = .returned (.bool g) ∧ Below w.heap.size w w' := by
  subst hn hm hg
  exact clcgood_any ⟨o, a, l, x, y, z⟩ hA hB
end Go.Proofs.YtkpbfbmkolgmgaaGreat
