/-
  The walk of the law StateKnown, over what the program's calls answer. No condition.
-/
import Derived.Test.YtggaadknaiogmaaKv
import Derived.Test.YtggaadknaiogmaaJo
namespace Go.Proofs.Ytggaadknaiogmaa
open Go.RowKit

theorem sn0 : snew ⟨0, 0, 0⟩ 64 = none := by rw [snew, if_neg (by decide +kernel)]
theorem sn1 : snew ⟨2, 32, 16⟩ 0 = none := by rw [snew, if_neg (by decide +kernel)]
theorem sn2 : snew ⟨2, 32, 16⟩ 4097 = none := by rw [snew, if_neg (by decide +kernel)]
theorem madez_cell (w : World) (z : Array Value) (n t k : Nat) (hk : k < n) : (w.alloc (.cells (madeCells z n) t)).cell? ⟨w.heap.size, k, none⟩ = some (z[k % z.size]!) := by
  have e := heap_alloc_new w (.cells (madeCells z n) t)
  rw [cell_of_row _ _ k _ _ _ e]
  unfold madeCells
  simp [hk]
theorem madez_free (w : World) (z : Array Value) (n t k : Nat) : (w.alloc (.cells (madeCells z n) t)).frozen? ⟨w.heap.size, k, none⟩ = false :=
  frozen_of_row _ _ k _ _ (heap_alloc_new w (.cells (madeCells z n) t))
theorem size_alloc (w : World) (o : Obj) : (w.alloc o).heap.size = w.heap.size + 1 := by simp
theorem infoSt_all : (Try.prog.info? 28).map (fun i => (i.zero, i.size, i.bytes)) = some (some (.agg #[.int .i64 0, .int .i64 0, .int .i64 0, .slice none 0 0, .slice none 0 0]), 5, 72) := by kernel_rfl
theorem infoSt_parts : ∃ i : TypeInfo, Try.prog.info? 28 = some i ∧ i.zero = some (.agg #[.int .i64 0, .int .i64 0, .int .i64 0, .slice none 0 0, .slice none 0 0]) ∧ i.size = 5 ∧ i.bytes = 72 := by
  have h := infoSt_all
  cases hq : Try.prog.info? 28 with
  | none => simp [hq] at h
  | some i =>
    simp [hq] at h
    exact ⟨i, rfl, h.1, h.2.1, h.2.2⟩
theorem make_states (m : Nat) (hm : m ≤ 1000) (w : World) : (Instr.makeSlice 33 (.int .i64 (m : Int)) (.int .i64 (m : Int))).run Try.prog w = .ok (.slice (some ⟨w.heap.size, 0, none⟩) m m) (w.alloc (.cells (madeCells #[.int .i64 0, .int .i64 0, .int .i64 0, .slice none 0 0, .slice none 0 0] (m * 5)) 28)) := by
  obtain ⟨i, h1, h2, h3, h4⟩ := infoSt_parts
  have := run_make w 33 28 i (.agg #[.int .i64 0, .int .i64 0, .int .i64 0, .slice none 0 0, .slice none 0 0]) Try.underlying33 h1 h2 .i64 .i64 m m (by omega) (by omega) (by rw [h4]; omega) (by omega)
  rw [h3] at this
  simpa [Value.cells] using this
theorem below_fnd {W w w' : World} {B : Nat} (h : Below W.heap.size W w) (f : Fnd w w' B) (hB : W.heap.size ≤ B) : Below W.heap.size W w' :=
  ⟨f.os.trans h.os, f.tape.trans h.tape, f.output.trans h.output, Nat.le_trans h.size f.size, fun i hi => (f.block i (Nat.lt_of_lt_of_le hi h.size) (by omega)).trans (h.block i hi)⟩
/-- the first loop: i states are made -/
def KnF (W : World) (L : Nat) (f : Nat) (p : Value) (wr : World) : Prop :=
  ∃ (i : Nat) (F : Nat → St) (P Q M CA CC : Nat → Nat), f + i = 13 ∧ p = .int .i64 i ∧ (∀ j, j < i → F j = s64 ∧ M j = 16 ∧ W.heap.size ≤ P j ∧ W.heap.size ≤ Q j) ∧ Rwz wr L i F P Q M CA CC ∧ Below W.heap.size W wr
theorem infoSt : (Try.prog.info? 28).map (·.size) = some 5 := by kernel_rfl
theorem stt_one (P Q : Option Addr) (ca cc : Nat) : (#[.int .i64 2, .int .i64 32, .int .i64 16, .slice P 32 ca, .slice Q 16 cc] : Array Value).all (·.oneCell') = true := all_oneCell_toArray (cs := [.int .i64 2, .int .i64 32, .int .i64 16, .slice P 32 ca, .slice Q 16 cc]) fun u hu => by
  simp at hu
  rcases hu with rfl | rfl | rfl | rfl | rfl <;> rfl
def knF0 : Nat → St := fun _ => s64
def knF1 : Nat → St := fun j => if j = 0 then setS (knF0 0) 9 ⟨⟨3, 1, 7, 0⟩, 9⟩ else knF0 j
def knF2 : Nat → St := fun j => if j = 1 then setS (knF1 1) 9 ⟨⟨3, 1, 7, 0⟩, 3⟩ else knF1 j
def knF3 : Nat → St := fun j => if j = 2 then setS (knF2 2) 3 ⟨⟨0, 0, 0, 0⟩, 0⟩ else knF2 j
def knF4 : Nat → St := fun j => if j = 3 then setS (knF3 3) 20 ⟨⟨3, 1, 7, 0⟩, -1⟩ else knF3 j
def knF5 : Nat → St := fun j => if j = 4 then setT (knF4 4) 5 ⟨4, 0, 0, 0, 0, 0, 0, false, 0, 0, 0, 0, 0⟩ else knF4 j
def knF6 : Nat → St := fun j => if j = 5 then setS (knF5 5) 2 ⟨⟨4, 1, 0, 0⟩, -1⟩ else knF5 j
def knF7 : Nat → St := fun j => if j = 6 then setT (knF6 6) 2 ⟨2, 2, 0, 0, 0, 0, 0, false, 0, 0, 0, 0, 0⟩ else knF6 j
def knF8 : Nat → St := fun j => if j = 7 then setT (knF7 7) 7 ⟨2, 1, 7, 0, 0, 0, 0, false, 0, 0, 0, 0, 0⟩ else knF7 j
def knF9 : Nat → St := fun j => if j = 7 then setS (knF8 7) 2 ⟨⟨2, 7, 0, 0⟩, -1⟩ else knF8 j
def knF10 : Nat → St := fun j => if j = 8 then setT (knF9 8) 1 ⟨3, 0, 0, 0, 0, 4, 0, true, 0, 0, 0, 0, 0⟩ else knF9 j
def knF11 : Nat → St := fun j => if j = 9 then setS (knF10 9) 9 ⟨⟨3, 1, 7, 0⟩, 1⟩ else knF10 j
def knF12 : Nat → St := fun j => if j = 9 then setS (knF11 9) 1 ⟨⟨3, 1, 3, 0⟩, -1⟩ else knF11 j
def knF13 : Nat → St := fun j => if j = 10 then ⟨(knF12 10).g, (knF12 10).sl, (knF12 10).th.take 15⟩ else knF12 j
def knF14 : Nat → St := fun j => if j = 11 then setS (knF13 11) 0 ⟨⟨1, 6, 7, 0⟩, -1⟩ else knF13 j
def knF15 : Nat → St := fun j => if j = 12 then setT (knF14 12) 7 ⟨2, 1, 16, 0, 0, 0, 0, false, 0, 0, 0, 0, 0⟩ else knF14 j
def knF16 : Nat → St := fun j => if j = 12 then setS (knF15 12) 16 ⟨⟨2, 7, 0, 0⟩, -1⟩ else knF15 j
def knM0 : Nat → Nat := fun _ => 16
def knM1 : Nat → Nat := fun j => if j = 10 then 15 else knM0 j
theorem knS0 : slist ⟨⟨3, 1, 7, 0⟩, 9⟩ = (slist (slAt (knF0 0).sl 9)).set 4 (.int .i64 9) := by kernel_rfl
theorem knS1 : slist ⟨⟨3, 1, 7, 0⟩, 3⟩ = (slist (slAt (knF1 1).sl 9)).set 4 (.int .i64 3) := by kernel_rfl
theorem knS2 : slist ⟨⟨0, 0, 0, 0⟩, 0⟩ = (slist (slAt (knF2 2).sl 3)).set 4 (.int .i64 0) := by kernel_rfl
theorem knS10 : slist ⟨⟨3, 1, 7, 0⟩, 1⟩ = (slist (slAt (knF10 9).sl 9)).set 2 (.int .i64 7) := by kernel_rfl
theorem knS11 : slist ⟨⟨3, 1, 3, 0⟩, -1⟩ = (slist (slAt (knF11 9).sl 1)).set 2 (.int .i64 3) := by kernel_rfl
theorem knS13 : slist ⟨⟨1, 6, 7, 0⟩, -1⟩ = (slist (slAt (knF13 11).sl 0)).set 1 (.int .i64 6) := by kernel_rfl
theorem knX0 : sgood (knF16 0) = false := by decide +kernel
theorem knX1 : sgood (knF16 1) = false := by decide +kernel
theorem knX2 : sgood (knF16 2) = false := by decide +kernel
theorem knX3 : sgood (knF16 3) = false := by decide +kernel
theorem knX4 : sgood (knF16 4) = false := by decide +kernel
theorem knX5 : sgood (knF16 5) = false := by decide +kernel
theorem knX6 : sgood (knF16 6) = false := by decide +kernel
theorem knX7 : sgood (knF16 7) = false := by decide +kernel
theorem knX8 : sgood (knF16 8) = false := by decide +kernel
theorem knX9 : sgood (knF16 9) = false := by decide +kernel
theorem knX10 : sgood (knF16 10) = false := by decide +kernel
theorem knX11 : sgood (knF16 11) = false := by decide +kernel
theorem knX12 : sgood (knF16 12) = false := by decide +kernel
theorem knX (j : Nat) (h : j < 13) : sgood (knF16 j) = false := by
  match j, h with
  | 0, _ => exact knX0
  | 1, _ => exact knX1
  | 2, _ => exact knX2
  | 3, _ => exact knX3
  | 4, _ => exact knX4
  | 5, _ => exact knX5
  | 6, _ => exact knX6
  | 7, _ => exact knX7
  | 8, _ => exact knX8
  | 9, _ => exact knX9
  | 10, _ => exact knX10
  | 11, _ => exact knX11
  | 12, _ => exact knX12
  | j + 13, h => omega
/-! ### the law's ints -/
def KSameRel (W : World) (n : Nat) (l m : List Int) (k : Nat) (p : Value) (wr : World) : Prop :=
  ∃ i : Nat, k + i = n ∧ p = .int .i64 i ∧ l.take i = m.take i ∧ Below W.heap.size W wr
theorem kints_any {A B : Option Addr} {c d : Nat} {l m : List Int} {w : World} (hl : l.length ≤ 1000000) (hL : IntsAt w w.heap.size A l) (hM : IntsAt w w.heap.size B m) :
    Calls Try.prog 15 #[.slice A l.length c, .slice B m.length d] w fun e w' => e = .returned (.bool (l == m)) ∧ Below w.heap.size w w' := by
  have HL := Lib.hid hL
  have HM := Lib.hid hM
  obtain ⟨n, hn⟩ : ∃ n, n = l.length := ⟨_, rfl⟩
  obtain ⟨k, hk⟩ : ∃ k, k = m.length := ⟨_, rfl⟩
  obtain ⟨x, hx⟩ : ∃ x, x = (l == m) := ⟨_, rfl⟩
  rw [← hn, ← hk, ← hx]
  rw [← hn] at hl
  have HN := Lib.hid hn
  have HK := Lib.hid hk
  have HX := Lib.hid hx
  clear hn hk hx hL hM
  by_cases hnk : n = k
  · subst hnk
    go_enter Try.func15, Try.ntmps15
    go_wp2_with fail
    go_loopg [5] n (fun k p wr => KSameRel w n l m k p wr)
    case atStart => exact ⟨0, by omega, rfl, rfl, Below.refl _ _⟩
    case round =>
      obtain ⟨i, hk, rfl, ht, hb⟩ := hrel
      have HI := Lib.hid hk
      have HB := Lib.hid hb
      have HT := Lib.hid ht
      clear hk hb ht
      by_cases hlt : i < n
      · have HLT := Lib.hid hlt
        have hlt2 : (i : Int) < (n : Int) := by omega
        obtain ⟨g1, o1, rfl, x1, y1⟩ := HL.out (by rw [← HN.out]; omega)
        obtain ⟨g2, o2, rfl, x2, y2⟩ := HM.out (by rw [← HK.out]; omega)
        obtain ⟨z, hz⟩ : ∃ z, l[i]? = some z := ⟨l[i]'(by rw [← HN.out]; exact hlt), List.getElem?_eq_getElem _⟩
        obtain ⟨y, hy⟩ : ∃ y, m[i]? = some y := ⟨m[i]'(by rw [← HK.out]; exact hlt), List.getElem?_eq_getElem _⟩
        have c1 : wr.cell? ⟨g1, o1 + i, none⟩ = some (.int .i64 z) := by rw [HB.out.cell (p := ⟨g1, _, none⟩) x1]; exact y1 i z hz
        have c2 : wr.cell? ⟨g2, o2 + i, none⟩ = some (.int .i64 y) := by rw [HB.out.cell (p := ⟨g2, _, none⟩) x2]; exact y2 i y hy
        have HZ := Lib.hid hz
        have HY := Lib.hid hy
        clear x1 x2 y1 y2 hz hy
        by_cases hzy : z = y
        · subst hzy
          go_wp2_with fail
          go_quiet (fail)
          go_wp2
          go_roundg (n - (i + 1))
          case measure => have := HI.out; have := HLT.out; omega
          case rel => exact ⟨i + 1, by have := HLT.out; omega, by go_num, by rw [List.take_add_one, List.take_add_one, HT.out, HZ.out, HY.out], below_draws HB.out _⟩
        · have HF : Hid (x = false) := Lib.hid (by
            rw [HX.out, beq_eq_false_iff_ne]
            intro e
            subst e
            exact hzy (Option.some.inj (HZ.out.symm.trans HY.out)))
          go_wp2_with fail
          go_quiet (fail)
          go_wp2
          go_ret
          exact ⟨by rw [HF.out]; rfl, below_draws HB.out _⟩
      · have HT2 : Hid (x = true) := Lib.hid (by
          have hi : i = n := by have := HI.out; omega
          have := HT.out
          rw [hi] at this
          conv at this => lhs; rw [HN.out, List.take_length]
          conv at this => rhs; rw [HK.out, List.take_length]
          rw [HX.out, this]
          simp)
        go_wp2
        go_ret
        exact ⟨by rw [HT2.out]; rfl, HB.out⟩
  · have HF : Hid (x = false) := Lib.hid (by
      rw [HX.out, beq_eq_false_iff_ne]
      intro e
      subst e
      exact hnk (HN.out.trans HK.out.symm))
    have h1 : ¬ (n : Int) = (k : Int) := by omega
    go_enter Try.func15, Try.ntmps15
    go_wp2
    go_ret
    exact ⟨by rw [HF.out]; rfl, below_self _⟩
theorem kints_is {A B : Option Addr} {a b c d : Nat} {l m : List Int} {x : Bool} {w : World} (ha : a = l.length) (hb : b = m.length) (hl : a ≤ 1000000) (hL : IntsAt w w.heap.size A l) (hM : IntsAt w w.heap.size B m) (hx : (l == m) = x) :
    Calls Try.prog 15 #[.slice A a c, .slice B b d] w fun e w' => e = .returned (.bool x) ∧ Below w.heap.size w w' := by
  subst ha
  subst hb
  exact hx ▸ kints_any hl hL hM
def Kn2 (V : World) (f : Nat) (p : Value) (wr : World) : Prop := ∃ i : Nat, f + i = 13 ∧ p = .int .i64 i ∧ Below V.heap.size V wr
theorem bal {V w' : World} {o : Obj} (h : Below V.heap.size V w') : Below V.heap.size V (w'.alloc o) := h.alloc h.size o
theorem owz_box {t : World} {s : St} {P Q ca cc : Nat} (hS : StAt t s (some ⟨P, 0, none⟩) (some ⟨Q, 0, none⟩)) (hg : s.g = ⟨2, 32, 16⟩) (hn : s.sl.length = 32) (hm : s.th.length = 16) (hm16 : 16 ≤ 16) (hP : P < t.heap.size) (hQ : Q < t.heap.size) (pf : ∀ j, t.frozen? ⟨P, j, none⟩ = false) (qf : ∀ j, t.frozen? ⟨Q, j, none⟩ = false) (hpq : P ≠ Q) (hca : 32 ≤ ca) (hcc : 16 ≤ cc) :
    Owz (t.alloc (.cells #[.int .i64 2, .int .i64 32, .int .i64 16, .slice (some ⟨P, 0, none⟩) 32 ca, .slice (some ⟨Q, 0, none⟩) 16 cc] 28)) t.heap.size 0 s P Q 16 ca cc := by
  have hba := below_alloc t (.cells #[.int .i64 2, .int .i64 32, .int .i64 16, .slice (some ⟨P, 0, none⟩) 32 ca, .slice (some ⟨Q, 0, none⟩) 16 cc] 28)
  have hSa := hS.on hba
  refine ⟨fun j v hv => ?_, fun j hj => ?_, fun j hj => ?_, fun j => ?_, fun j => ?_, by omega, by omega, hpq, by simp, Nat.lt_of_lt_of_le hP hba.size, Nat.lt_of_lt_of_le hQ hba.size, hg, hn, hm, hm16, hca, hcc⟩
  · have h := cell_of_row _ _ (0 + j) _ _ _ (heap_alloc_new t (.cells #[.int .i64 2, .int .i64 32, .int .i64 16, .slice (some ⟨P, 0, none⟩) 32 ca, .slice (some ⟨Q, 0, none⟩) 16 cc] 28))
    rw [h, Nat.zero_add, ← hv]
    simp
  · obtain ⟨b, o, e, -, h⟩ := hSa.sl (by rw [hn]; omega)
    obtain ⟨rfl, rfl⟩ : P = b ∧ 0 = o := by simpa using e
    have := h j (by rw [hn]; exact hj)
    rw [Nat.zero_add] at this
    exact range_of_slC this
  · obtain ⟨b, o, e, -, h⟩ := hSa.th (by rw [hm]; omega)
    obtain ⟨rfl, rfl⟩ : Q = b ∧ 0 = o := by simpa using e
    have := h j (by rw [hm]; exact hj)
    rw [Nat.zero_add] at this
    exact range_of_thC this
  · exact (hba.frozen (p := ⟨P, j, none⟩) hP).trans (pf j)
  · exact (hba.frozen (p := ⟨Q, j, none⟩) hQ).trans (qf j)
set_option maxRecDepth 100000 in
set_option maxHeartbeats 64000000 in
theorem sknown_walk (KC : Cos) (w : World) :
    Calls Try.prog 3 #[] w fun e w' => e = .returned (.bool true) ∧ Below w.heap.size w w' := by
  have hms := make_states 13 (by decide)
  simp only [Int.cast_ofNat_Int, Nat.reduceMul] at hms
  go_enter Try.func3, Try.ntmps3
  go_wp2_with fail
  rename_i QQ k2 a2 k1 a1 k0 a0
  have hq : QQ = bodyPost Try.prog Try.f3 (fun e w' => e = .returned (.bool true) ∧ Below w.heap.size w w') := rfl
  clear_value QQ
  subst hq
  refine (awake_any KC w).mono ?_
  rintro e w1 ⟨rfl, hb⟩
  have HB := Lib.hid hb
  clear hb
  go_wp2_with fail
  refine (KC.new sn0).mono ?_
  rintro e w2 ⟨A1, ca1, C1, cc1, rfl, hb⟩
  replace HB := Lib.hid (below_on (below_on HB.out hb) (below_alloc _ (.cells #[.int .i64 0, .int .i64 0, .int .i64 0, .slice A1 0 ca1, .slice C1 0 cc1] 28)))
  clear hb
  go_wp2_with fail
  generalize w2.alloc _ = w2' at HB ⊢
  refine (plain_any w2').mono ?_
  rintro e w3 ⟨rfl, hb⟩
  replace HB := Lib.hid (below_on HB.out hb)
  clear hb
  go_wp2_with fail
  refine (KC.new sn1).mono ?_
  rintro e w4 ⟨A2, ca2, C2, cc2, rfl, hb⟩
  replace HB := Lib.hid (below_on (below_on HB.out hb) (below_alloc _ (.cells #[.int .i64 0, .int .i64 0, .int .i64 0, .slice A2 0 ca2, .slice C2 0 cc2] 28)))
  clear hb
  go_wp2_with fail
  generalize w4.alloc _ = w4' at HB ⊢
  refine (plain_any w4').mono ?_
  rintro e w5 ⟨rfl, hb⟩
  replace HB := Lib.hid (below_on HB.out hb)
  clear hb
  go_wp2_with fail
  refine (KC.new sn2).mono ?_
  rintro e w6 ⟨A3, ca3, C3, cc3, rfl, hb⟩
  replace HB := Lib.hid (below_on (below_on HB.out hb) (below_alloc _ (.cells #[.int .i64 0, .int .i64 0, .int .i64 0, .slice A3 0 ca3, .slice C3 0 cc3] 28)))
  clear hb
  go_wp2_with fail
  have hR : Rwz ((w6.alloc (.cells #[.int .i64 0, .int .i64 0, .int .i64 0, .slice A3 0 ca3, .slice C3 0 cc3] 28)).alloc (.cells (madeCells #[.int .i64 0, .int .i64 0, .int .i64 0, .slice none 0 0, .slice none 0 0] 65) 28)) (w6.alloc (.cells #[.int .i64 0, .int .i64 0, .int .i64 0, .slice A3 0 ca3, .slice C3 0 cc3] 28)).heap.size 0 (fun _ => s64) (fun _ => 0) (fun _ => 0) (fun _ => 0) (fun _ => 0) (fun _ => 0) :=
    ⟨fun k hk => absurd hk (Nat.not_lt_zero k), fun j k hj => absurd hj (Nat.not_lt_zero j), fun j hj => ⟨by rw [Nat.zero_add, madez_cell _ _ _ _ _ hj]; rfl, madez_free _ _ _ _ _⟩, by simp⟩
  have hL : w.heap.size ≤ (w6.alloc (.cells #[.int .i64 0, .int .i64 0, .int .i64 0, .slice A3 0 ca3, .slice C3 0 cc3] 28)).heap.size := HB.out.size
  replace HB := Lib.hid (below_on HB.out (below_alloc _ (.cells (madeCells #[.int .i64 0, .int .i64 0, .int .i64 0, .slice none 0 0, .slice none 0 0] 65) 28)))
  rw [size_alloc] at hR hL
  obtain ⟨L, hLe⟩ : ∃ L, L = w6.heap.size + 1 := ⟨_, rfl⟩
  rw [← hLe] at hR hL
  have HLE := Lib.hid hLe
  have HR := Lib.hid hR
  have HL := Lib.hid hL
  clear hR hL hLe
  go_wp2_with fail
  rw [← HLE.out]
  clear HLE
  generalize (w6.alloc _).alloc _ = w7 at HB HR ⊢
  go_loopg [8] 13 (fun f p wr => KnF w L f p wr)
  case atStart => exact ⟨0, _, _, _, _, _, _, by omega, rfl, fun j hj => absurd hj (Nat.not_lt_zero j), HR.out, HB.out⟩
  case round =>
    clear HR HB
    obtain ⟨i, F, P, Q, M, CA, CC, hk, rfl, hF, hR, hb⟩ := hrel
    have HK := Lib.hid hk
    have HF := Lib.hid hF
    have HR := Lib.hid hR
    have HB := Lib.hid hb
    clear hk hF hR hb
    by_cases hlt : i < 13
    · have HLT := Lib.hid hlt
      have hlt2 : (i : Int) < 13 := by omega
      go_wp2_with fail
      refine (plain_any wr).mono ?_
      rintro e w8 ⟨rfl, hb8⟩
      have HB8 := Lib.hid hb8
      clear hb8
      go_wp2_with fail
      refine (KC.new s64_new).mono ?_
      rintro e w9 ⟨A, ca, C, cc, rfl, hca, hcc, hF9, hb9⟩
      have HR8 := Lib.hid (HR.out.on HB8.out)
      have HBW := Lib.hid (below_on (below_on HB.out HB8.out) hb9)
      have HB89 := Lib.hid hb9
      obtain ⟨pb, rfl, hp1, hp2, hp3⟩ := hF9.sl (by rw [s64_slots]; decide)
      obtain ⟨qb, rfl, hq1, hq2, hq3⟩ := hF9.th (by rw [s64_things]; decide)
      have hpq : pb ≠ qb := fun e => hF9.ne (by rw [s64_slots]; decide) (by rw [s64_things]; decide) (by rw [e])
      have hM := Lib.hid ((HR8.out.on hb9).more hlt HR8.out hF9.lies hp1 hp2 hq1 hq2 hpq hp3 hq3 (by rw [s64_slots] at hca; exact hca) (by rw [s64_things] at hcc; exact hcc))
      have HTH : Hid (w9.there L (i * 5) 5) := Lib.hid fun j hj => by
        have := (HR8.out.on hb9).all (i * 5 + j) (by omega)
        rw [Nat.zero_add] at this
        exact this
      have HPW : Hid (w.heap.size ≤ pb ∧ w.heap.size ≤ qb) := Lib.hid ⟨Nat.le_trans (Nat.le_trans HB.out.size HB8.out.size) hp1, Nat.le_trans (Nat.le_trans HB.out.size HB8.out.size) hq1⟩
      simp only [s64_geo, s64_slots, s64_things] at hca hcc ⊢
      clear hb9 hF9 hp1 hp2 hp3 hq1 hq2 hq3 hpq hca hcc
      have HCS : Hid ((#[.int .i64 2, .int .i64 32, .int .i64 16, .slice (some ⟨pb, 0, none⟩) 32 ca, .slice (some ⟨qb, 0, none⟩) 16 cc] : Array Value).all (·.oneCell') = true) := Lib.hid (stt_one _ _ _ _)
      obtain ⟨y0, z0⟩ := Option.isSome_iff_exists.1 (HTH.out 0 (by decide)).1
      obtain ⟨y1, z1⟩ := Option.isSome_iff_exists.1 (HTH.out 1 (by decide)).1
      obtain ⟨y2, z2⟩ := Option.isSome_iff_exists.1 (HTH.out 2 (by decide)).1
      obtain ⟨y3, z3⟩ := Option.isSome_iff_exists.1 (HTH.out 3 (by decide)).1
      obtain ⟨y4, z4⟩ := Option.isSome_iff_exists.1 (HTH.out 4 (by decide)).1
      have f0 := (HTH.out 0 (by decide)).2
      have f1 := (HTH.out 1 (by decide)).2
      have f2 := (HTH.out 2 (by decide)).2
      have f3 := (HTH.out 3 (by decide)).2
      have f4 := (HTH.out 4 (by decide)).2
      rw [Nat.add_zero] at z0 f0
      go_wp2_with fail
      go_roundg (13 - (i + 1))
      case measure => have := HK.out; have := HLT.out; omega
      case rel =>
        refine ⟨i + 1, _, _, _, _, _, _, by have := HK.out; have := HLT.out; omega, by go_num, fun j hj => ?_, hM.out, below_fnd HBW.out (Fnd.setCells L [.int .i64 2, .int .i64 32, .int .i64 16, .slice (some ⟨pb, 0, none⟩) 32 ca, .slice (some ⟨qb, 0, none⟩) 16 cc] (i * 5) w9) HL.out⟩
        by_cases e : j = i
        · subst e
          simp only [if_pos]
          exact ⟨trivial, trivial, HPW.out.1, HPW.out.2⟩
        · simp only [if_neg e]
          exact HF.out j (by omega)
    · have hlt2 : ¬ (i : Int) < 13 := by omega
      have hi : i = 13 := by have := HK.out; omega
      have HR13 : Hid (Rwz wr L 13 F P Q M CA CC) := Lib.hid (hi ▸ HR.out)
      have HF13 : Hid (∀ j, j < 13 → F j = s64 ∧ M j = 16 ∧ w.heap.size ≤ P j ∧ w.heap.size ≤ Q j) := Lib.hid (hi ▸ HF.out)
      clear HF HR HK hlt
      have HR0 : Hid (Rwz wr L 13 (fun _ => s64) P Q (fun _ => 16) CA CC) := Lib.hid ⟨fun k hk => by
        have h1 := HR13.out.own k hk
        rw [(HF13.out k hk).1, (HF13.out k hk).2.1] at h1
        exact h1, HR13.out.ap, HR13.out.all, HR13.out.lt⟩
      clear HR13
      go_upto_region 14 with fail
      have hba := below_alloc wr (.cells #[.int .i64 3, .int .i64 1, .int .i64 7, .int .i64 0] 35)
      have hfr := Fr.new wr 3 1 7 0 35
      have HZ0 : Hid (Rwz (wr.alloc (.cells #[.int .i64 3, .int .i64 1, .int .i64 7, .int .i64 0] 35)) L 13 knF0 P Q knM0 CA CC) := Lib.hid (HR0.out.on hba)
      have HB0 : Hid (Below w.heap.size w (wr.alloc (.cells #[.int .i64 3, .int .i64 1, .int .i64 7, .int .i64 0] 35))) := Lib.hid (below_on HB.out hba)
      obtain ⟨bx, hbx⟩ : ∃ bx, bx = wr.heap.size := ⟨_, rfl⟩
      have HNX : Hid (∀ k, k < 13 → bx ≠ P k) := Lib.hid fun k hk => by have := (HR0.out.own k hk).lP; omega
      rw [← hbx] at hfr ⊢
      clear hbx hba HB HR0
      generalize wr.alloc _ = v0 at HZ0 HB0 hfr ⊢
      have q0 := hfr.c0
      have q1 := hfr.c1
      have q2 := hfr.c2
      have q3 := hfr.c3
      have HX0 := Lib.hid hfr.lt
      clear hfr
      have r3 : v0.cell? ⟨L, 3, none⟩ = some (.slice (some ⟨P 0, 0, none⟩) 32 (CA 0)) := (HZ0.out.own 0 (by decide)).row 3 _ rfl
      obtain ⟨y4, z4⟩ : ∃ y, v0.cell? ⟨P 0, 49, none⟩ = some y := ⟨_, (HZ0.out.own 0 (by decide)).sl 9 (by decide) 4 _ rfl⟩
      have f4 := (HZ0.out.own 0 (by decide)).Pf 49
      go_upto_region 15 with fail
      have hz : Rwz (v0.setCell ⟨P 0, 49, none⟩ (.int .i64 9)) L 13 knF1 P Q knM0 CA CC := HZ0.out.putG1 (k := 0) (i := 9) (by decide) (by decide) 4 (by decide) (.int .i64 9) ⟨⟨3, 1, 7, 0⟩, 9⟩ knS0 (fun j _ => rfl)
      have hfn : Fnd v0 (v0.setCell ⟨P 0, 49, none⟩ (.int .i64 9)) (P 0) := Fnd.mark _ _ _ _
      generalize (v0.setCell ⟨P 0, 49, none⟩ (.int .i64 9)) = v1 at hz hfn ⊢
      have HZ1 := Lib.hid hz
      have HB1 := Lib.hid (below_fnd HB0.out hfn (HF13.out 0 (by decide)).2.2.1)
      replace q0 := (hfn.cell (j := 0) HX0.out (HNX.out 0 (by decide))).trans q0
      replace q1 := (hfn.cell (j := 1) HX0.out (HNX.out 0 (by decide))).trans q1
      replace q2 := (hfn.cell (j := 2) HX0.out (HNX.out 0 (by decide))).trans q2
      replace q3 := (hfn.cell (j := 3) HX0.out (HNX.out 0 (by decide))).trans q3
      have HX1 := Lib.hid (Nat.lt_of_lt_of_le HX0.out hfn.size)
      clear hz hfn r3 z4 f4
      have r3 : v1.cell? ⟨L, 8, none⟩ = some (.slice (some ⟨P 1, 0, none⟩) 32 (CA 1)) := (HZ1.out.own 1 (by decide)).row 3 _ rfl
      obtain ⟨y4, z4⟩ : ∃ y, v1.cell? ⟨P 1, 49, none⟩ = some y := ⟨_, (HZ1.out.own 1 (by decide)).sl 9 (by decide) 4 _ rfl⟩
      have f4 := (HZ1.out.own 1 (by decide)).Pf 49
      go_upto_region 16 with fail
      have hz : Rwz (v1.setCell ⟨P 1, 49, none⟩ (.int .i64 3)) L 13 knF2 P Q knM0 CA CC := HZ1.out.putG1 (k := 1) (i := 9) (by decide) (by decide) 4 (by decide) (.int .i64 3) ⟨⟨3, 1, 7, 0⟩, 3⟩ knS1 (fun j _ => rfl)
      have hfn : Fnd v1 (v1.setCell ⟨P 1, 49, none⟩ (.int .i64 3)) (P 1) := Fnd.mark _ _ _ _
      generalize (v1.setCell ⟨P 1, 49, none⟩ (.int .i64 3)) = v2 at hz hfn ⊢
      have HZ2 := Lib.hid hz
      have HB2 := Lib.hid (below_fnd HB1.out hfn (HF13.out 1 (by decide)).2.2.1)
      replace q0 := (hfn.cell (j := 0) HX1.out (HNX.out 1 (by decide))).trans q0
      replace q1 := (hfn.cell (j := 1) HX1.out (HNX.out 1 (by decide))).trans q1
      replace q2 := (hfn.cell (j := 2) HX1.out (HNX.out 1 (by decide))).trans q2
      replace q3 := (hfn.cell (j := 3) HX1.out (HNX.out 1 (by decide))).trans q3
      have HX2 := Lib.hid (Nat.lt_of_lt_of_le HX1.out hfn.size)
      clear hz hfn r3 z4 f4
      have r3 : v2.cell? ⟨L, 13, none⟩ = some (.slice (some ⟨P 2, 0, none⟩) 32 (CA 2)) := (HZ2.out.own 2 (by decide)).row 3 _ rfl
      obtain ⟨y4, z4⟩ : ∃ y, v2.cell? ⟨P 2, 19, none⟩ = some y := ⟨_, (HZ2.out.own 2 (by decide)).sl 3 (by decide) 4 _ rfl⟩
      have f4 := (HZ2.out.own 2 (by decide)).Pf 19
      go_upto_region 17 with fail
      have hz : Rwz (v2.setCell ⟨P 2, 19, none⟩ (.int .i64 0)) L 13 knF3 P Q knM0 CA CC := HZ2.out.putG1 (k := 2) (i := 3) (by decide) (by decide) 4 (by decide) (.int .i64 0) ⟨⟨0, 0, 0, 0⟩, 0⟩ knS2 (fun j _ => rfl)
      have hfn : Fnd v2 (v2.setCell ⟨P 2, 19, none⟩ (.int .i64 0)) (P 2) := Fnd.mark _ _ _ _
      generalize (v2.setCell ⟨P 2, 19, none⟩ (.int .i64 0)) = v3 at hz hfn ⊢
      have HZ3 := Lib.hid hz
      have HB3 := Lib.hid (below_fnd HB2.out hfn (HF13.out 2 (by decide)).2.2.1)
      replace q0 := (hfn.cell (j := 0) HX2.out (HNX.out 2 (by decide))).trans q0
      replace q1 := (hfn.cell (j := 1) HX2.out (HNX.out 2 (by decide))).trans q1
      replace q2 := (hfn.cell (j := 2) HX2.out (HNX.out 2 (by decide))).trans q2
      replace q3 := (hfn.cell (j := 3) HX2.out (HNX.out 2 (by decide))).trans q3
      have HX3 := Lib.hid (Nat.lt_of_lt_of_le HX2.out hfn.size)
      clear hz hfn r3 z4 f4
      have r3 : v3.cell? ⟨L, 18, none⟩ = some (.slice (some ⟨P 3, 0, none⟩) 32 (CA 3)) := (HZ3.out.own 3 (by decide)).row 3 _ rfl
      obtain ⟨y0, z0⟩ : ∃ y, v3.cell? ⟨P 3, 100, none⟩ = some y := ⟨_, (HZ3.out.own 3 (by decide)).sl 20 (by decide) 0 _ rfl⟩
      have f0 := (HZ3.out.own 3 (by decide)).Pf 100
      obtain ⟨y1, z1⟩ : ∃ y, v3.cell? ⟨P 3, 101, none⟩ = some y := ⟨_, (HZ3.out.own 3 (by decide)).sl 20 (by decide) 1 _ rfl⟩
      have f1 := (HZ3.out.own 3 (by decide)).Pf 101
      obtain ⟨y2, z2⟩ : ∃ y, v3.cell? ⟨P 3, 102, none⟩ = some y := ⟨_, (HZ3.out.own 3 (by decide)).sl 20 (by decide) 2 _ rfl⟩
      have f2 := (HZ3.out.own 3 (by decide)).Pf 102
      obtain ⟨y3, z3⟩ : ∃ y, v3.cell? ⟨P 3, 103, none⟩ = some y := ⟨_, (HZ3.out.own 3 (by decide)).sl 20 (by decide) 3 _ rfl⟩
      have f3 := (HZ3.out.own 3 (by decide)).Pf 103
      obtain ⟨y4, z4⟩ : ∃ y, v3.cell? ⟨P 3, 104, none⟩ = some y := ⟨_, (HZ3.out.own 3 (by decide)).sl 20 (by decide) 4 _ rfl⟩
      have f4 := (HZ3.out.own 3 (by decide)).Pf 104
      go_region
      go_upto_region 18 with fail
      have hz : Rwz (((((v3.setCell ⟨P 3, 100, none⟩ (.int .i64 3)).setCell ⟨P 3, 101, none⟩ (.int .i64 1)).setCell ⟨P 3, 102, none⟩ (.int .i64 7)).setCell ⟨P 3, 103, none⟩ (.int .i64 0)).setCell ⟨P 3, 104, none⟩ (.int .i64 (-1))) L 13 knF4 P Q knM0 CA CC := HZ3.out.putG (k := 3) (i := 20) (by decide) (by decide) ⟨⟨3, 1, 7, 0⟩, -1⟩ (fun j _ => rfl)
      have hfn : Fnd v3 (((((v3.setCell ⟨P 3, 100, none⟩ (.int .i64 3)).setCell ⟨P 3, 101, none⟩ (.int .i64 1)).setCell ⟨P 3, 102, none⟩ (.int .i64 7)).setCell ⟨P 3, 103, none⟩ (.int .i64 0)).setCell ⟨P 3, 104, none⟩ (.int .i64 (-1))) (P 3) := Fnd.setCells _ [.int .i64 3, .int .i64 1, .int .i64 7, .int .i64 0, .int .i64 (-1)] 100 _
      replace hz : Rwz (((((v3.setCell ⟨P 3, 100, none⟩ (.int .i64 3)).setCell ⟨P 3, 101, none⟩ (.int .i64 1)).setCell ⟨P 3, 102, none⟩ (.int .i64 7)).setCell ⟨P 3, 103, none⟩ (.int .i64 0)).setCell ⟨P 3, 104, none⟩ (.int .i64 (-1))).drew L 13 knF4 P Q knM0 CA CC := hz.on (below_self _).drew
      replace hfn : Fnd v3 (((((v3.setCell ⟨P 3, 100, none⟩ (.int .i64 3)).setCell ⟨P 3, 101, none⟩ (.int .i64 1)).setCell ⟨P 3, 102, none⟩ (.int .i64 7)).setCell ⟨P 3, 103, none⟩ (.int .i64 0)).setCell ⟨P 3, 104, none⟩ (.int .i64 (-1))).drew (P 3) := hfn.trans (Fnd.of (below_self _).drew _)
      generalize (((((v3.setCell ⟨P 3, 100, none⟩ (.int .i64 3)).setCell ⟨P 3, 101, none⟩ (.int .i64 1)).setCell ⟨P 3, 102, none⟩ (.int .i64 7)).setCell ⟨P 3, 103, none⟩ (.int .i64 0)).setCell ⟨P 3, 104, none⟩ (.int .i64 (-1))).drew = v4 at hz hfn ⊢
      have HZ4 := Lib.hid hz
      have HB4 := Lib.hid (below_fnd HB3.out hfn (HF13.out 3 (by decide)).2.2.1)
      clear hz hfn r3 z0 f0 z1 f1 z2 f2 z3 f3 z4 f4 q0 q1 q2 q3
      have r4 : v4.cell? ⟨L, 24, none⟩ = some (.slice (some ⟨Q 4, 0, none⟩) 16 (CC 4)) := (HZ4.out.own 4 (by decide)).row 4 _ rfl
      obtain ⟨y0, z0⟩ : ∃ y, v4.cell? ⟨Q 4, 65, none⟩ = some y := ⟨_, (HZ4.out.own 4 (by decide)).th 5 (by decide) 0 _ rfl⟩
      have f0 := (HZ4.out.own 4 (by decide)).Qf 65
      obtain ⟨y1, z1⟩ : ∃ y, v4.cell? ⟨Q 4, 66, none⟩ = some y := ⟨_, (HZ4.out.own 4 (by decide)).th 5 (by decide) 1 _ rfl⟩
      have f1 := (HZ4.out.own 4 (by decide)).Qf 66
      obtain ⟨y2, z2⟩ : ∃ y, v4.cell? ⟨Q 4, 67, none⟩ = some y := ⟨_, (HZ4.out.own 4 (by decide)).th 5 (by decide) 2 _ rfl⟩
      have f2 := (HZ4.out.own 4 (by decide)).Qf 67
      obtain ⟨y3, z3⟩ : ∃ y, v4.cell? ⟨Q 4, 68, none⟩ = some y := ⟨_, (HZ4.out.own 4 (by decide)).th 5 (by decide) 3 _ rfl⟩
      have f3 := (HZ4.out.own 4 (by decide)).Qf 68
      obtain ⟨y4, z4⟩ : ∃ y, v4.cell? ⟨Q 4, 69, none⟩ = some y := ⟨_, (HZ4.out.own 4 (by decide)).th 5 (by decide) 4 _ rfl⟩
      have f4 := (HZ4.out.own 4 (by decide)).Qf 69
      obtain ⟨y5, z5⟩ : ∃ y, v4.cell? ⟨Q 4, 70, none⟩ = some y := ⟨_, (HZ4.out.own 4 (by decide)).th 5 (by decide) 5 _ rfl⟩
      have f5 := (HZ4.out.own 4 (by decide)).Qf 70
      obtain ⟨y6, z6⟩ : ∃ y, v4.cell? ⟨Q 4, 71, none⟩ = some y := ⟨_, (HZ4.out.own 4 (by decide)).th 5 (by decide) 6 _ rfl⟩
      have f6 := (HZ4.out.own 4 (by decide)).Qf 71
      obtain ⟨y7, z7⟩ : ∃ y, v4.cell? ⟨Q 4, 72, none⟩ = some y := ⟨_, (HZ4.out.own 4 (by decide)).th 5 (by decide) 7 _ rfl⟩
      have f7 := (HZ4.out.own 4 (by decide)).Qf 72
      obtain ⟨y8, z8⟩ : ∃ y, v4.cell? ⟨Q 4, 73, none⟩ = some y := ⟨_, (HZ4.out.own 4 (by decide)).th 5 (by decide) 8 _ rfl⟩
      have f8 := (HZ4.out.own 4 (by decide)).Qf 73
      obtain ⟨y9, z9⟩ : ∃ y, v4.cell? ⟨Q 4, 74, none⟩ = some y := ⟨_, (HZ4.out.own 4 (by decide)).th 5 (by decide) 9 _ rfl⟩
      have f9 := (HZ4.out.own 4 (by decide)).Qf 74
      obtain ⟨y10, z10⟩ : ∃ y, v4.cell? ⟨Q 4, 75, none⟩ = some y := ⟨_, (HZ4.out.own 4 (by decide)).th 5 (by decide) 10 _ rfl⟩
      have f10 := (HZ4.out.own 4 (by decide)).Qf 75
      obtain ⟨y11, z11⟩ : ∃ y, v4.cell? ⟨Q 4, 76, none⟩ = some y := ⟨_, (HZ4.out.own 4 (by decide)).th 5 (by decide) 11 _ rfl⟩
      have f11 := (HZ4.out.own 4 (by decide)).Qf 76
      obtain ⟨y12, z12⟩ : ∃ y, v4.cell? ⟨Q 4, 77, none⟩ = some y := ⟨_, (HZ4.out.own 4 (by decide)).th 5 (by decide) 12 _ rfl⟩
      have f12 := (HZ4.out.own 4 (by decide)).Qf 77
      go_upto_region 19 with fail
      have hz : Rwz (((((((((((((v4.setCell ⟨Q 4, 65, none⟩ (.int .i64 4)).setCell ⟨Q 4, 66, none⟩ (.int .i64 0)).setCell ⟨Q 4, 67, none⟩ (.int .i64 0)).setCell ⟨Q 4, 68, none⟩ (.int .i64 0)).setCell ⟨Q 4, 69, none⟩ (.int .i64 0)).setCell ⟨Q 4, 70, none⟩ (.int .i64 0)).setCell ⟨Q 4, 71, none⟩ (.int .i64 0)).setCell ⟨Q 4, 72, none⟩ (.bool false)).setCell ⟨Q 4, 73, none⟩ (.int .u64 0)).setCell ⟨Q 4, 74, none⟩ (.int .u64 0)).setCell ⟨Q 4, 75, none⟩ (.int .u64 0)).setCell ⟨Q 4, 76, none⟩ (.int .u64 0)).setCell ⟨Q 4, 77, none⟩ (.int .u64 0)) L 13 knF5 P Q knM0 CA CC := HZ4.out.putT (k := 4) (i := 5) (by decide) (by decide) ⟨4, 0, 0, 0, 0, 0, 0, false, 0, 0, 0, 0, 0⟩ (fun j _ => rfl)
      have hfn : Fnd v4 (((((((((((((v4.setCell ⟨Q 4, 65, none⟩ (.int .i64 4)).setCell ⟨Q 4, 66, none⟩ (.int .i64 0)).setCell ⟨Q 4, 67, none⟩ (.int .i64 0)).setCell ⟨Q 4, 68, none⟩ (.int .i64 0)).setCell ⟨Q 4, 69, none⟩ (.int .i64 0)).setCell ⟨Q 4, 70, none⟩ (.int .i64 0)).setCell ⟨Q 4, 71, none⟩ (.int .i64 0)).setCell ⟨Q 4, 72, none⟩ (.bool false)).setCell ⟨Q 4, 73, none⟩ (.int .u64 0)).setCell ⟨Q 4, 74, none⟩ (.int .u64 0)).setCell ⟨Q 4, 75, none⟩ (.int .u64 0)).setCell ⟨Q 4, 76, none⟩ (.int .u64 0)).setCell ⟨Q 4, 77, none⟩ (.int .u64 0)) (Q 4) := Fnd.setCells _ [.int .i64 4, .int .i64 0, .int .i64 0, .int .i64 0, .int .i64 0, .int .i64 0, .int .i64 0, .bool false, .int .u64 0, .int .u64 0, .int .u64 0, .int .u64 0, .int .u64 0] 65 _
      generalize (((((((((((((v4.setCell ⟨Q 4, 65, none⟩ (.int .i64 4)).setCell ⟨Q 4, 66, none⟩ (.int .i64 0)).setCell ⟨Q 4, 67, none⟩ (.int .i64 0)).setCell ⟨Q 4, 68, none⟩ (.int .i64 0)).setCell ⟨Q 4, 69, none⟩ (.int .i64 0)).setCell ⟨Q 4, 70, none⟩ (.int .i64 0)).setCell ⟨Q 4, 71, none⟩ (.int .i64 0)).setCell ⟨Q 4, 72, none⟩ (.bool false)).setCell ⟨Q 4, 73, none⟩ (.int .u64 0)).setCell ⟨Q 4, 74, none⟩ (.int .u64 0)).setCell ⟨Q 4, 75, none⟩ (.int .u64 0)).setCell ⟨Q 4, 76, none⟩ (.int .u64 0)).setCell ⟨Q 4, 77, none⟩ (.int .u64 0)) = v5 at hz hfn ⊢
      have HZ5 := Lib.hid hz
      have HB5 := Lib.hid (below_fnd HB4.out hfn (HF13.out 4 (by decide)).2.2.2)
      clear hz hfn r4 z0 f0 z1 f1 z2 f2 z3 f3 z4 f4 z5 f5 z6 f6 z7 f7 z8 f8 z9 f9 z10 f10 z11 f11 z12 f12
      have r3 : v5.cell? ⟨L, 28, none⟩ = some (.slice (some ⟨P 5, 0, none⟩) 32 (CA 5)) := (HZ5.out.own 5 (by decide)).row 3 _ rfl
      obtain ⟨y0, z0⟩ : ∃ y, v5.cell? ⟨P 5, 10, none⟩ = some y := ⟨_, (HZ5.out.own 5 (by decide)).sl 2 (by decide) 0 _ rfl⟩
      have f0 := (HZ5.out.own 5 (by decide)).Pf 10
      obtain ⟨y1, z1⟩ : ∃ y, v5.cell? ⟨P 5, 11, none⟩ = some y := ⟨_, (HZ5.out.own 5 (by decide)).sl 2 (by decide) 1 _ rfl⟩
      have f1 := (HZ5.out.own 5 (by decide)).Pf 11
      obtain ⟨y2, z2⟩ : ∃ y, v5.cell? ⟨P 5, 12, none⟩ = some y := ⟨_, (HZ5.out.own 5 (by decide)).sl 2 (by decide) 2 _ rfl⟩
      have f2 := (HZ5.out.own 5 (by decide)).Pf 12
      obtain ⟨y3, z3⟩ : ∃ y, v5.cell? ⟨P 5, 13, none⟩ = some y := ⟨_, (HZ5.out.own 5 (by decide)).sl 2 (by decide) 3 _ rfl⟩
      have f3 := (HZ5.out.own 5 (by decide)).Pf 13
      obtain ⟨y4, z4⟩ : ∃ y, v5.cell? ⟨P 5, 14, none⟩ = some y := ⟨_, (HZ5.out.own 5 (by decide)).sl 2 (by decide) 4 _ rfl⟩
      have f4 := (HZ5.out.own 5 (by decide)).Pf 14
      go_upto_region 20 with fail
      have hz : Rwz (((((v5.setCell ⟨P 5, 10, none⟩ (.int .i64 4)).setCell ⟨P 5, 11, none⟩ (.int .i64 1)).setCell ⟨P 5, 12, none⟩ (.int .i64 0)).setCell ⟨P 5, 13, none⟩ (.int .i64 0)).setCell ⟨P 5, 14, none⟩ (.int .i64 (-1))) L 13 knF6 P Q knM0 CA CC := HZ5.out.putG (k := 5) (i := 2) (by decide) (by decide) ⟨⟨4, 1, 0, 0⟩, -1⟩ (fun j _ => rfl)
      have hfn : Fnd v5 (((((v5.setCell ⟨P 5, 10, none⟩ (.int .i64 4)).setCell ⟨P 5, 11, none⟩ (.int .i64 1)).setCell ⟨P 5, 12, none⟩ (.int .i64 0)).setCell ⟨P 5, 13, none⟩ (.int .i64 0)).setCell ⟨P 5, 14, none⟩ (.int .i64 (-1))) (P 5) := Fnd.setCells _ [.int .i64 4, .int .i64 1, .int .i64 0, .int .i64 0, .int .i64 (-1)] 10 _
      generalize (((((v5.setCell ⟨P 5, 10, none⟩ (.int .i64 4)).setCell ⟨P 5, 11, none⟩ (.int .i64 1)).setCell ⟨P 5, 12, none⟩ (.int .i64 0)).setCell ⟨P 5, 13, none⟩ (.int .i64 0)).setCell ⟨P 5, 14, none⟩ (.int .i64 (-1))) = v6 at hz hfn ⊢
      have HZ6 := Lib.hid hz
      have HB6 := Lib.hid (below_fnd HB5.out hfn (HF13.out 5 (by decide)).2.2.1)
      clear hz hfn r3 z0 f0 z1 f1 z2 f2 z3 f3 z4 f4
      have r4 : v6.cell? ⟨L, 34, none⟩ = some (.slice (some ⟨Q 6, 0, none⟩) 16 (CC 6)) := (HZ6.out.own 6 (by decide)).row 4 _ rfl
      obtain ⟨y0, z0⟩ : ∃ y, v6.cell? ⟨Q 6, 26, none⟩ = some y := ⟨_, (HZ6.out.own 6 (by decide)).th 2 (by decide) 0 _ rfl⟩
      have f0 := (HZ6.out.own 6 (by decide)).Qf 26
      obtain ⟨y1, z1⟩ : ∃ y, v6.cell? ⟨Q 6, 27, none⟩ = some y := ⟨_, (HZ6.out.own 6 (by decide)).th 2 (by decide) 1 _ rfl⟩
      have f1 := (HZ6.out.own 6 (by decide)).Qf 27
      obtain ⟨y2, z2⟩ : ∃ y, v6.cell? ⟨Q 6, 28, none⟩ = some y := ⟨_, (HZ6.out.own 6 (by decide)).th 2 (by decide) 2 _ rfl⟩
      have f2 := (HZ6.out.own 6 (by decide)).Qf 28
      obtain ⟨y3, z3⟩ : ∃ y, v6.cell? ⟨Q 6, 29, none⟩ = some y := ⟨_, (HZ6.out.own 6 (by decide)).th 2 (by decide) 3 _ rfl⟩
      have f3 := (HZ6.out.own 6 (by decide)).Qf 29
      obtain ⟨y4, z4⟩ : ∃ y, v6.cell? ⟨Q 6, 30, none⟩ = some y := ⟨_, (HZ6.out.own 6 (by decide)).th 2 (by decide) 4 _ rfl⟩
      have f4 := (HZ6.out.own 6 (by decide)).Qf 30
      obtain ⟨y5, z5⟩ : ∃ y, v6.cell? ⟨Q 6, 31, none⟩ = some y := ⟨_, (HZ6.out.own 6 (by decide)).th 2 (by decide) 5 _ rfl⟩
      have f5 := (HZ6.out.own 6 (by decide)).Qf 31
      obtain ⟨y6, z6⟩ : ∃ y, v6.cell? ⟨Q 6, 32, none⟩ = some y := ⟨_, (HZ6.out.own 6 (by decide)).th 2 (by decide) 6 _ rfl⟩
      have f6 := (HZ6.out.own 6 (by decide)).Qf 32
      obtain ⟨y7, z7⟩ : ∃ y, v6.cell? ⟨Q 6, 33, none⟩ = some y := ⟨_, (HZ6.out.own 6 (by decide)).th 2 (by decide) 7 _ rfl⟩
      have f7 := (HZ6.out.own 6 (by decide)).Qf 33
      obtain ⟨y8, z8⟩ : ∃ y, v6.cell? ⟨Q 6, 34, none⟩ = some y := ⟨_, (HZ6.out.own 6 (by decide)).th 2 (by decide) 8 _ rfl⟩
      have f8 := (HZ6.out.own 6 (by decide)).Qf 34
      obtain ⟨y9, z9⟩ : ∃ y, v6.cell? ⟨Q 6, 35, none⟩ = some y := ⟨_, (HZ6.out.own 6 (by decide)).th 2 (by decide) 9 _ rfl⟩
      have f9 := (HZ6.out.own 6 (by decide)).Qf 35
      obtain ⟨y10, z10⟩ : ∃ y, v6.cell? ⟨Q 6, 36, none⟩ = some y := ⟨_, (HZ6.out.own 6 (by decide)).th 2 (by decide) 10 _ rfl⟩
      have f10 := (HZ6.out.own 6 (by decide)).Qf 36
      obtain ⟨y11, z11⟩ : ∃ y, v6.cell? ⟨Q 6, 37, none⟩ = some y := ⟨_, (HZ6.out.own 6 (by decide)).th 2 (by decide) 11 _ rfl⟩
      have f11 := (HZ6.out.own 6 (by decide)).Qf 37
      obtain ⟨y12, z12⟩ : ∃ y, v6.cell? ⟨Q 6, 38, none⟩ = some y := ⟨_, (HZ6.out.own 6 (by decide)).th 2 (by decide) 12 _ rfl⟩
      have f12 := (HZ6.out.own 6 (by decide)).Qf 38
      go_upto_region 21 with fail
      have hz : Rwz (((((((((((((v6.setCell ⟨Q 6, 26, none⟩ (.int .i64 2)).setCell ⟨Q 6, 27, none⟩ (.int .i64 2)).setCell ⟨Q 6, 28, none⟩ (.int .i64 0)).setCell ⟨Q 6, 29, none⟩ (.int .i64 0)).setCell ⟨Q 6, 30, none⟩ (.int .i64 0)).setCell ⟨Q 6, 31, none⟩ (.int .i64 0)).setCell ⟨Q 6, 32, none⟩ (.int .i64 0)).setCell ⟨Q 6, 33, none⟩ (.bool false)).setCell ⟨Q 6, 34, none⟩ (.int .u64 0)).setCell ⟨Q 6, 35, none⟩ (.int .u64 0)).setCell ⟨Q 6, 36, none⟩ (.int .u64 0)).setCell ⟨Q 6, 37, none⟩ (.int .u64 0)).setCell ⟨Q 6, 38, none⟩ (.int .u64 0)) L 13 knF7 P Q knM0 CA CC := HZ6.out.putT (k := 6) (i := 2) (by decide) (by decide) ⟨2, 2, 0, 0, 0, 0, 0, false, 0, 0, 0, 0, 0⟩ (fun j _ => rfl)
      have hfn : Fnd v6 (((((((((((((v6.setCell ⟨Q 6, 26, none⟩ (.int .i64 2)).setCell ⟨Q 6, 27, none⟩ (.int .i64 2)).setCell ⟨Q 6, 28, none⟩ (.int .i64 0)).setCell ⟨Q 6, 29, none⟩ (.int .i64 0)).setCell ⟨Q 6, 30, none⟩ (.int .i64 0)).setCell ⟨Q 6, 31, none⟩ (.int .i64 0)).setCell ⟨Q 6, 32, none⟩ (.int .i64 0)).setCell ⟨Q 6, 33, none⟩ (.bool false)).setCell ⟨Q 6, 34, none⟩ (.int .u64 0)).setCell ⟨Q 6, 35, none⟩ (.int .u64 0)).setCell ⟨Q 6, 36, none⟩ (.int .u64 0)).setCell ⟨Q 6, 37, none⟩ (.int .u64 0)).setCell ⟨Q 6, 38, none⟩ (.int .u64 0)) (Q 6) := Fnd.setCells _ [.int .i64 2, .int .i64 2, .int .i64 0, .int .i64 0, .int .i64 0, .int .i64 0, .int .i64 0, .bool false, .int .u64 0, .int .u64 0, .int .u64 0, .int .u64 0, .int .u64 0] 26 _
      generalize (((((((((((((v6.setCell ⟨Q 6, 26, none⟩ (.int .i64 2)).setCell ⟨Q 6, 27, none⟩ (.int .i64 2)).setCell ⟨Q 6, 28, none⟩ (.int .i64 0)).setCell ⟨Q 6, 29, none⟩ (.int .i64 0)).setCell ⟨Q 6, 30, none⟩ (.int .i64 0)).setCell ⟨Q 6, 31, none⟩ (.int .i64 0)).setCell ⟨Q 6, 32, none⟩ (.int .i64 0)).setCell ⟨Q 6, 33, none⟩ (.bool false)).setCell ⟨Q 6, 34, none⟩ (.int .u64 0)).setCell ⟨Q 6, 35, none⟩ (.int .u64 0)).setCell ⟨Q 6, 36, none⟩ (.int .u64 0)).setCell ⟨Q 6, 37, none⟩ (.int .u64 0)).setCell ⟨Q 6, 38, none⟩ (.int .u64 0)) = v7 at hz hfn ⊢
      have HZ7 := Lib.hid hz
      have HB7 := Lib.hid (below_fnd HB6.out hfn (HF13.out 6 (by decide)).2.2.2)
      clear hz hfn r4 z0 f0 z1 f1 z2 f2 z3 f3 z4 f4 z5 f5 z6 f6 z7 f7 z8 f8 z9 f9 z10 f10 z11 f11 z12 f12
      have r4 : v7.cell? ⟨L, 39, none⟩ = some (.slice (some ⟨Q 7, 0, none⟩) 16 (CC 7)) := (HZ7.out.own 7 (by decide)).row 4 _ rfl
      obtain ⟨y0, z0⟩ : ∃ y, v7.cell? ⟨Q 7, 91, none⟩ = some y := ⟨_, (HZ7.out.own 7 (by decide)).th 7 (by decide) 0 _ rfl⟩
      have f0 := (HZ7.out.own 7 (by decide)).Qf 91
      obtain ⟨y1, z1⟩ : ∃ y, v7.cell? ⟨Q 7, 92, none⟩ = some y := ⟨_, (HZ7.out.own 7 (by decide)).th 7 (by decide) 1 _ rfl⟩
      have f1 := (HZ7.out.own 7 (by decide)).Qf 92
      obtain ⟨y2, z2⟩ : ∃ y, v7.cell? ⟨Q 7, 93, none⟩ = some y := ⟨_, (HZ7.out.own 7 (by decide)).th 7 (by decide) 2 _ rfl⟩
      have f2 := (HZ7.out.own 7 (by decide)).Qf 93
      obtain ⟨y3, z3⟩ : ∃ y, v7.cell? ⟨Q 7, 94, none⟩ = some y := ⟨_, (HZ7.out.own 7 (by decide)).th 7 (by decide) 3 _ rfl⟩
      have f3 := (HZ7.out.own 7 (by decide)).Qf 94
      obtain ⟨y4, z4⟩ : ∃ y, v7.cell? ⟨Q 7, 95, none⟩ = some y := ⟨_, (HZ7.out.own 7 (by decide)).th 7 (by decide) 4 _ rfl⟩
      have f4 := (HZ7.out.own 7 (by decide)).Qf 95
      obtain ⟨y5, z5⟩ : ∃ y, v7.cell? ⟨Q 7, 96, none⟩ = some y := ⟨_, (HZ7.out.own 7 (by decide)).th 7 (by decide) 5 _ rfl⟩
      have f5 := (HZ7.out.own 7 (by decide)).Qf 96
      obtain ⟨y6, z6⟩ : ∃ y, v7.cell? ⟨Q 7, 97, none⟩ = some y := ⟨_, (HZ7.out.own 7 (by decide)).th 7 (by decide) 6 _ rfl⟩
      have f6 := (HZ7.out.own 7 (by decide)).Qf 97
      obtain ⟨y7, z7⟩ : ∃ y, v7.cell? ⟨Q 7, 98, none⟩ = some y := ⟨_, (HZ7.out.own 7 (by decide)).th 7 (by decide) 7 _ rfl⟩
      have f7 := (HZ7.out.own 7 (by decide)).Qf 98
      obtain ⟨y8, z8⟩ : ∃ y, v7.cell? ⟨Q 7, 99, none⟩ = some y := ⟨_, (HZ7.out.own 7 (by decide)).th 7 (by decide) 8 _ rfl⟩
      have f8 := (HZ7.out.own 7 (by decide)).Qf 99
      obtain ⟨y9, z9⟩ : ∃ y, v7.cell? ⟨Q 7, 100, none⟩ = some y := ⟨_, (HZ7.out.own 7 (by decide)).th 7 (by decide) 9 _ rfl⟩
      have f9 := (HZ7.out.own 7 (by decide)).Qf 100
      obtain ⟨y10, z10⟩ : ∃ y, v7.cell? ⟨Q 7, 101, none⟩ = some y := ⟨_, (HZ7.out.own 7 (by decide)).th 7 (by decide) 10 _ rfl⟩
      have f10 := (HZ7.out.own 7 (by decide)).Qf 101
      obtain ⟨y11, z11⟩ : ∃ y, v7.cell? ⟨Q 7, 102, none⟩ = some y := ⟨_, (HZ7.out.own 7 (by decide)).th 7 (by decide) 11 _ rfl⟩
      have f11 := (HZ7.out.own 7 (by decide)).Qf 102
      obtain ⟨y12, z12⟩ : ∃ y, v7.cell? ⟨Q 7, 103, none⟩ = some y := ⟨_, (HZ7.out.own 7 (by decide)).th 7 (by decide) 12 _ rfl⟩
      have f12 := (HZ7.out.own 7 (by decide)).Qf 103
      go_upto_region 22 with fail
      have hz : Rwz (((((((((((((v7.setCell ⟨Q 7, 91, none⟩ (.int .i64 2)).setCell ⟨Q 7, 92, none⟩ (.int .i64 1)).setCell ⟨Q 7, 93, none⟩ (.int .i64 7)).setCell ⟨Q 7, 94, none⟩ (.int .i64 0)).setCell ⟨Q 7, 95, none⟩ (.int .i64 0)).setCell ⟨Q 7, 96, none⟩ (.int .i64 0)).setCell ⟨Q 7, 97, none⟩ (.int .i64 0)).setCell ⟨Q 7, 98, none⟩ (.bool false)).setCell ⟨Q 7, 99, none⟩ (.int .u64 0)).setCell ⟨Q 7, 100, none⟩ (.int .u64 0)).setCell ⟨Q 7, 101, none⟩ (.int .u64 0)).setCell ⟨Q 7, 102, none⟩ (.int .u64 0)).setCell ⟨Q 7, 103, none⟩ (.int .u64 0)) L 13 knF8 P Q knM0 CA CC := HZ7.out.putT (k := 7) (i := 7) (by decide) (by decide) ⟨2, 1, 7, 0, 0, 0, 0, false, 0, 0, 0, 0, 0⟩ (fun j _ => rfl)
      have hfn : Fnd v7 (((((((((((((v7.setCell ⟨Q 7, 91, none⟩ (.int .i64 2)).setCell ⟨Q 7, 92, none⟩ (.int .i64 1)).setCell ⟨Q 7, 93, none⟩ (.int .i64 7)).setCell ⟨Q 7, 94, none⟩ (.int .i64 0)).setCell ⟨Q 7, 95, none⟩ (.int .i64 0)).setCell ⟨Q 7, 96, none⟩ (.int .i64 0)).setCell ⟨Q 7, 97, none⟩ (.int .i64 0)).setCell ⟨Q 7, 98, none⟩ (.bool false)).setCell ⟨Q 7, 99, none⟩ (.int .u64 0)).setCell ⟨Q 7, 100, none⟩ (.int .u64 0)).setCell ⟨Q 7, 101, none⟩ (.int .u64 0)).setCell ⟨Q 7, 102, none⟩ (.int .u64 0)).setCell ⟨Q 7, 103, none⟩ (.int .u64 0)) (Q 7) := Fnd.setCells _ [.int .i64 2, .int .i64 1, .int .i64 7, .int .i64 0, .int .i64 0, .int .i64 0, .int .i64 0, .bool false, .int .u64 0, .int .u64 0, .int .u64 0, .int .u64 0, .int .u64 0] 91 _
      generalize (((((((((((((v7.setCell ⟨Q 7, 91, none⟩ (.int .i64 2)).setCell ⟨Q 7, 92, none⟩ (.int .i64 1)).setCell ⟨Q 7, 93, none⟩ (.int .i64 7)).setCell ⟨Q 7, 94, none⟩ (.int .i64 0)).setCell ⟨Q 7, 95, none⟩ (.int .i64 0)).setCell ⟨Q 7, 96, none⟩ (.int .i64 0)).setCell ⟨Q 7, 97, none⟩ (.int .i64 0)).setCell ⟨Q 7, 98, none⟩ (.bool false)).setCell ⟨Q 7, 99, none⟩ (.int .u64 0)).setCell ⟨Q 7, 100, none⟩ (.int .u64 0)).setCell ⟨Q 7, 101, none⟩ (.int .u64 0)).setCell ⟨Q 7, 102, none⟩ (.int .u64 0)).setCell ⟨Q 7, 103, none⟩ (.int .u64 0)) = v8 at hz hfn ⊢
      have HZ8 := Lib.hid hz
      have HB8 := Lib.hid (below_fnd HB7.out hfn (HF13.out 7 (by decide)).2.2.2)
      clear hz hfn r4 z0 f0 z1 f1 z2 f2 z3 f3 z4 f4 z5 f5 z6 f6 z7 f7 z8 f8 z9 f9 z10 f10 z11 f11 z12 f12
      have r3 : v8.cell? ⟨L, 38, none⟩ = some (.slice (some ⟨P 7, 0, none⟩) 32 (CA 7)) := (HZ8.out.own 7 (by decide)).row 3 _ rfl
      obtain ⟨y0, z0⟩ : ∃ y, v8.cell? ⟨P 7, 10, none⟩ = some y := ⟨_, (HZ8.out.own 7 (by decide)).sl 2 (by decide) 0 _ rfl⟩
      have f0 := (HZ8.out.own 7 (by decide)).Pf 10
      obtain ⟨y1, z1⟩ : ∃ y, v8.cell? ⟨P 7, 11, none⟩ = some y := ⟨_, (HZ8.out.own 7 (by decide)).sl 2 (by decide) 1 _ rfl⟩
      have f1 := (HZ8.out.own 7 (by decide)).Pf 11
      obtain ⟨y2, z2⟩ : ∃ y, v8.cell? ⟨P 7, 12, none⟩ = some y := ⟨_, (HZ8.out.own 7 (by decide)).sl 2 (by decide) 2 _ rfl⟩
      have f2 := (HZ8.out.own 7 (by decide)).Pf 12
      obtain ⟨y3, z3⟩ : ∃ y, v8.cell? ⟨P 7, 13, none⟩ = some y := ⟨_, (HZ8.out.own 7 (by decide)).sl 2 (by decide) 3 _ rfl⟩
      have f3 := (HZ8.out.own 7 (by decide)).Pf 13
      obtain ⟨y4, z4⟩ : ∃ y, v8.cell? ⟨P 7, 14, none⟩ = some y := ⟨_, (HZ8.out.own 7 (by decide)).sl 2 (by decide) 4 _ rfl⟩
      have f4 := (HZ8.out.own 7 (by decide)).Pf 14
      go_upto_region 23 with fail
      have hz : Rwz (((((v8.setCell ⟨P 7, 10, none⟩ (.int .i64 2)).setCell ⟨P 7, 11, none⟩ (.int .i64 7)).setCell ⟨P 7, 12, none⟩ (.int .i64 0)).setCell ⟨P 7, 13, none⟩ (.int .i64 0)).setCell ⟨P 7, 14, none⟩ (.int .i64 (-1))) L 13 knF9 P Q knM0 CA CC := HZ8.out.putG (k := 7) (i := 2) (by decide) (by decide) ⟨⟨2, 7, 0, 0⟩, -1⟩ (fun j _ => rfl)
      have hfn : Fnd v8 (((((v8.setCell ⟨P 7, 10, none⟩ (.int .i64 2)).setCell ⟨P 7, 11, none⟩ (.int .i64 7)).setCell ⟨P 7, 12, none⟩ (.int .i64 0)).setCell ⟨P 7, 13, none⟩ (.int .i64 0)).setCell ⟨P 7, 14, none⟩ (.int .i64 (-1))) (P 7) := Fnd.setCells _ [.int .i64 2, .int .i64 7, .int .i64 0, .int .i64 0, .int .i64 (-1)] 10 _
      generalize (((((v8.setCell ⟨P 7, 10, none⟩ (.int .i64 2)).setCell ⟨P 7, 11, none⟩ (.int .i64 7)).setCell ⟨P 7, 12, none⟩ (.int .i64 0)).setCell ⟨P 7, 13, none⟩ (.int .i64 0)).setCell ⟨P 7, 14, none⟩ (.int .i64 (-1))) = v9 at hz hfn ⊢
      have HZ9 := Lib.hid hz
      have HB9 := Lib.hid (below_fnd HB8.out hfn (HF13.out 7 (by decide)).2.2.1)
      clear hz hfn r3 z0 f0 z1 f1 z2 f2 z3 f3 z4 f4
      have r4 : v9.cell? ⟨L, 44, none⟩ = some (.slice (some ⟨Q 8, 0, none⟩) 16 (CC 8)) := (HZ9.out.own 8 (by decide)).row 4 _ rfl
      obtain ⟨y0, z0⟩ : ∃ y, v9.cell? ⟨Q 8, 13, none⟩ = some y := ⟨_, (HZ9.out.own 8 (by decide)).th 1 (by decide) 0 _ rfl⟩
      have f0 := (HZ9.out.own 8 (by decide)).Qf 13
      obtain ⟨y1, z1⟩ : ∃ y, v9.cell? ⟨Q 8, 14, none⟩ = some y := ⟨_, (HZ9.out.own 8 (by decide)).th 1 (by decide) 1 _ rfl⟩
      have f1 := (HZ9.out.own 8 (by decide)).Qf 14
      obtain ⟨y2, z2⟩ : ∃ y, v9.cell? ⟨Q 8, 15, none⟩ = some y := ⟨_, (HZ9.out.own 8 (by decide)).th 1 (by decide) 2 _ rfl⟩
      have f2 := (HZ9.out.own 8 (by decide)).Qf 15
      obtain ⟨y3, z3⟩ : ∃ y, v9.cell? ⟨Q 8, 16, none⟩ = some y := ⟨_, (HZ9.out.own 8 (by decide)).th 1 (by decide) 3 _ rfl⟩
      have f3 := (HZ9.out.own 8 (by decide)).Qf 16
      obtain ⟨y4, z4⟩ : ∃ y, v9.cell? ⟨Q 8, 17, none⟩ = some y := ⟨_, (HZ9.out.own 8 (by decide)).th 1 (by decide) 4 _ rfl⟩
      have f4 := (HZ9.out.own 8 (by decide)).Qf 17
      obtain ⟨y5, z5⟩ : ∃ y, v9.cell? ⟨Q 8, 18, none⟩ = some y := ⟨_, (HZ9.out.own 8 (by decide)).th 1 (by decide) 5 _ rfl⟩
      have f5 := (HZ9.out.own 8 (by decide)).Qf 18
      obtain ⟨y6, z6⟩ : ∃ y, v9.cell? ⟨Q 8, 19, none⟩ = some y := ⟨_, (HZ9.out.own 8 (by decide)).th 1 (by decide) 6 _ rfl⟩
      have f6 := (HZ9.out.own 8 (by decide)).Qf 19
      obtain ⟨y7, z7⟩ : ∃ y, v9.cell? ⟨Q 8, 20, none⟩ = some y := ⟨_, (HZ9.out.own 8 (by decide)).th 1 (by decide) 7 _ rfl⟩
      have f7 := (HZ9.out.own 8 (by decide)).Qf 20
      obtain ⟨y8, z8⟩ : ∃ y, v9.cell? ⟨Q 8, 21, none⟩ = some y := ⟨_, (HZ9.out.own 8 (by decide)).th 1 (by decide) 8 _ rfl⟩
      have f8 := (HZ9.out.own 8 (by decide)).Qf 21
      obtain ⟨y9, z9⟩ : ∃ y, v9.cell? ⟨Q 8, 22, none⟩ = some y := ⟨_, (HZ9.out.own 8 (by decide)).th 1 (by decide) 9 _ rfl⟩
      have f9 := (HZ9.out.own 8 (by decide)).Qf 22
      obtain ⟨y10, z10⟩ : ∃ y, v9.cell? ⟨Q 8, 23, none⟩ = some y := ⟨_, (HZ9.out.own 8 (by decide)).th 1 (by decide) 10 _ rfl⟩
      have f10 := (HZ9.out.own 8 (by decide)).Qf 23
      obtain ⟨y11, z11⟩ : ∃ y, v9.cell? ⟨Q 8, 24, none⟩ = some y := ⟨_, (HZ9.out.own 8 (by decide)).th 1 (by decide) 11 _ rfl⟩
      have f11 := (HZ9.out.own 8 (by decide)).Qf 24
      obtain ⟨y12, z12⟩ : ∃ y, v9.cell? ⟨Q 8, 25, none⟩ = some y := ⟨_, (HZ9.out.own 8 (by decide)).th 1 (by decide) 12 _ rfl⟩
      have f12 := (HZ9.out.own 8 (by decide)).Qf 25
      go_upto_region 24 with fail
      have hz : Rwz (((((((((((((v9.setCell ⟨Q 8, 13, none⟩ (.int .i64 3)).setCell ⟨Q 8, 14, none⟩ (.int .i64 0)).setCell ⟨Q 8, 15, none⟩ (.int .i64 0)).setCell ⟨Q 8, 16, none⟩ (.int .i64 0)).setCell ⟨Q 8, 17, none⟩ (.int .i64 0)).setCell ⟨Q 8, 18, none⟩ (.int .i64 4)).setCell ⟨Q 8, 19, none⟩ (.int .i64 0)).setCell ⟨Q 8, 20, none⟩ (.bool true)).setCell ⟨Q 8, 21, none⟩ (.int .u64 0)).setCell ⟨Q 8, 22, none⟩ (.int .u64 0)).setCell ⟨Q 8, 23, none⟩ (.int .u64 0)).setCell ⟨Q 8, 24, none⟩ (.int .u64 0)).setCell ⟨Q 8, 25, none⟩ (.int .u64 0)) L 13 knF10 P Q knM0 CA CC := HZ9.out.putT (k := 8) (i := 1) (by decide) (by decide) ⟨3, 0, 0, 0, 0, 4, 0, true, 0, 0, 0, 0, 0⟩ (fun j _ => rfl)
      have hfn : Fnd v9 (((((((((((((v9.setCell ⟨Q 8, 13, none⟩ (.int .i64 3)).setCell ⟨Q 8, 14, none⟩ (.int .i64 0)).setCell ⟨Q 8, 15, none⟩ (.int .i64 0)).setCell ⟨Q 8, 16, none⟩ (.int .i64 0)).setCell ⟨Q 8, 17, none⟩ (.int .i64 0)).setCell ⟨Q 8, 18, none⟩ (.int .i64 4)).setCell ⟨Q 8, 19, none⟩ (.int .i64 0)).setCell ⟨Q 8, 20, none⟩ (.bool true)).setCell ⟨Q 8, 21, none⟩ (.int .u64 0)).setCell ⟨Q 8, 22, none⟩ (.int .u64 0)).setCell ⟨Q 8, 23, none⟩ (.int .u64 0)).setCell ⟨Q 8, 24, none⟩ (.int .u64 0)).setCell ⟨Q 8, 25, none⟩ (.int .u64 0)) (Q 8) := Fnd.setCells _ [.int .i64 3, .int .i64 0, .int .i64 0, .int .i64 0, .int .i64 0, .int .i64 4, .int .i64 0, .bool true, .int .u64 0, .int .u64 0, .int .u64 0, .int .u64 0, .int .u64 0] 13 _
      generalize (((((((((((((v9.setCell ⟨Q 8, 13, none⟩ (.int .i64 3)).setCell ⟨Q 8, 14, none⟩ (.int .i64 0)).setCell ⟨Q 8, 15, none⟩ (.int .i64 0)).setCell ⟨Q 8, 16, none⟩ (.int .i64 0)).setCell ⟨Q 8, 17, none⟩ (.int .i64 0)).setCell ⟨Q 8, 18, none⟩ (.int .i64 4)).setCell ⟨Q 8, 19, none⟩ (.int .i64 0)).setCell ⟨Q 8, 20, none⟩ (.bool true)).setCell ⟨Q 8, 21, none⟩ (.int .u64 0)).setCell ⟨Q 8, 22, none⟩ (.int .u64 0)).setCell ⟨Q 8, 23, none⟩ (.int .u64 0)).setCell ⟨Q 8, 24, none⟩ (.int .u64 0)).setCell ⟨Q 8, 25, none⟩ (.int .u64 0)) = v10 at hz hfn ⊢
      have HZ10 := Lib.hid hz
      have HB10 := Lib.hid (below_fnd HB9.out hfn (HF13.out 8 (by decide)).2.2.2)
      clear hz hfn r4 z0 f0 z1 f1 z2 f2 z3 f3 z4 f4 z5 f5 z6 f6 z7 f7 z8 f8 z9 f9 z10 f10 z11 f11 z12 f12
      have r3 : v10.cell? ⟨L, 48, none⟩ = some (.slice (some ⟨P 9, 0, none⟩) 32 (CA 9)) := (HZ10.out.own 9 (by decide)).row 3 _ rfl
      obtain ⟨y2, z2⟩ : ∃ y, v10.cell? ⟨P 9, 47, none⟩ = some y := ⟨_, (HZ10.out.own 9 (by decide)).sl 9 (by decide) 2 _ rfl⟩
      have f2 := (HZ10.out.own 9 (by decide)).Pf 47
      go_upto_region 25 with fail
      have hz : Rwz (v10.setCell ⟨P 9, 47, none⟩ (.int .i64 7)) L 13 knF11 P Q knM0 CA CC := HZ10.out.putG1 (k := 9) (i := 9) (by decide) (by decide) 2 (by decide) (.int .i64 7) ⟨⟨3, 1, 7, 0⟩, 1⟩ knS10 (fun j _ => rfl)
      have hfn : Fnd v10 (v10.setCell ⟨P 9, 47, none⟩ (.int .i64 7)) (P 9) := Fnd.mark _ _ _ _
      generalize (v10.setCell ⟨P 9, 47, none⟩ (.int .i64 7)) = v11 at hz hfn ⊢
      have HZ11 := Lib.hid hz
      have HB11 := Lib.hid (below_fnd HB10.out hfn (HF13.out 9 (by decide)).2.2.1)
      clear hz hfn r3 z2 f2
      have r3 : v11.cell? ⟨L, 48, none⟩ = some (.slice (some ⟨P 9, 0, none⟩) 32 (CA 9)) := (HZ11.out.own 9 (by decide)).row 3 _ rfl
      obtain ⟨y2, z2⟩ : ∃ y, v11.cell? ⟨P 9, 7, none⟩ = some y := ⟨_, (HZ11.out.own 9 (by decide)).sl 1 (by decide) 2 _ rfl⟩
      have f2 := (HZ11.out.own 9 (by decide)).Pf 7
      go_upto_region 26 with fail
      have hz : Rwz (v11.setCell ⟨P 9, 7, none⟩ (.int .i64 3)) L 13 knF12 P Q knM0 CA CC := HZ11.out.putG1 (k := 9) (i := 1) (by decide) (by decide) 2 (by decide) (.int .i64 3) ⟨⟨3, 1, 3, 0⟩, -1⟩ knS11 (fun j _ => rfl)
      have hfn : Fnd v11 (v11.setCell ⟨P 9, 7, none⟩ (.int .i64 3)) (P 9) := Fnd.mark _ _ _ _
      generalize (v11.setCell ⟨P 9, 7, none⟩ (.int .i64 3)) = v12 at hz hfn ⊢
      have HZ12 := Lib.hid hz
      have HB12 := Lib.hid (below_fnd HB11.out hfn (HF13.out 9 (by decide)).2.2.1)
      clear hz hfn r3 z2 f2
      have r4 : v12.cell? ⟨L, 54, none⟩ = some (.slice (some ⟨Q 10, 0, none⟩) 16 (CC 10)) := (HZ12.out.own 10 (by decide)).row 4 _ rfl
      have f4 : v12.frozen? ⟨L, 54, none⟩ = false := by have h := (HZ12.out.all 54 (by decide)).2; rwa [Nat.zero_add] at h
      have hcc0 : 16 ≤ CC 10 := (HZ12.out.own 10 (by decide)).hcc
      have hcc : (15 : Int) ≤ (CC 10 : Int) := by omega
      have hcc2 : 15 ≤ CC 10 := by omega
      go_upto_region 27 with fail
      have hz : Rwz (v12.setCell ⟨L, 54, none⟩ (.slice (some ⟨Q 10, 0, none⟩) 15 (CC 10))) L 13 knF13 P Q knM1 CA CC := HZ12.out.cut (k := 10) (n := 15) (by decide) (by decide) (fun j _ => rfl) (fun j _ => rfl)
      have hfn : Fnd v12 (v12.setCell ⟨L, 54, none⟩ (.slice (some ⟨Q 10, 0, none⟩) 15 (CC 10))) (L) := Fnd.mark _ _ _ _
      generalize (v12.setCell ⟨L, 54, none⟩ (.slice (some ⟨Q 10, 0, none⟩) 15 (CC 10))) = v13 at hz hfn ⊢
      have HZ13 := Lib.hid hz
      have HB13 := Lib.hid (below_fnd HB12.out hfn HL.out)
      clear hz hfn r4 f4 hcc0 hcc hcc2
      have r3 : v13.cell? ⟨L, 58, none⟩ = some (.slice (some ⟨P 11, 0, none⟩) 32 (CA 11)) := (HZ13.out.own 11 (by decide)).row 3 _ rfl
      obtain ⟨y1, z1⟩ : ∃ y, v13.cell? ⟨P 11, 1, none⟩ = some y := ⟨_, (HZ13.out.own 11 (by decide)).sl 0 (by decide) 1 _ rfl⟩
      have f1 := (HZ13.out.own 11 (by decide)).Pf 1
      go_upto_region 28 with fail
      have hz : Rwz (v13.setCell ⟨P 11, 1, none⟩ (.int .i64 6)) L 13 knF14 P Q knM1 CA CC := HZ13.out.putG1 (k := 11) (i := 0) (by decide) (by decide) 1 (by decide) (.int .i64 6) ⟨⟨1, 6, 7, 0⟩, -1⟩ knS13 (fun j _ => rfl)
      have hfn : Fnd v13 (v13.setCell ⟨P 11, 1, none⟩ (.int .i64 6)) (P 11) := Fnd.mark _ _ _ _
      generalize (v13.setCell ⟨P 11, 1, none⟩ (.int .i64 6)) = v14 at hz hfn ⊢
      have HZ14 := Lib.hid hz
      have HB14 := Lib.hid (below_fnd HB13.out hfn (HF13.out 11 (by decide)).2.2.1)
      clear hz hfn r3 z1 f1
      have r4 : v14.cell? ⟨L, 64, none⟩ = some (.slice (some ⟨Q 12, 0, none⟩) 16 (CC 12)) := (HZ14.out.own 12 (by decide)).row 4 _ rfl
      obtain ⟨y0, z0⟩ : ∃ y, v14.cell? ⟨Q 12, 91, none⟩ = some y := ⟨_, (HZ14.out.own 12 (by decide)).th 7 (by decide) 0 _ rfl⟩
      have f0 := (HZ14.out.own 12 (by decide)).Qf 91
      obtain ⟨y1, z1⟩ : ∃ y, v14.cell? ⟨Q 12, 92, none⟩ = some y := ⟨_, (HZ14.out.own 12 (by decide)).th 7 (by decide) 1 _ rfl⟩
      have f1 := (HZ14.out.own 12 (by decide)).Qf 92
      obtain ⟨y2, z2⟩ : ∃ y, v14.cell? ⟨Q 12, 93, none⟩ = some y := ⟨_, (HZ14.out.own 12 (by decide)).th 7 (by decide) 2 _ rfl⟩
      have f2 := (HZ14.out.own 12 (by decide)).Qf 93
      obtain ⟨y3, z3⟩ : ∃ y, v14.cell? ⟨Q 12, 94, none⟩ = some y := ⟨_, (HZ14.out.own 12 (by decide)).th 7 (by decide) 3 _ rfl⟩
      have f3 := (HZ14.out.own 12 (by decide)).Qf 94
      obtain ⟨y4, z4⟩ : ∃ y, v14.cell? ⟨Q 12, 95, none⟩ = some y := ⟨_, (HZ14.out.own 12 (by decide)).th 7 (by decide) 4 _ rfl⟩
      have f4 := (HZ14.out.own 12 (by decide)).Qf 95
      obtain ⟨y5, z5⟩ : ∃ y, v14.cell? ⟨Q 12, 96, none⟩ = some y := ⟨_, (HZ14.out.own 12 (by decide)).th 7 (by decide) 5 _ rfl⟩
      have f5 := (HZ14.out.own 12 (by decide)).Qf 96
      obtain ⟨y6, z6⟩ : ∃ y, v14.cell? ⟨Q 12, 97, none⟩ = some y := ⟨_, (HZ14.out.own 12 (by decide)).th 7 (by decide) 6 _ rfl⟩
      have f6 := (HZ14.out.own 12 (by decide)).Qf 97
      obtain ⟨y7, z7⟩ : ∃ y, v14.cell? ⟨Q 12, 98, none⟩ = some y := ⟨_, (HZ14.out.own 12 (by decide)).th 7 (by decide) 7 _ rfl⟩
      have f7 := (HZ14.out.own 12 (by decide)).Qf 98
      obtain ⟨y8, z8⟩ : ∃ y, v14.cell? ⟨Q 12, 99, none⟩ = some y := ⟨_, (HZ14.out.own 12 (by decide)).th 7 (by decide) 8 _ rfl⟩
      have f8 := (HZ14.out.own 12 (by decide)).Qf 99
      obtain ⟨y9, z9⟩ : ∃ y, v14.cell? ⟨Q 12, 100, none⟩ = some y := ⟨_, (HZ14.out.own 12 (by decide)).th 7 (by decide) 9 _ rfl⟩
      have f9 := (HZ14.out.own 12 (by decide)).Qf 100
      obtain ⟨y10, z10⟩ : ∃ y, v14.cell? ⟨Q 12, 101, none⟩ = some y := ⟨_, (HZ14.out.own 12 (by decide)).th 7 (by decide) 10 _ rfl⟩
      have f10 := (HZ14.out.own 12 (by decide)).Qf 101
      obtain ⟨y11, z11⟩ : ∃ y, v14.cell? ⟨Q 12, 102, none⟩ = some y := ⟨_, (HZ14.out.own 12 (by decide)).th 7 (by decide) 11 _ rfl⟩
      have f11 := (HZ14.out.own 12 (by decide)).Qf 102
      obtain ⟨y12, z12⟩ : ∃ y, v14.cell? ⟨Q 12, 103, none⟩ = some y := ⟨_, (HZ14.out.own 12 (by decide)).th 7 (by decide) 12 _ rfl⟩
      have f12 := (HZ14.out.own 12 (by decide)).Qf 103
      go_upto_region 29 with fail
      have hz : Rwz (((((((((((((v14.setCell ⟨Q 12, 91, none⟩ (.int .i64 2)).setCell ⟨Q 12, 92, none⟩ (.int .i64 1)).setCell ⟨Q 12, 93, none⟩ (.int .i64 16)).setCell ⟨Q 12, 94, none⟩ (.int .i64 0)).setCell ⟨Q 12, 95, none⟩ (.int .i64 0)).setCell ⟨Q 12, 96, none⟩ (.int .i64 0)).setCell ⟨Q 12, 97, none⟩ (.int .i64 0)).setCell ⟨Q 12, 98, none⟩ (.bool false)).setCell ⟨Q 12, 99, none⟩ (.int .u64 0)).setCell ⟨Q 12, 100, none⟩ (.int .u64 0)).setCell ⟨Q 12, 101, none⟩ (.int .u64 0)).setCell ⟨Q 12, 102, none⟩ (.int .u64 0)).setCell ⟨Q 12, 103, none⟩ (.int .u64 0)) L 13 knF15 P Q knM1 CA CC := HZ14.out.putT (k := 12) (i := 7) (by decide) (by decide) ⟨2, 1, 16, 0, 0, 0, 0, false, 0, 0, 0, 0, 0⟩ (fun j _ => rfl)
      have hfn : Fnd v14 (((((((((((((v14.setCell ⟨Q 12, 91, none⟩ (.int .i64 2)).setCell ⟨Q 12, 92, none⟩ (.int .i64 1)).setCell ⟨Q 12, 93, none⟩ (.int .i64 16)).setCell ⟨Q 12, 94, none⟩ (.int .i64 0)).setCell ⟨Q 12, 95, none⟩ (.int .i64 0)).setCell ⟨Q 12, 96, none⟩ (.int .i64 0)).setCell ⟨Q 12, 97, none⟩ (.int .i64 0)).setCell ⟨Q 12, 98, none⟩ (.bool false)).setCell ⟨Q 12, 99, none⟩ (.int .u64 0)).setCell ⟨Q 12, 100, none⟩ (.int .u64 0)).setCell ⟨Q 12, 101, none⟩ (.int .u64 0)).setCell ⟨Q 12, 102, none⟩ (.int .u64 0)).setCell ⟨Q 12, 103, none⟩ (.int .u64 0)) (Q 12) := Fnd.setCells _ [.int .i64 2, .int .i64 1, .int .i64 16, .int .i64 0, .int .i64 0, .int .i64 0, .int .i64 0, .bool false, .int .u64 0, .int .u64 0, .int .u64 0, .int .u64 0, .int .u64 0] 91 _
      generalize (((((((((((((v14.setCell ⟨Q 12, 91, none⟩ (.int .i64 2)).setCell ⟨Q 12, 92, none⟩ (.int .i64 1)).setCell ⟨Q 12, 93, none⟩ (.int .i64 16)).setCell ⟨Q 12, 94, none⟩ (.int .i64 0)).setCell ⟨Q 12, 95, none⟩ (.int .i64 0)).setCell ⟨Q 12, 96, none⟩ (.int .i64 0)).setCell ⟨Q 12, 97, none⟩ (.int .i64 0)).setCell ⟨Q 12, 98, none⟩ (.bool false)).setCell ⟨Q 12, 99, none⟩ (.int .u64 0)).setCell ⟨Q 12, 100, none⟩ (.int .u64 0)).setCell ⟨Q 12, 101, none⟩ (.int .u64 0)).setCell ⟨Q 12, 102, none⟩ (.int .u64 0)).setCell ⟨Q 12, 103, none⟩ (.int .u64 0)) = v15 at hz hfn ⊢
      have HZ15 := Lib.hid hz
      have HB15 := Lib.hid (below_fnd HB14.out hfn (HF13.out 12 (by decide)).2.2.2)
      clear hz hfn r4 z0 f0 z1 f1 z2 f2 z3 f3 z4 f4 z5 f5 z6 f6 z7 f7 z8 f8 z9 f9 z10 f10 z11 f11 z12 f12
      have r3 : v15.cell? ⟨L, 63, none⟩ = some (.slice (some ⟨P 12, 0, none⟩) 32 (CA 12)) := (HZ15.out.own 12 (by decide)).row 3 _ rfl
      obtain ⟨y0, z0⟩ : ∃ y, v15.cell? ⟨P 12, 80, none⟩ = some y := ⟨_, (HZ15.out.own 12 (by decide)).sl 16 (by decide) 0 _ rfl⟩
      have f0 := (HZ15.out.own 12 (by decide)).Pf 80
      obtain ⟨y1, z1⟩ : ∃ y, v15.cell? ⟨P 12, 81, none⟩ = some y := ⟨_, (HZ15.out.own 12 (by decide)).sl 16 (by decide) 1 _ rfl⟩
      have f1 := (HZ15.out.own 12 (by decide)).Pf 81
      obtain ⟨y2, z2⟩ : ∃ y, v15.cell? ⟨P 12, 82, none⟩ = some y := ⟨_, (HZ15.out.own 12 (by decide)).sl 16 (by decide) 2 _ rfl⟩
      have f2 := (HZ15.out.own 12 (by decide)).Pf 82
      obtain ⟨y3, z3⟩ : ∃ y, v15.cell? ⟨P 12, 83, none⟩ = some y := ⟨_, (HZ15.out.own 12 (by decide)).sl 16 (by decide) 3 _ rfl⟩
      have f3 := (HZ15.out.own 12 (by decide)).Pf 83
      obtain ⟨y4, z4⟩ : ∃ y, v15.cell? ⟨P 12, 84, none⟩ = some y := ⟨_, (HZ15.out.own 12 (by decide)).sl 16 (by decide) 4 _ rfl⟩
      have f4 := (HZ15.out.own 12 (by decide)).Pf 84
      go_upto_region 30 with fail
      have hz : Rwz (((((v15.setCell ⟨P 12, 80, none⟩ (.int .i64 2)).setCell ⟨P 12, 81, none⟩ (.int .i64 7)).setCell ⟨P 12, 82, none⟩ (.int .i64 0)).setCell ⟨P 12, 83, none⟩ (.int .i64 0)).setCell ⟨P 12, 84, none⟩ (.int .i64 (-1))) L 13 knF16 P Q knM1 CA CC := HZ15.out.putG (k := 12) (i := 16) (by decide) (by decide) ⟨⟨2, 7, 0, 0⟩, -1⟩ (fun j _ => rfl)
      have hfn : Fnd v15 (((((v15.setCell ⟨P 12, 80, none⟩ (.int .i64 2)).setCell ⟨P 12, 81, none⟩ (.int .i64 7)).setCell ⟨P 12, 82, none⟩ (.int .i64 0)).setCell ⟨P 12, 83, none⟩ (.int .i64 0)).setCell ⟨P 12, 84, none⟩ (.int .i64 (-1))) (P 12) := Fnd.setCells _ [.int .i64 2, .int .i64 7, .int .i64 0, .int .i64 0, .int .i64 (-1)] 80 _
      generalize (((((v15.setCell ⟨P 12, 80, none⟩ (.int .i64 2)).setCell ⟨P 12, 81, none⟩ (.int .i64 7)).setCell ⟨P 12, 82, none⟩ (.int .i64 0)).setCell ⟨P 12, 83, none⟩ (.int .i64 0)).setCell ⟨P 12, 84, none⟩ (.int .i64 (-1))) = v16 at hz hfn ⊢
      have HZ16 := Lib.hid hz
      have HB16 := Lib.hid (below_fnd HB15.out hfn (HF13.out 12 (by decide)).2.2.1)
      clear hz hfn r3 z0 f0 z1 f1 z2 f2 z3 f3 z4 f4
      have HNO := Lib.hid knX
      go_wp2_with fail
      go_loopg [10] 13 (fun f p wr2 => Kn2 v16 f p wr2)
      case atStart => exact ⟨0, by omega, rfl, below_self _⟩
      case round =>
        obtain ⟨i2, hk2, rfl, hb2⟩ := hrel
        have HK2 := Lib.hid hk2
        have HB2 := Lib.hid hb2
        clear hk2 hb2
        by_cases hlt2 : i2 < 13
        case pos =>
          have HLT2 := Lib.hid hlt2
          have hltI : (i2 : Int) < 13 := by omega
          have how := (HZ16.out.own i2 hlt2).on HB2.out
          have hno := HNO.out i2 hlt2
          have hM : knM1 i2 ≤ 16 := how.hm16
          generalize knF16 i2 = s2 at how hno
          generalize P i2 = P2 at how
          generalize Q i2 = Q2 at how
          generalize knM1 i2 = M2 at how hM
          generalize CA i2 = A2' at how
          generalize CC i2 = C2' at how
          have HOW := Lib.hid how
          have HNOT := Lib.hid hno
          have HROW : Hid (∀ w', Below wr.heap.size wr w' → w'.cell? ⟨L, i2 * 5, none⟩ = some (.int .i64 2) ∧ w'.cell? ⟨L, i2 * 5 + 1, none⟩ = some (.int .i64 32) ∧ w'.cell? ⟨L, i2 * 5 + 2, none⟩ = some (.int .i64 16) ∧ w'.cell? ⟨L, i2 * 5 + 3, none⟩ = some (.slice (some ⟨P2, 0, none⟩) 32 A2') ∧ w'.cell? ⟨L, i2 * 5 + 4, none⟩ = some (.slice (some ⟨Q2, 0, none⟩) M2 C2')) := Lib.hid fun w' h => by
            have hr := (HOW.out.on h).row
            exact ⟨by simpa using hr 0 _ rfl, hr 1 _ rfl, hr 2 _ rfl, hr 3 _ rfl, hr 4 _ rfl⟩
          clear how hno hM hlt2
          obtain ⟨r0, r1, r2, r3, r4⟩ := HROW.out wr (below_self _)
          go_wp2_with fail
          refine (KC.gap (k := 1) (r := none) HOW.out.stH (by rw [sgap, if_neg (by rw [HNOT.out]; decide)])).mono ?_
          rintro e t1 ⟨rfl, hb⟩
          have HC := Lib.hid hb
          clear hb r0 r1 r2 r3 r4
          obtain ⟨r0, r1, r2, r3, r4⟩ := HROW.out t1 HC.out
          simp only [gv, Option.getD, Option.isSome]
          go_wp2_with fail
          refine (KC.good (HOW.out.on HC.out).stH HNOT.out).mono ?_
          rintro e t2 ⟨rfl, hb⟩
          replace HC := Lib.hid (below_on HC.out hb)
          clear hb r0 r1 r2 r3 r4
          obtain ⟨r0, r1, r2, r3, r4⟩ := HROW.out t2 HC.out
          go_wp2_with fail
          refine (KC.owner (k := 0) (r := -1) (HOW.out.on HC.out).stH (by rw [sowner, if_neg (by rw [HNOT.out]; decide)]; rfl)).mono ?_
          rintro e t3 ⟨rfl, hb⟩
          replace HC := Lib.hid (below_on HC.out hb)
          clear hb r0 r1 r2 r3 r4
          obtain ⟨r0, r1, r2, r3, r4⟩ := HROW.out t3 HC.out
          go_wp2_with fail
          refine (KC.free (r := -1) (HOW.out.on HC.out).stH (by rw [sfree, if_neg (by rw [HNOT.out]; decide)]; rfl)).mono ?_
          rintro e t4 ⟨rfl, hb⟩
          replace HC := Lib.hid (below_on HC.out hb)
          clear hb r0 r1 r2 r3 r4
          obtain ⟨r0, r1, r2, r3, r4⟩ := HROW.out t4 HC.out
          go_wp2_with fail
          refine (KC.hold (k := 1) (L := []) (HOW.out.on HC.out).stH (by rw [shold, if_neg (by rw [HNOT.out]; decide)]; rfl)).mono ?_
          rintro e t5 ⟨HB', hcb, rfl, -, -, hb⟩
          replace HC := Lib.hid (below_on HC.out hb)
          clear hb r0 r1 r2 r3 r4
          simp only [List.length_nil]
          go_wp2
          go_roundg (13 - (i2 + 1))
          case measure => have := HK2.out; have := HLT2.out; omega
          case rel => exact ⟨i2 + 1, by have := HK2.out; have := HLT2.out; omega, by go_num, below_on HB2.out HC.out⟩
        have hltI : ¬ (i2 : Int) < 13 := by omega
        have HBW := Lib.hid (below_on HB16.out HB2.out)
        clear hlt2 HZ16 HB16 HK2 HB2
        go_wp2_with fail
        refine (plain_any wr).mono ?_
        rintro e t1 ⟨rfl, hb⟩
        replace HBW := Lib.hid (below_on HBW.out hb)
        clear hb
        go_wp2_with fail
        refine (KC.new s64_new).mono ?_
        rintro e t2 ⟨A, ca, C, cc, rfl, hca, hcc, hFs, hb⟩
        replace HBW := Lib.hid (below_on HBW.out hb)
        simp only [s64_geo, s64_slots, s64_things] at hca hcc ⊢
        obtain ⟨Ps, rfl, hp1, hp2, hp3⟩ := hFs.sl (by rw [s64_slots]; decide)
        obtain ⟨Qs, rfl, hq1, hq2, hq3⟩ := hFs.th (by rw [s64_things]; decide)
        have hpq : Ps ≠ Qs := fun e => hFs.ne (by rw [s64_slots]; decide) (by rw [s64_things]; decide) (by rw [e])
        have HS0 : Hid (Owz (t2.alloc (.cells #[.int .i64 2, .int .i64 32, .int .i64 16, .slice (some ⟨Ps, 0, none⟩) 32 ca, .slice (some ⟨Qs, 0, none⟩) 16 cc] 28)) t2.heap.size 0 s64 Ps Qs 16 ca cc) := Lib.hid (owz_box hFs.lies s64_geo s64_slots s64_things (by omega) hp2 hq2 hp3 hq3 hpq hca hcc)
        replace HBW := Lib.hid (below_on HBW.out (below_alloc t2 (.cells #[.int .i64 2, .int .i64 32, .int .i64 16, .slice (some ⟨Ps, 0, none⟩) 32 ca, .slice (some ⟨Qs, 0, none⟩) 16 cc] 28)))
        clear hb hFs hca hcc hp1 hp2 hp3 hq1 hq2 hq3 hpq
        obtain ⟨Ls, hLs⟩ : ∃ Ls, Ls = t2.heap.size := ⟨_, rfl⟩
        go_upto_region 37 with fail
        rw [← hLs] at HS0 ⊢
        clear hLs
        generalize t2.alloc _ = t3 at HS0 HBW ⊢
        have r0 := HS0.out.row 0 _ rfl
        have r1 := HS0.out.row 1 _ rfl
        have r2 := HS0.out.row 2 _ rfl
        have r3 := HS0.out.row 3 _ rfl
        have r4 := HS0.out.row 4 _ rfl
        go_wp2_with fail
        refine (KC.clone HS0.out.stH).mono ?_
        rintro e t4 ⟨A, cam, C, ccm, rfl, hca, hcc, hFs, hb⟩
        clear r0 r1 r2 r3 r4
        obtain ⟨Pm, rfl, hp1, hp2, hp3⟩ := hFs.sl (by rw [s64_slots]; decide)
        obtain ⟨Qm, rfl, hq1, hq2, hq3⟩ := hFs.th (by rw [s64_things]; decide)
        have hpq : Pm ≠ Qm := fun e => hFs.ne (by rw [s64_slots]; decide) (by rw [s64_things]; decide) (by rw [e])
        have HM0 : Hid (Owz (t4.alloc (.cells #[.int .i64 2, .int .i64 32, .int .i64 16, .slice (some ⟨Pm, 0, none⟩) 32 cam, .slice (some ⟨Qm, 0, none⟩) 16 ccm] 28)) t4.heap.size 0 s64 Pm Qm 16 cam ccm) := Lib.hid (owz_box hFs.lies s64_geo s64_slots s64_things (by omega) hp2 hq2 hp3 hq3 hpq hca hcc)
        have hl1 := HS0.out.lL
        have hl2 := HS0.out.lP
        have hl3 := HS0.out.lQ
        have HAP : Hid ((Ls ≠ Pm ∧ Ps ≠ Pm ∧ Qs ≠ Pm) ∧ (Ls ≠ Qm ∧ Ps ≠ Qm ∧ Qs ≠ Qm)) := Lib.hid ⟨⟨by omega, by omega, by omega⟩, ⟨by omega, by omega, by omega⟩⟩
        have HPW : Hid (w.heap.size ≤ Pm ∧ w.heap.size ≤ Qm) := Lib.hid ⟨Nat.le_trans HBW.out.size hp1, Nat.le_trans HBW.out.size hq1⟩
        have hb5 := below_on hb (below_alloc t4 (.cells #[.int .i64 2, .int .i64 32, .int .i64 16, .slice (some ⟨Pm, 0, none⟩) 32 cam, .slice (some ⟨Qm, 0, none⟩) 16 ccm] 28))
        have HS1 := Lib.hid (HS0.out.on hb5)
        have HBM := Lib.hid (below_on HBW.out hb5)
        clear hb hb5 hFs hca hcc hp1 hp2 hp3 hq1 hq2 hq3 hpq hl1 hl2 hl3 HS0 HBW
        obtain ⟨Lm, hLm⟩ : ∃ Lm, Lm = t4.heap.size := ⟨_, rfl⟩
        go_upto_region 38 with fail
        rw [← hLm] at HM0 ⊢
        clear hLm
        generalize t4.alloc _ = t5 at HM0 HS1 HBM ⊢
        have r3 : t5.cell? ⟨Lm, 3, none⟩ = some (.slice (some ⟨Pm, 0, none⟩) 32 cam) := HM0.out.row 3 _ rfl
        have r4 : t5.cell? ⟨Lm, 4, none⟩ = some (.slice (some ⟨Qm, 0, none⟩) 16 ccm) := HM0.out.row 4 _ rfl
        obtain ⟨y0, z0⟩ : ∃ y, t5.cell? ⟨Qm, 91, none⟩ = some y := ⟨_, HM0.out.th 7 (by decide) 0 _ rfl⟩
        have f0 := HM0.out.Qf 91
        obtain ⟨y1, z1⟩ : ∃ y, t5.cell? ⟨Qm, 92, none⟩ = some y := ⟨_, HM0.out.th 7 (by decide) 1 _ rfl⟩
        have f1 := HM0.out.Qf 92
        obtain ⟨y2, z2⟩ : ∃ y, t5.cell? ⟨Qm, 93, none⟩ = some y := ⟨_, HM0.out.th 7 (by decide) 2 _ rfl⟩
        have f2 := HM0.out.Qf 93
        obtain ⟨y3, z3⟩ : ∃ y, t5.cell? ⟨Qm, 94, none⟩ = some y := ⟨_, HM0.out.th 7 (by decide) 3 _ rfl⟩
        have f3 := HM0.out.Qf 94
        obtain ⟨y4, z4⟩ : ∃ y, t5.cell? ⟨Qm, 95, none⟩ = some y := ⟨_, HM0.out.th 7 (by decide) 4 _ rfl⟩
        have f4 := HM0.out.Qf 95
        obtain ⟨y5, z5⟩ : ∃ y, t5.cell? ⟨Qm, 96, none⟩ = some y := ⟨_, HM0.out.th 7 (by decide) 5 _ rfl⟩
        have f5 := HM0.out.Qf 96
        obtain ⟨y6, z6⟩ : ∃ y, t5.cell? ⟨Qm, 97, none⟩ = some y := ⟨_, HM0.out.th 7 (by decide) 6 _ rfl⟩
        have f6 := HM0.out.Qf 97
        obtain ⟨y7, z7⟩ : ∃ y, t5.cell? ⟨Qm, 98, none⟩ = some y := ⟨_, HM0.out.th 7 (by decide) 7 _ rfl⟩
        have f7 := HM0.out.Qf 98
        obtain ⟨y8, z8⟩ : ∃ y, t5.cell? ⟨Qm, 99, none⟩ = some y := ⟨_, HM0.out.th 7 (by decide) 8 _ rfl⟩
        have f8 := HM0.out.Qf 99
        obtain ⟨y9, z9⟩ : ∃ y, t5.cell? ⟨Qm, 100, none⟩ = some y := ⟨_, HM0.out.th 7 (by decide) 9 _ rfl⟩
        have f9 := HM0.out.Qf 100
        obtain ⟨y10, z10⟩ : ∃ y, t5.cell? ⟨Qm, 101, none⟩ = some y := ⟨_, HM0.out.th 7 (by decide) 10 _ rfl⟩
        have f10 := HM0.out.Qf 101
        obtain ⟨y11, z11⟩ : ∃ y, t5.cell? ⟨Qm, 102, none⟩ = some y := ⟨_, HM0.out.th 7 (by decide) 11 _ rfl⟩
        have f11 := HM0.out.Qf 102
        obtain ⟨y12, z12⟩ : ∃ y, t5.cell? ⟨Qm, 103, none⟩ = some y := ⟨_, HM0.out.th 7 (by decide) 12 _ rfl⟩
        have f12 := HM0.out.Qf 103
        go_upto_region 41 with fail
        have hz : Owz (((((((((((((t5.setCell ⟨Qm, 91, none⟩ (.int .i64 2)).setCell ⟨Qm, 92, none⟩ (.int .i64 1)).setCell ⟨Qm, 93, none⟩ (.int .i64 16)).setCell ⟨Qm, 94, none⟩ (.int .i64 0)).setCell ⟨Qm, 95, none⟩ (.int .i64 0)).setCell ⟨Qm, 96, none⟩ (.int .i64 0)).setCell ⟨Qm, 97, none⟩ (.int .i64 0)).setCell ⟨Qm, 98, none⟩ (.bool false)).setCell ⟨Qm, 99, none⟩ (.int .u64 0)).setCell ⟨Qm, 100, none⟩ (.int .u64 0)).setCell ⟨Qm, 101, none⟩ (.int .u64 0)).setCell ⟨Qm, 102, none⟩ (.int .u64 0)).setCell ⟨Qm, 103, none⟩ (.int .u64 0)) Lm 0 (setT s64 7 ⟨2, 1, 16, 0, 0, 0, 0, false, 0, 0, 0, 0, 0⟩) Pm Qm 16 cam ccm := HM0.out.putT (i := 7) (by decide) ⟨2, 1, 16, 0, 0, 0, 0, false, 0, 0, 0, 0, 0⟩
        have hfn : Fnd t5 (((((((((((((t5.setCell ⟨Qm, 91, none⟩ (.int .i64 2)).setCell ⟨Qm, 92, none⟩ (.int .i64 1)).setCell ⟨Qm, 93, none⟩ (.int .i64 16)).setCell ⟨Qm, 94, none⟩ (.int .i64 0)).setCell ⟨Qm, 95, none⟩ (.int .i64 0)).setCell ⟨Qm, 96, none⟩ (.int .i64 0)).setCell ⟨Qm, 97, none⟩ (.int .i64 0)).setCell ⟨Qm, 98, none⟩ (.bool false)).setCell ⟨Qm, 99, none⟩ (.int .u64 0)).setCell ⟨Qm, 100, none⟩ (.int .u64 0)).setCell ⟨Qm, 101, none⟩ (.int .u64 0)).setCell ⟨Qm, 102, none⟩ (.int .u64 0)).setCell ⟨Qm, 103, none⟩ (.int .u64 0)) Qm := Fnd.setCells Qm [.int .i64 2, .int .i64 1, .int .i64 16, .int .i64 0, .int .i64 0, .int .i64 0, .int .i64 0, .bool false, .int .u64 0, .int .u64 0, .int .u64 0, .int .u64 0, .int .u64 0] 91 t5
        generalize (((((((((((((t5.setCell ⟨Qm, 91, none⟩ (.int .i64 2)).setCell ⟨Qm, 92, none⟩ (.int .i64 1)).setCell ⟨Qm, 93, none⟩ (.int .i64 16)).setCell ⟨Qm, 94, none⟩ (.int .i64 0)).setCell ⟨Qm, 95, none⟩ (.int .i64 0)).setCell ⟨Qm, 96, none⟩ (.int .i64 0)).setCell ⟨Qm, 97, none⟩ (.int .i64 0)).setCell ⟨Qm, 98, none⟩ (.bool false)).setCell ⟨Qm, 99, none⟩ (.int .u64 0)).setCell ⟨Qm, 100, none⟩ (.int .u64 0)).setCell ⟨Qm, 101, none⟩ (.int .u64 0)).setCell ⟨Qm, 102, none⟩ (.int .u64 0)).setCell ⟨Qm, 103, none⟩ (.int .u64 0)) = t6 at hz hfn ⊢
        have HM1 := Lib.hid hz
        have HS2 := Lib.hid (HS1.out.step hfn HAP.out.2.1 HAP.out.2.2.1 HAP.out.2.2.2)
        have HBM1 := Lib.hid (below_fnd HBM.out hfn HPW.out.2)
        clear hz hfn r3 r4 z0 f0 z1 f1 z2 f2 z3 f3 z4 f4 z5 f5 z6 f6 z7 f7 z8 f8 z9 f9 z10 f10 z11 f11 z12 f12
        have r3 : t6.cell? ⟨Lm, 3, none⟩ = some (.slice (some ⟨Pm, 0, none⟩) 32 cam) := HM1.out.row 3 _ rfl
        have r4 : t6.cell? ⟨Lm, 4, none⟩ = some (.slice (some ⟨Qm, 0, none⟩) 16 ccm) := HM1.out.row 4 _ rfl
        obtain ⟨y0, z0⟩ : ∃ y, t6.cell? ⟨Pm, 10, none⟩ = some y := ⟨_, HM1.out.sl 2 (by decide) 0 _ rfl⟩
        have f0 := HM1.out.Pf 10
        obtain ⟨y1, z1⟩ : ∃ y, t6.cell? ⟨Pm, 11, none⟩ = some y := ⟨_, HM1.out.sl 2 (by decide) 1 _ rfl⟩
        have f1 := HM1.out.Pf 11
        obtain ⟨y2, z2⟩ : ∃ y, t6.cell? ⟨Pm, 12, none⟩ = some y := ⟨_, HM1.out.sl 2 (by decide) 2 _ rfl⟩
        have f2 := HM1.out.Pf 12
        obtain ⟨y3, z3⟩ : ∃ y, t6.cell? ⟨Pm, 13, none⟩ = some y := ⟨_, HM1.out.sl 2 (by decide) 3 _ rfl⟩
        have f3 := HM1.out.Pf 13
        obtain ⟨y4, z4⟩ : ∃ y, t6.cell? ⟨Pm, 14, none⟩ = some y := ⟨_, HM1.out.sl 2 (by decide) 4 _ rfl⟩
        have f4 := HM1.out.Pf 14
        go_upto_region 42 with fail
        have hz : Owz (((((t6.setCell ⟨Pm, 10, none⟩ (.int .i64 2)).setCell ⟨Pm, 11, none⟩ (.int .i64 7)).setCell ⟨Pm, 12, none⟩ (.int .i64 1)).setCell ⟨Pm, 13, none⟩ (.int .i64 0)).setCell ⟨Pm, 14, none⟩ (.int .i64 0)) Lm 0 (knM) Pm Qm 16 cam ccm := HM1.out.putG (i := 2) (by decide) ⟨⟨2, 7, 1, 0⟩, 0⟩
        have hfn : Fnd t6 (((((t6.setCell ⟨Pm, 10, none⟩ (.int .i64 2)).setCell ⟨Pm, 11, none⟩ (.int .i64 7)).setCell ⟨Pm, 12, none⟩ (.int .i64 1)).setCell ⟨Pm, 13, none⟩ (.int .i64 0)).setCell ⟨Pm, 14, none⟩ (.int .i64 0)) Pm := Fnd.setCells Pm [.int .i64 2, .int .i64 7, .int .i64 1, .int .i64 0, .int .i64 0] 10 t6
        generalize (((((t6.setCell ⟨Pm, 10, none⟩ (.int .i64 2)).setCell ⟨Pm, 11, none⟩ (.int .i64 7)).setCell ⟨Pm, 12, none⟩ (.int .i64 1)).setCell ⟨Pm, 13, none⟩ (.int .i64 0)).setCell ⟨Pm, 14, none⟩ (.int .i64 0)) = t7 at hz hfn ⊢
        have HM2 := Lib.hid hz
        have HS3 := Lib.hid (HS2.out.step hfn HAP.out.1.1 HAP.out.1.2.1 HAP.out.1.2.2)
        have HBM2 := Lib.hid (below_fnd HBM1.out hfn HPW.out.1)
        clear hz hfn r3 r4 z0 f0 z1 f1 z2 f2 z3 f3 z4 f4
        have r3 : t7.cell? ⟨Lm, 3, none⟩ = some (.slice (some ⟨Pm, 0, none⟩) 32 cam) := HM2.out.row 3 _ rfl
        have r4 : t7.cell? ⟨Lm, 4, none⟩ = some (.slice (some ⟨Qm, 0, none⟩) 16 ccm) := HM2.out.row 4 _ rfl
        have q0 : t7.cell? ⟨Lm, 0, none⟩ = some (.int .i64 2) := HM2.out.row 0 _ rfl
        have q1 : t7.cell? ⟨Lm, 1, none⟩ = some (.int .i64 32) := HM2.out.row 1 _ rfl
        have q2 : t7.cell? ⟨Lm, 2, none⟩ = some (.int .i64 16) := HM2.out.row 2 _ rfl
        go_wp2_with fail
        refine (KC.gap (k := 2) (r := some 18) HM2.out.stH (by rw [sgap, if_pos knM_yes, knM_gap2])).mono ?_
        rintro e t8 ⟨rfl, hb⟩
        have HM3 := Lib.hid (HM2.out.on hb)
        have HS4 := Lib.hid (HS3.out.on hb)
        have HBM3 := Lib.hid (below_on HBM2.out hb)
        clear hb q0 q1 q2 r3 r4 HM2 HS3 HBM2
        simp only [gv, Option.getD, Option.isSome]
        have q0 : t8.cell? ⟨Lm, 0, none⟩ = some (.int .i64 2) := HM3.out.row 0 _ rfl
        have q1 : t8.cell? ⟨Lm, 1, none⟩ = some (.int .i64 32) := HM3.out.row 1 _ rfl
        have q2 : t8.cell? ⟨Lm, 2, none⟩ = some (.int .i64 16) := HM3.out.row 2 _ rfl
        have r3 : t8.cell? ⟨Lm, 3, none⟩ = some (.slice (some ⟨Pm, 0, none⟩) 32 cam) := HM3.out.row 3 _ rfl
        have r4 : t8.cell? ⟨Lm, 4, none⟩ = some (.slice (some ⟨Qm, 0, none⟩) 16 ccm) := HM3.out.row 4 _ rfl
        go_wp2_with fail
        refine (KC.gap (k := 4) (r := none) HM3.out.stH (by rw [sgap, if_pos knM_yes, knM_gap4])).mono ?_
        rintro e t9 ⟨rfl, hb⟩
        have HM4 := Lib.hid (HM3.out.on hb)
        have HS5 := Lib.hid (HS4.out.on hb)
        have HBM4 := Lib.hid (below_on HBM3.out hb)
        clear hb q0 q1 q2 r3 r4 HM3 HS4 HBM3
        simp only [gv, Option.getD, Option.isSome]
        have q0 : t9.cell? ⟨Lm, 0, none⟩ = some (.int .i64 2) := HM4.out.row 0 _ rfl
        have q1 : t9.cell? ⟨Lm, 1, none⟩ = some (.int .i64 32) := HM4.out.row 1 _ rfl
        have q2 : t9.cell? ⟨Lm, 2, none⟩ = some (.int .i64 16) := HM4.out.row 2 _ rfl
        have r3 : t9.cell? ⟨Lm, 3, none⟩ = some (.slice (some ⟨Pm, 0, none⟩) 32 cam) := HM4.out.row 3 _ rfl
        have r4 : t9.cell? ⟨Lm, 4, none⟩ = some (.slice (some ⟨Qm, 0, none⟩) 16 ccm) := HM4.out.row 4 _ rfl
        go_wp2_with fail
        refine (KC.forest (L := upsOf knM.sl) HM4.out.stH rfl).mono ?_
        rintro e u0' ⟨FB, cb, rfl, hcb, hFI, hb⟩
        have hul : (upsOf knM.sl).length = 32 := by decide +kernel
        rw [hul] at hcb ⊢
        obtain ⟨fB, fo, rfl, hfl, hfc⟩ := hFI (by rw [hul]; decide)
        have hba := below_alloc u0' (.cells #[.slice (some ⟨fB, fo, none⟩) 32 cb] 51)
        have hx0 : (u0'.alloc (.cells #[.slice (some ⟨fB, fo, none⟩) 32 cb] 51)).cell? ⟨u0'.heap.size, 0, none⟩ = some (.slice (some ⟨fB, fo, none⟩) 32 cb) := by simp
        have hx1 : u0'.heap.size < (u0'.alloc (.cells #[.slice (some ⟨fB, fo, none⟩) 32 cb] 51)).heap.size := by simp
        have HM5 := Lib.hid ((HM4.out.on hb).on hba)
        have HS6 := Lib.hid ((HS5.out.on hb).on hba)
        have HBM5 := Lib.hid (below_on (below_on HBM4.out hb) hba)
        have HFI := Lib.hid (hFI.on hba)
        have HF0 : Hid ((u0'.alloc (.cells #[.slice (some ⟨fB, fo, none⟩) 32 cb] 51)).cell? ⟨fB, fo, none⟩ = some (.int .i64 (-1))) := Lib.hid ((hba.cell (p := ⟨fB, fo, none⟩) hfl).trans (hfc 0 (-1) (by decide +kernel)))
        have HF2 : Hid ((u0'.alloc (.cells #[.slice (some ⟨fB, fo, none⟩) 32 cb] 51)).cell? ⟨fB, fo + 2, none⟩ = some (.int .i64 0)) := Lib.hid ((hba.cell (p := ⟨fB, fo + 2, none⟩) hfl).trans (hfc 2 0 (by decide +kernel)))
        have HF9 : Hid ((u0'.alloc (.cells #[.slice (some ⟨fB, fo, none⟩) 32 cb] 51)).cell? ⟨fB, fo + 9, none⟩ = some (.int .i64 1)) := Lib.hid ((hba.cell (p := ⟨fB, fo + 9, none⟩) hfl).trans (hfc 9 1 (by decide +kernel)))
        have HF3 : Hid ((u0'.alloc (.cells #[.slice (some ⟨fB, fo, none⟩) 32 cb] 51)).cell? ⟨fB, fo + 3, none⟩ = some (.int .i64 (-2))) := Lib.hid ((hba.cell (p := ⟨fB, fo + 3, none⟩) hfl).trans (hfc 3 (-2) (by decide +kernel)))
        have HFL : Hid (fB < (u0'.alloc (.cells #[.slice (some ⟨fB, fo, none⟩) 32 cb] 51)).heap.size) := Lib.hid (Nat.lt_of_lt_of_le hfl hba.size)
        have HX0 := Lib.hid hx0
        have HX1 := Lib.hid hx1
        clear hb hba hx0 hx1 hfl hfc hFI hul q0 q1 q2 r3 r4 HM4 HS5 HBM4
        obtain ⟨fb, hfb⟩ : ∃ fb, fb = u0'.heap.size := ⟨_, rfl⟩
        as_aux_lemma =>
          go_upto_region 45 with fail
          rw [← hfb] at HX0 HX1 ⊢
          clear hfb
          generalize u0'.alloc _ = tf at HM5 HS6 HBM5 HFI HF0 HF2 HF9 HF3 HFL HX0 HX1 ⊢
          have HALL : Hid (∀ w', Below tf.heap.size tf w' → w'.cell? ⟨Ls, 0, none⟩ = some (.int .i64 2) ∧ w'.cell? ⟨Ls, 1, none⟩ = some (.int .i64 32) ∧ w'.cell? ⟨Ls, 2, none⟩ = some (.int .i64 16) ∧ w'.cell? ⟨Ls, 3, none⟩ = some (.slice (some ⟨Ps, 0, none⟩) 32 ca) ∧ w'.cell? ⟨Ls, 4, none⟩ = some (.slice (some ⟨Qs, 0, none⟩) 16 cc) ∧ w'.cell? ⟨Lm, 0, none⟩ = some (.int .i64 2) ∧ w'.cell? ⟨Lm, 1, none⟩ = some (.int .i64 32) ∧ w'.cell? ⟨Lm, 2, none⟩ = some (.int .i64 16) ∧ w'.cell? ⟨Lm, 3, none⟩ = some (.slice (some ⟨Pm, 0, none⟩) 32 cam) ∧ w'.cell? ⟨Lm, 4, none⟩ = some (.slice (some ⟨Qm, 0, none⟩) 16 ccm) ∧ w'.cell? ⟨fb, 0, none⟩ = some (.slice (some ⟨fB, fo, none⟩) 32 cb) ∧ w'.cell? ⟨fB, fo, none⟩ = some (.int .i64 (-1)) ∧ w'.cell? ⟨fB, fo + 2, none⟩ = some (.int .i64 0) ∧ w'.cell? ⟨fB, fo + 9, none⟩ = some (.int .i64 1) ∧ w'.cell? ⟨fB, fo + 3, none⟩ = some (.int .i64 (-2)) ∧ Below tf.heap.size tf w') := Lib.hid fun w' h => by
            have a := (HS6.out.on h).row
            have b := (HM5.out.on h).row
            exact ⟨a 0 _ rfl, a 1 _ rfl, a 2 _ rfl, a 3 _ rfl, a 4 _ rfl, b 0 _ rfl, b 1 _ rfl, b 2 _ rfl, b 3 _ rfl, b 4 _ rfl, (h.cell (p := ⟨fb, 0, none⟩) HX1.out).trans HX0.out, (h.cell (p := ⟨fB, fo, none⟩) HFL.out).trans HF0.out, (h.cell (p := ⟨fB, fo + 2, none⟩) HFL.out).trans HF2.out, (h.cell (p := ⟨fB, fo + 9, none⟩) HFL.out).trans HF9.out, (h.cell (p := ⟨fB, fo + 3, none⟩) HFL.out).trans HF3.out, h⟩
          have own_good : ∀ {s : St} (_ : sgood s = true) (x : Int), sowner s x = ownerN s.th x := fun h x => by rw [sowner, if_pos h]
          have WGs := Lib.hid fun w1 (h : Below tf.heap.size tf w1) => (KC.good (w := w1) (HS6.out.on h).stH s64_good).mono fun e w' ⟨he, hb⟩ => (⟨he, HALL.out w' (below_on h hb)⟩ : _ ∧ _)
          have WGm := Lib.hid fun w1 (h : Below tf.heap.size tf w1) => (KC.good (w := w1) (HM5.out.on h).stH knM_yes).mono fun e w' ⟨he, hb⟩ => (⟨he, HALL.out w' (below_on h hb)⟩ : _ ∧ _)
          have WSm := Lib.hid fun w1 (h : Below tf.heap.size tf w1) => (KC.same (w := w1) (HS6.out.on h).stH (HM5.out.on h).stH knM_same).mono fun e w' ⟨he, hb⟩ => (⟨he, HALL.out w' (below_on h hb)⟩ : _ ∧ _)
          have WCl := Lib.hid fun w1 (h : Below tf.heap.size tf w1) => (KC.clone (w := w1) (HS6.out.on h).stH).mono fun e w' ⟨A, xa, C, xc, he, h1, h2, h3, hb⟩ => (⟨A, xa, C, xc, he, ⟨h3.lies, s64_geo, s64_slots.symm, s64_things.symm, by omega, by omega, h1, h2⟩, HALL.out w' (below_on h hb)⟩ : ∃ A xa C xc, e = Ending.returned (.agg #[.int .i64 2, .int .i64 32, .int .i64 16, .slice A 32 xa, .slice C 16 xc]) ∧ StH w' s64 2 32 16 A 32 xa C 16 xc ∧ _)
          have WSc := Lib.hid fun w1 (A C : Option Addr) (xa xc : Nat) (h : Below tf.heap.size tf w1) (hC : StH w1 s64 2 32 16 A 32 xa C 16 xc) => (KC.same (w := w1) (HS6.out.on h).stH hC (r := true) (St.same_iff.2 rfl)).mono fun e w' ⟨he, hb⟩ => (⟨he, HALL.out w' (below_on h hb)⟩ : _ ∧ _)
          have WO1 := Lib.hid fun w1 (h : Below tf.heap.size tf w1) => (KC.owner (w := w1) (k := 17) (r := 7) (HM5.out.on h).stH (by rw [own_good knM_yes, knM_17]; rfl)).mono fun e w' ⟨he, hb⟩ => (⟨he, HALL.out w' (below_on h hb)⟩ : _ ∧ _)
          have WO2 := Lib.hid fun w1 (h : Below tf.heap.size tf w1) => (KC.owner (w := w1) (k := 18) (r := -1) (HM5.out.on h).stH (by rw [own_good knM_yes, knM_18]; rfl)).mono fun e w' ⟨he, hb⟩ => (⟨he, HALL.out w' (below_on h hb)⟩ : _ ∧ _)
          have WO3 := Lib.hid fun w1 (h : Below tf.heap.size tf w1) => (KC.owner (w := w1) (k := 9) (r := 3) (HS6.out.on h).stH (by rw [own_good s64_good, kn_9]; rfl)).mono fun e w' ⟨he, hb⟩ => (⟨he, HALL.out w' (below_on h hb)⟩ : _ ∧ _)
          have WFr := Lib.hid fun w1 (h : Below tf.heap.size tf w1) => (KC.free (w := w1) (r := 4) (HM5.out.on h).stH (by rw [sfree, if_pos knM_yes, knM_free]; rfl)).mono fun e w' ⟨he, hb⟩ => (⟨he, HALL.out w' (below_on h hb)⟩ : _ ∧ _)
          have WHo := Lib.hid fun w1 (h : Below tf.heap.size tf w1) => (KC.hold (w := w1) (k := 1) (L := [1, 9]) (HS6.out.on h).stH (by rw [shold, if_pos s64_good, kn_hold]; rfl)).mono fun e w' ⟨B, c, he, h1, h2, hb⟩ => (⟨B, c, he, h2, hb, HALL.out w' (below_on h hb)⟩ : ∃ B c, e = Ending.returned (.slice B 2 c) ∧ IntsAt w' w'.heap.size B [1, 9] ∧ Below w1.heap.size w1 w' ∧ _)
          have WIn := Lib.hid fun w1 (RA RB : Option Addr) (rc rd : Nat) (h : Below tf.heap.size tf w1) (ha : IntsAt w1 w1.heap.size RA [1, 9]) (hi : IntsAt w1 w1.heap.size RB [1, 9]) => (kints_is (w := w1) (a := 2) (b := 2) (c := rc) (d := rd) rfl rfl (by omega) ha hi (by rfl : ([1, 9] == [1, 9]) = true)).mono fun e w' ⟨he, hb⟩ => (⟨he, HALL.out w' (below_on h hb)⟩ : _ ∧ _)
          have WFo := Lib.hid fun w1 (h : Below tf.heap.size tf w1) => (pgood_is (w := w1) (n := 32) (cap := cb) (l := upsOf knM.sl) (by decide +kernel) (HFI.out.on h) knM_good).mono fun e w' ⟨he, hb⟩ => (⟨he, HALL.out w' (below_on h hb)⟩ : _ ∧ _)
          have WI1 := Lib.hid fun w1 (h : Below tf.heap.size tf w1) => (KC.inside (w := w1) (x := 7) (y := 16) (r := true) (HM5.out.on h).stH (by rw [sinside, knM_yes, knM_in1]; rfl)).mono fun e w' ⟨he, hb⟩ => (⟨he, HALL.out w' (below_on h hb)⟩ : _ ∧ _)
          have WI2 := Lib.hid fun w1 (h : Below tf.heap.size tf w1) => (KC.inside (w := w1) (x := 7) (y := 3) (r := false) (HM5.out.on h).stH (by rw [sinside, knM_yes, knM_in2]; rfl)).mono fun e w' ⟨he, hb⟩ => (⟨he, HALL.out w' (below_on h hb)⟩ : _ ∧ _)
          have WI3 := Lib.hid fun w1 (h : Below tf.heap.size tf w1) => (KC.inside (w := w1) (x := 2) (y := 16) (r := true) (HM5.out.on h).stH (by rw [sinside, knM_yes, knM_in3]; rfl)).mono fun e w' ⟨he, hb⟩ => (⟨he, HALL.out w' (below_on h hb)⟩ : _ ∧ _)
          have WI4 := Lib.hid fun w1 (h : Below tf.heap.size tf w1) => (KC.inside (w := w1) (x := 0) (y := 16) (r := false) (HM5.out.on h).stH (by rw [sinside, knM_yes, knM_in4]; rfl)).mono fun e w' ⟨he, hb⟩ => (⟨he, HALL.out w' (below_on h hb)⟩ : _ ∧ _)
          have LI : Hid (∀ X : World, IntsAt (X.alloc (.cells #[.int .i64 1, .int .i64 9] 3)) (X.alloc (.cells #[.int .i64 1, .int .i64 9] 3)).heap.size (some ⟨X.heap.size, 0, none⟩) [1, 9]) := Lib.hid fun X => lit_ints X _ 3 _ rfl
          clear own_good
          obtain ⟨y0, y1, y2, y3, y4, y5, y6, y7, y8, y9, y10, y11, y12, y13, y14, y15⟩ := HALL.out tf.drew (below_self tf).drew
          try clear HL
          try clear HNX
          try clear HZ0
          try clear HNO
          try clear HAP
          try clear HPW
          try clear HM0
          try clear HS1
          try clear HBM
          try clear HBM1
          try clear HM1
          try clear HS2
          try clear HBM2
          try clear HS3
          try clear hlt2
          try clear hltI
          try clear HF13
          try clear HR13
          try clear HX2
          try clear HX3
          try clear HX0
          try clear HX1
          try clear HM5
          try clear HS6
          try clear HFI
          try clear HF0
          try clear HF2
          try clear HF9
          try clear HF3
          try clear HFL
          try clear KC
          try clear HLE
          try clear HTH
          try clear HK
          try clear HF
          try clear HI
          try clear hlt
          try clear hi
          try clear HZ0
          try clear HZ1
          try clear HZ2
          try clear HZ3
          try clear HZ4
          try clear HZ5
          try clear HZ6
          try clear HZ7
          try clear HZ8
          try clear HZ9
          try clear HZ10
          try clear HZ11
          try clear HZ12
          try clear HZ13
          try clear HZ14
          try clear HZ15
          try clear HZ16
          try clear HB0
          try clear HB1
          try clear HB2
          try clear HB3
          try clear HB4
          try clear HB5
          try clear HB6
          try clear HB7
          try clear HB8
          try clear HB9
          try clear HB10
          try clear HB11
          try clear HB12
          try clear HB13
          try clear HB14
          try clear HB15
          try clear HB16
          try clear hms
          have HBMX : Hid (∀ w', Below tf.heap.size tf w' → Below w.heap.size w w') := Lib.hid fun w' h => below_on HBM5.out h
          clear HBM5
          dsimp only [List.append]
          as_aux_lemma =>
            refine wp_region_held_drew (S := (fun w' => w'.cell? ⟨Ls, 0, none⟩ = some (.int .i64 2) ∧ w'.cell? ⟨Ls, 1, none⟩ = some (.int .i64 32) ∧ w'.cell? ⟨Ls, 2, none⟩ = some (.int .i64 16) ∧ w'.cell? ⟨Ls, 3, none⟩ = some (.slice (some ⟨Ps, 0, none⟩) 32 ca) ∧ w'.cell? ⟨Ls, 4, none⟩ = some (.slice (some ⟨Qs, 0, none⟩) 16 cc) ∧ w'.cell? ⟨Lm, 0, none⟩ = some (.int .i64 2) ∧ w'.cell? ⟨Lm, 1, none⟩ = some (.int .i64 32) ∧ w'.cell? ⟨Lm, 2, none⟩ = some (.int .i64 16) ∧ w'.cell? ⟨Lm, 3, none⟩ = some (.slice (some ⟨Pm, 0, none⟩) 32 cam) ∧ w'.cell? ⟨Lm, 4, none⟩ = some (.slice (some ⟨Qm, 0, none⟩) 16 ccm) ∧ w'.cell? ⟨fb, 0, none⟩ = some (.slice (some ⟨fB, fo, none⟩) 32 cb) ∧ w'.cell? ⟨fB, fo, none⟩ = some (.int .i64 (-1)) ∧ w'.cell? ⟨fB, fo + 2, none⟩ = some (.int .i64 0) ∧ w'.cell? ⟨fB, fo + 9, none⟩ = some (.int .i64 1) ∧ w'.cell? ⟨fB, fo + 3, none⟩ = some (.int .i64 (-2)) ∧ Below tf.heap.size tf w')) (by kernel_rfl) ⟨y0, y1, y2, y3, y4, y5, y6, y7, y8, y9, y10, y11, y12, y13, y14, y15⟩ (fun hHeld => ?_)
            refine wpAnyH_take (i := 0) (v := .int .i64 1) rfl (by kernel_rfl) (by kernel_rfl) (by kernel_rfl) (fun _ _ _ h => h) (Or.inl ⟨by kernel_rfl, fun w _ => by kernel_rfl⟩) hHeld ?_
            simp only [Act.put, List.setIfInBounds_toArray, List.set_cons_zero, List.set_cons_succ, List.getElem_toArray, List.getElem_cons_zero]
            refine wpAnyH_take (i := 1) (v := .bool true) rfl (by kernel_rfl) (by kernel_rfl) (by kernel_rfl) (fun _ _ _ h => h) (Or.inl ⟨by kernel_rfl, fun w _ => by kernel_rfl⟩) hHeld ?_
            simp only [Act.put, List.setIfInBounds_toArray, List.set_cons_zero, List.set_cons_succ, List.getElem_toArray, List.getElem_cons_zero, List.getElem_cons_succ]
            refine wpAnyH_take (i := 2) (v := .bool true) rfl (by kernel_rfl) (by kernel_rfl) (by kernel_rfl) (fun _ _ _ h => h) (Or.inl ⟨by kernel_rfl, fun w _ => by kernel_rfl⟩) hHeld ?_
            simp only [Act.put, List.setIfInBounds_toArray, List.set_cons_zero, List.set_cons_succ, List.getElem_toArray, List.getElem_cons_zero, List.getElem_cons_succ]
            refine wpAnyH_take (i := 3) (v := .int .i64 1) rfl (by kernel_rfl) (by kernel_rfl) (by kernel_rfl) (fun _ _ _ h => h) (Or.inl ⟨by kernel_rfl, fun w _ => by kernel_rfl⟩) hHeld ?_
            simp only [Act.put, List.setIfInBounds_toArray, List.set_cons_zero, List.set_cons_succ, List.getElem_toArray, List.getElem_cons_zero, List.getElem_cons_succ]
            refine wpAnyH_take (i := 4) (v := .bool true) rfl (by kernel_rfl) (by kernel_rfl) (by kernel_rfl) (fun _ _ _ h => h) (Or.inl ⟨by kernel_rfl, fun w _ => by kernel_rfl⟩) hHeld ?_
            simp only [Act.put, List.setIfInBounds_toArray, List.set_cons_zero, List.set_cons_succ, List.getElem_toArray, List.getElem_cons_zero, List.getElem_cons_succ]
            refine wpAnyH_take (i := 5) (v := .bool true) rfl (by kernel_rfl) (by kernel_rfl) (by kernel_rfl) (fun _ _ _ h => h) (Or.inl ⟨by kernel_rfl, fun w _ => by kernel_rfl⟩) hHeld ?_
            simp only [Act.put, List.setIfInBounds_toArray, List.set_cons_zero, List.set_cons_succ, List.getElem_toArray, List.getElem_cons_zero, List.getElem_cons_succ]
            refine wpAnyH_take (i := 6) (v := .bool true) rfl (by kernel_rfl) (by kernel_rfl) (by kernel_rfl) (fun _ _ _ h => h) (Or.inl ⟨by kernel_rfl, fun w _ => by kernel_rfl⟩) hHeld ?_
            simp only [Act.put, List.setIfInBounds_toArray, List.set_cons_zero, List.set_cons_succ, List.getElem_toArray, List.getElem_cons_zero, List.getElem_cons_succ]
            refine wpAnyH_take (i := 7) (v := .int .i64 1) rfl (by kernel_rfl) (by kernel_rfl) (by kernel_rfl) (fun _ _ _ h => h) (Or.inl ⟨by kernel_rfl, fun w _ => by kernel_rfl⟩) hHeld ?_
            simp only [Act.put, List.setIfInBounds_toArray, List.set_cons_zero, List.set_cons_succ, List.getElem_toArray, List.getElem_cons_zero, List.getElem_cons_succ]
            refine wpAnyH_take (i := 8) (v := .bool true) rfl (by kernel_rfl) (by kernel_rfl) (by kernel_rfl) (fun _ _ _ h => h) (Or.inl ⟨by kernel_rfl, fun w _ => by kernel_rfl⟩) hHeld ?_
            simp only [Act.put, List.setIfInBounds_toArray, List.set_cons_zero, List.set_cons_succ, List.getElem_toArray, List.getElem_cons_zero, List.getElem_cons_succ]
            refine wpAnyH_take (i := 9) (v := .bool true) rfl (by kernel_rfl) (by kernel_rfl) (by kernel_rfl) (fun _ _ _ h => h) (Or.inl ⟨by kernel_rfl, fun w _ => by kernel_rfl⟩) hHeld ?_
            simp only [Act.put, List.setIfInBounds_toArray, List.set_cons_zero, List.set_cons_succ, List.getElem_toArray, List.getElem_cons_zero, List.getElem_cons_succ]
            refine wpAnyH_take (i := 10) (v := .bool true) rfl (by kernel_rfl) (by kernel_rfl) (by kernel_rfl) (fun _ _ _ h => h) (Or.inl ⟨by kernel_rfl, fun w _ => by kernel_rfl⟩) hHeld ?_
            simp only [Act.put, List.setIfInBounds_toArray, List.set_cons_zero, List.set_cons_succ, List.getElem_toArray, List.getElem_cons_zero, List.getElem_cons_succ]
            refine wpAnyH_take (i := 11) (v := ?_) rfl (by kernel_rfl) (by kernel_rfl) (by kernel_rfl) (fun _ _ _ h => h) (Or.inl ⟨by rfl, ?_⟩) hHeld ?_
            rotate_left
            · intro w hSw; go_split_ands; go_simp; try with_reducible rfl
            simp only [Act.put, List.setIfInBounds_toArray, List.set_cons_zero, List.set_cons_succ, List.getElem_toArray, List.getElem_cons_zero, List.getElem_cons_succ]
            refine wpAnyH_ready (rs := [12]) (by kernel_rfl) (by simp) ?_
            refine AllReadyH.cons rfl (fun K hK => ?_) AllReadyH.nil
            go_simp
            refine (WGs.out _ y15).mono ?_
            clear y0 y1 y2 y3 y4 y5 y6 y7 y8 y9 y10 y11 y12 y13 y14 y15
            rintro e w' ⟨rfl, y0, y1, y2, y3, y4, y5, y6, y7, y8, y9, y10, y11, y12, y13, y14, y15⟩
            clear hHeld
            refine hK.out _ _ ⟨y0, y1, y2, y3, y4, y5, y6, y7, y8, y9, y10, y11, y12, y13, y14, y15⟩ (fun hHeld => ?_)
            clear hK K
            try simp only [Act.put, List.setIfInBounds_toArray, List.set_cons_zero, List.set_cons_succ]
            refine wpAnyH_take (i := 13) (v := .bool true) rfl (by kernel_rfl) (by kernel_rfl) (by kernel_rfl) (fun _ _ _ h => h) (Or.inl ⟨by kernel_rfl, fun w _ => by kernel_rfl⟩) hHeld ?_
            simp only [Act.put, List.setIfInBounds_toArray, List.set_cons_zero, List.set_cons_succ, List.getElem_toArray, List.getElem_cons_zero, List.getElem_cons_succ]
            refine wpAnyH_take (i := 14) (v := .bool true) rfl (by kernel_rfl) (by kernel_rfl) (by kernel_rfl) (fun _ _ _ h => h) (Or.inl ⟨by kernel_rfl, fun w _ => by kernel_rfl⟩) hHeld ?_
            simp only [Act.put, List.setIfInBounds_toArray, List.set_cons_zero, List.set_cons_succ, List.getElem_toArray, List.getElem_cons_zero, List.getElem_cons_succ]
            refine wpAnyH_take (i := 15) (v := ?_) rfl (by kernel_rfl) (by kernel_rfl) (by kernel_rfl) (fun _ _ _ h => h) (Or.inl ⟨by rfl, ?_⟩) hHeld ?_
            rotate_left
            · intro w hSw; go_split_ands; go_simp; try with_reducible rfl
            simp only [Act.put, List.setIfInBounds_toArray, List.set_cons_zero, List.set_cons_succ, List.getElem_toArray, List.getElem_cons_zero, List.getElem_cons_succ]
            refine wpAnyH_ready (rs := [16]) (by kernel_rfl) (by simp) ?_
            refine AllReadyH.cons rfl (fun K hK => ?_) AllReadyH.nil
            go_simp
            refine (WGm.out _ y15).mono ?_
            clear y0 y1 y2 y3 y4 y5 y6 y7 y8 y9 y10 y11 y12 y13 y14 y15
            rintro e w' ⟨rfl, y0, y1, y2, y3, y4, y5, y6, y7, y8, y9, y10, y11, y12, y13, y14, y15⟩
            clear hHeld
            refine hK.out _ _ ⟨y0, y1, y2, y3, y4, y5, y6, y7, y8, y9, y10, y11, y12, y13, y14, y15⟩ (fun hHeld => ?_)
            clear hK K
            try simp only [Act.put, List.setIfInBounds_toArray, List.set_cons_zero, List.set_cons_succ]
            as_aux_lemma =>
              refine wpAnyH_take (i := 17) (v := .bool true) rfl (by kernel_rfl) (by kernel_rfl) (by kernel_rfl) (fun _ _ _ h => h) (Or.inl ⟨by kernel_rfl, fun w _ => by kernel_rfl⟩) hHeld ?_
              simp only [Act.put, List.setIfInBounds_toArray, List.set_cons_zero, List.set_cons_succ, List.getElem_toArray, List.getElem_cons_zero, List.getElem_cons_succ]
              refine wpAnyH_take (i := 18) (v := .bool true) rfl (by kernel_rfl) (by kernel_rfl) (by kernel_rfl) (fun _ _ _ h => h) (Or.inl ⟨by kernel_rfl, fun w _ => by kernel_rfl⟩) hHeld ?_
              simp only [Act.put, List.setIfInBounds_toArray, List.set_cons_zero, List.set_cons_succ, List.getElem_toArray, List.getElem_cons_zero, List.getElem_cons_succ]
              refine wpAnyH_take (i := 19) (v := ?_) rfl (by kernel_rfl) (by kernel_rfl) (by kernel_rfl) (fun _ _ _ h => h) (Or.inl ⟨by rfl, ?_⟩) hHeld ?_
              rotate_left
              · intro w hSw; go_split_ands; go_simp; try with_reducible rfl
              simp only [Act.put, List.setIfInBounds_toArray, List.set_cons_zero, List.set_cons_succ, List.getElem_toArray, List.getElem_cons_zero, List.getElem_cons_succ]
              refine wpAnyH_take (i := 20) (v := ?_) rfl (by kernel_rfl) (by kernel_rfl) (by kernel_rfl) (fun _ _ _ h => h) (Or.inl ⟨by rfl, ?_⟩) hHeld ?_
              rotate_left
              · intro w hSw; go_split_ands; go_simp; try with_reducible rfl
              simp only [Act.put, List.setIfInBounds_toArray, List.set_cons_zero, List.set_cons_succ, List.getElem_toArray, List.getElem_cons_zero, List.getElem_cons_succ]
              refine wpAnyH_ready (rs := [21]) (by kernel_rfl) (by simp) ?_
              refine AllReadyH.cons rfl (fun K hK => ?_) AllReadyH.nil
              go_simp
              refine (WSm.out _ y15).mono ?_
              clear y0 y1 y2 y3 y4 y5 y6 y7 y8 y9 y10 y11 y12 y13 y14 y15
              rintro e w' ⟨rfl, y0, y1, y2, y3, y4, y5, y6, y7, y8, y9, y10, y11, y12, y13, y14, y15⟩
              clear hHeld
              refine hK.out _ _ ⟨y0, y1, y2, y3, y4, y5, y6, y7, y8, y9, y10, y11, y12, y13, y14, y15⟩ (fun hHeld => ?_)
              clear hK K
              try simp only [Act.put, List.setIfInBounds_toArray, List.set_cons_zero, List.set_cons_succ]
              refine wpAnyH_take (i := 22) (v := .bool true) rfl (by kernel_rfl) (by kernel_rfl) (by kernel_rfl) (fun _ _ _ h => h) (Or.inl ⟨by kernel_rfl, fun w _ => by kernel_rfl⟩) hHeld ?_
              simp only [Act.put, List.setIfInBounds_toArray, List.set_cons_zero, List.set_cons_succ, List.getElem_toArray, List.getElem_cons_zero, List.getElem_cons_succ]
              refine wpAnyH_take (i := 23) (v := .bool true) rfl (by kernel_rfl) (by kernel_rfl) (by kernel_rfl) (fun _ _ _ h => h) (Or.inl ⟨by kernel_rfl, fun w _ => by kernel_rfl⟩) hHeld ?_
              simp only [Act.put, List.setIfInBounds_toArray, List.set_cons_zero, List.set_cons_succ, List.getElem_toArray, List.getElem_cons_zero, List.getElem_cons_succ]
              refine wpAnyH_take (i := 24) (v := .bool true) rfl (by kernel_rfl) (by kernel_rfl) (by kernel_rfl) (fun _ _ _ h => h) (Or.inl ⟨by kernel_rfl, fun w _ => by kernel_rfl⟩) hHeld ?_
              simp only [Act.put, List.setIfInBounds_toArray, List.set_cons_zero, List.set_cons_succ, List.getElem_toArray, List.getElem_cons_zero, List.getElem_cons_succ]
              refine wpAnyH_take (i := 25) (v := ?_) rfl (by kernel_rfl) (by kernel_rfl) (by kernel_rfl) (fun _ _ _ h => h) (Or.inl ⟨by rfl, ?_⟩) hHeld ?_
              rotate_left
              · intro w hSw; go_split_ands; go_simp; try with_reducible rfl
              simp only [Act.put, List.setIfInBounds_toArray, List.set_cons_zero, List.set_cons_succ, List.getElem_toArray, List.getElem_cons_zero, List.getElem_cons_succ]
              refine wpAnyH_take (i := 26) (v := ?_) rfl (by kernel_rfl) (by kernel_rfl) (by kernel_rfl) (fun _ _ _ h => h) (Or.inl ⟨by rfl, ?_⟩) hHeld ?_
              rotate_left
              · intro w hSw; go_split_ands; go_simp; try with_reducible rfl
              simp only [Act.put, List.setIfInBounds_toArray, List.set_cons_zero, List.set_cons_succ, List.getElem_toArray, List.getElem_cons_zero, List.getElem_cons_succ]
              refine wpAnyH_ready (rs := [27]) (by kernel_rfl) (by simp) ?_
              refine AllReadyH.cons rfl (fun K hK => ?_) AllReadyH.nil
              go_simp
              refine (WCl.out _ y15).mono ?_
              clear y0 y1 y2 y3 y4 y5 y6 y7 y8 y9 y10 y11 y12 y13 y14 y15
              rintro e w' ⟨CA', cxa, CC', cxc, rfl, hcl, y0, y1, y2, y3, y4, y5, y6, y7, y8, y9, y10, y11, y12, y13, y14, y15⟩
              clear hHeld
              refine hK.out _ _ ⟨y0, y1, y2, y3, y4, y5, y6, y7, y8, y9, y10, y11, y12, y13, y14, y15⟩ (fun hHeld => ?_)
              clear hK K
              try simp only [Act.put, List.setIfInBounds_toArray, List.set_cons_zero, List.set_cons_succ]
              refine wpAnyH_ready (rs := [28]) (by kernel_rfl) (by simp) ?_
              refine AllReadyH.cons rfl (fun K hK => ?_) AllReadyH.nil
              go_simp
              refine (WSc.out _ _ _ _ _ y15 hcl).mono ?_
              clear y0 y1 y2 y3 y4 y5 y6 y7 y8 y9 y10 y11 y12 y13 y14 y15
              rintro e w' ⟨rfl, y0, y1, y2, y3, y4, y5, y6, y7, y8, y9, y10, y11, y12, y13, y14, y15⟩
              clear hHeld
              refine hK.out _ _ ⟨y0, y1, y2, y3, y4, y5, y6, y7, y8, y9, y10, y11, y12, y13, y14, y15⟩ (fun hHeld => ?_)
              clear hK K
              try simp only [Act.put, List.setIfInBounds_toArray, List.set_cons_zero, List.set_cons_succ]
              as_aux_lemma =>
                refine wpAnyH_take (i := 29) (v := .bool true) rfl (by kernel_rfl) (by kernel_rfl) (by kernel_rfl) (fun _ _ _ h => h) (Or.inl ⟨by kernel_rfl, fun w _ => by kernel_rfl⟩) hHeld ?_
                simp only [Act.put, List.setIfInBounds_toArray, List.set_cons_zero, List.set_cons_succ, List.getElem_toArray, List.getElem_cons_zero, List.getElem_cons_succ]
                refine wpAnyH_take (i := 30) (v := .bool true) rfl (by kernel_rfl) (by kernel_rfl) (by kernel_rfl) (fun _ _ _ h => h) (Or.inl ⟨by kernel_rfl, fun w _ => by kernel_rfl⟩) hHeld ?_
                simp only [Act.put, List.setIfInBounds_toArray, List.set_cons_zero, List.set_cons_succ, List.getElem_toArray, List.getElem_cons_zero, List.getElem_cons_succ]
                refine wpAnyH_take (i := 31) (v := ?_) rfl (by kernel_rfl) (by kernel_rfl) (by kernel_rfl) (fun _ _ _ h => h) (Or.inl ⟨by rfl, ?_⟩) hHeld ?_
                rotate_left
                · intro w hSw; go_split_ands; go_simp; try with_reducible rfl
                simp only [Act.put, List.setIfInBounds_toArray, List.set_cons_zero, List.set_cons_succ, List.getElem_toArray, List.getElem_cons_zero, List.getElem_cons_succ]
                refine wpAnyH_ready (rs := [32]) (by kernel_rfl) (by simp) ?_
                refine AllReadyH.cons rfl (fun K hK => ?_) AllReadyH.nil
                go_simp
                refine (WO1.out _ y15).mono ?_
                clear y0 y1 y2 y3 y4 y5 y6 y7 y8 y9 y10 y11 y12 y13 y14 y15
                rintro e w' ⟨rfl, y0, y1, y2, y3, y4, y5, y6, y7, y8, y9, y10, y11, y12, y13, y14, y15⟩
                clear hHeld
                refine hK.out _ _ ⟨y0, y1, y2, y3, y4, y5, y6, y7, y8, y9, y10, y11, y12, y13, y14, y15⟩ (fun hHeld => ?_)
                clear hK K
                try simp only [Act.put, List.setIfInBounds_toArray, List.set_cons_zero, List.set_cons_succ]
                refine wpAnyH_take (i := 33) (v := .bool true) rfl (by kernel_rfl) (by kernel_rfl) (by kernel_rfl) (fun _ _ _ h => h) (Or.inl ⟨by kernel_rfl, fun w _ => by kernel_rfl⟩) hHeld ?_
                simp only [Act.put, List.setIfInBounds_toArray, List.set_cons_zero, List.set_cons_succ, List.getElem_toArray, List.getElem_cons_zero, List.getElem_cons_succ]
                refine wpAnyH_take (i := 34) (v := .bool true) rfl (by kernel_rfl) (by kernel_rfl) (by kernel_rfl) (fun _ _ _ h => h) (Or.inl ⟨by kernel_rfl, fun w _ => by kernel_rfl⟩) hHeld ?_
                simp only [Act.put, List.setIfInBounds_toArray, List.set_cons_zero, List.set_cons_succ, List.getElem_toArray, List.getElem_cons_zero, List.getElem_cons_succ]
                refine wpAnyH_take (i := 35) (v := .bool true) rfl (by kernel_rfl) (by kernel_rfl) (by kernel_rfl) (fun _ _ _ h => h) (Or.inl ⟨by kernel_rfl, fun w _ => by kernel_rfl⟩) hHeld ?_
                simp only [Act.put, List.setIfInBounds_toArray, List.set_cons_zero, List.set_cons_succ, List.getElem_toArray, List.getElem_cons_zero, List.getElem_cons_succ]
                refine wpAnyH_take (i := 36) (v := ?_) rfl (by kernel_rfl) (by kernel_rfl) (by kernel_rfl) (fun _ _ _ h => h) (Or.inl ⟨by rfl, ?_⟩) hHeld ?_
                rotate_left
                · intro w hSw; go_split_ands; go_simp; try with_reducible rfl
                simp only [Act.put, List.setIfInBounds_toArray, List.set_cons_zero, List.set_cons_succ, List.getElem_toArray, List.getElem_cons_zero, List.getElem_cons_succ]
                refine wpAnyH_ready (rs := [37]) (by kernel_rfl) (by simp) ?_
                refine AllReadyH.cons rfl (fun K hK => ?_) AllReadyH.nil
                go_simp
                refine (WO2.out _ y15).mono ?_
                clear y0 y1 y2 y3 y4 y5 y6 y7 y8 y9 y10 y11 y12 y13 y14 y15
                rintro e w' ⟨rfl, y0, y1, y2, y3, y4, y5, y6, y7, y8, y9, y10, y11, y12, y13, y14, y15⟩
                clear hHeld
                refine hK.out _ _ ⟨y0, y1, y2, y3, y4, y5, y6, y7, y8, y9, y10, y11, y12, y13, y14, y15⟩ (fun hHeld => ?_)
                clear hK K
                try simp only [Act.put, List.setIfInBounds_toArray, List.set_cons_zero, List.set_cons_succ]
                as_aux_lemma =>
                  refine wpAnyH_take (i := 38) (v := .bool true) rfl (by kernel_rfl) (by kernel_rfl) (by kernel_rfl) (fun _ _ _ h => h) (Or.inl ⟨by kernel_rfl, fun w _ => by kernel_rfl⟩) hHeld ?_
                  simp only [Act.put, List.setIfInBounds_toArray, List.set_cons_zero, List.set_cons_succ, List.getElem_toArray, List.getElem_cons_zero, List.getElem_cons_succ]
                  refine wpAnyH_take (i := 39) (v := .bool true) rfl (by kernel_rfl) (by kernel_rfl) (by kernel_rfl) (fun _ _ _ h => h) (Or.inl ⟨by kernel_rfl, fun w _ => by kernel_rfl⟩) hHeld ?_
                  simp only [Act.put, List.setIfInBounds_toArray, List.set_cons_zero, List.set_cons_succ, List.getElem_toArray, List.getElem_cons_zero, List.getElem_cons_succ]
                  refine wpAnyH_take (i := 40) (v := .bool true) rfl (by kernel_rfl) (by kernel_rfl) (by kernel_rfl) (fun _ _ _ h => h) (Or.inl ⟨by kernel_rfl, fun w _ => by kernel_rfl⟩) hHeld ?_
                  simp only [Act.put, List.setIfInBounds_toArray, List.set_cons_zero, List.set_cons_succ, List.getElem_toArray, List.getElem_cons_zero, List.getElem_cons_succ]
                  refine wpAnyH_take (i := 41) (v := ?_) rfl (by kernel_rfl) (by kernel_rfl) (by kernel_rfl) (fun _ _ _ h => h) (Or.inl ⟨by rfl, ?_⟩) hHeld ?_
                  rotate_left
                  · intro w hSw; go_split_ands; go_simp; try with_reducible rfl
                  simp only [Act.put, List.setIfInBounds_toArray, List.set_cons_zero, List.set_cons_succ, List.getElem_toArray, List.getElem_cons_zero, List.getElem_cons_succ]
                  refine wpAnyH_ready (rs := [42]) (by kernel_rfl) (by simp) ?_
                  refine AllReadyH.cons rfl (fun K hK => ?_) AllReadyH.nil
                  go_simp
                  refine (WO3.out _ y15).mono ?_
                  clear y0 y1 y2 y3 y4 y5 y6 y7 y8 y9 y10 y11 y12 y13 y14 y15
                  rintro e w' ⟨rfl, y0, y1, y2, y3, y4, y5, y6, y7, y8, y9, y10, y11, y12, y13, y14, y15⟩
                  clear hHeld
                  refine hK.out _ _ ⟨y0, y1, y2, y3, y4, y5, y6, y7, y8, y9, y10, y11, y12, y13, y14, y15⟩ (fun hHeld => ?_)
                  clear hK K
                  try simp only [Act.put, List.setIfInBounds_toArray, List.set_cons_zero, List.set_cons_succ]
                  refine wpAnyH_take (i := 43) (v := .bool true) rfl (by kernel_rfl) (by kernel_rfl) (by kernel_rfl) (fun _ _ _ h => h) (Or.inl ⟨by kernel_rfl, fun w _ => by kernel_rfl⟩) hHeld ?_
                  simp only [Act.put, List.setIfInBounds_toArray, List.set_cons_zero, List.set_cons_succ, List.getElem_toArray, List.getElem_cons_zero, List.getElem_cons_succ]
                  refine wpAnyH_take (i := 44) (v := .bool true) rfl (by kernel_rfl) (by kernel_rfl) (by kernel_rfl) (fun _ _ _ h => h) (Or.inl ⟨by kernel_rfl, fun w _ => by kernel_rfl⟩) hHeld ?_
                  simp only [Act.put, List.setIfInBounds_toArray, List.set_cons_zero, List.set_cons_succ, List.getElem_toArray, List.getElem_cons_zero, List.getElem_cons_succ]
                  refine wpAnyH_take (i := 45) (v := .bool true) rfl (by kernel_rfl) (by kernel_rfl) (by kernel_rfl) (fun _ _ _ h => h) (Or.inl ⟨by kernel_rfl, fun w _ => by kernel_rfl⟩) hHeld ?_
                  simp only [Act.put, List.setIfInBounds_toArray, List.set_cons_zero, List.set_cons_succ, List.getElem_toArray, List.getElem_cons_zero, List.getElem_cons_succ]
                  refine wpAnyH_take (i := 46) (v := ?_) rfl (by kernel_rfl) (by kernel_rfl) (by kernel_rfl) (fun _ _ _ h => h) (Or.inl ⟨by rfl, ?_⟩) hHeld ?_
                  rotate_left
                  · intro w hSw; go_split_ands; go_simp; try with_reducible rfl
                  simp only [Act.put, List.setIfInBounds_toArray, List.set_cons_zero, List.set_cons_succ, List.getElem_toArray, List.getElem_cons_zero, List.getElem_cons_succ]
                  refine wpAnyH_ready (rs := [47]) (by kernel_rfl) (by simp) ?_
                  refine AllReadyH.cons rfl (fun K hK => ?_) AllReadyH.nil
                  go_simp
                  refine (WFr.out _ y15).mono ?_
                  clear y0 y1 y2 y3 y4 y5 y6 y7 y8 y9 y10 y11 y12 y13 y14 y15
                  rintro e w' ⟨rfl, y0, y1, y2, y3, y4, y5, y6, y7, y8, y9, y10, y11, y12, y13, y14, y15⟩
                  clear hHeld
                  refine hK.out _ _ ⟨y0, y1, y2, y3, y4, y5, y6, y7, y8, y9, y10, y11, y12, y13, y14, y15⟩ (fun hHeld => ?_)
                  clear hK K
                  try simp only [Act.put, List.setIfInBounds_toArray, List.set_cons_zero, List.set_cons_succ]
                  as_aux_lemma =>
                    refine wpAnyH_take (i := 48) (v := .bool true) rfl (by kernel_rfl) (by kernel_rfl) (by kernel_rfl) (fun _ _ _ h => h) (Or.inl ⟨by kernel_rfl, fun w _ => by kernel_rfl⟩) hHeld ?_
                    simp only [Act.put, List.setIfInBounds_toArray, List.set_cons_zero, List.set_cons_succ, List.getElem_toArray, List.getElem_cons_zero, List.getElem_cons_succ]
                    refine wpAnyH_take (i := 49) (v := .bool true) rfl (by kernel_rfl) (by kernel_rfl) (by kernel_rfl) (fun _ _ _ h => h) (Or.inl ⟨by kernel_rfl, fun w _ => by kernel_rfl⟩) hHeld ?_
                    simp only [Act.put, List.setIfInBounds_toArray, List.set_cons_zero, List.set_cons_succ, List.getElem_toArray, List.getElem_cons_zero, List.getElem_cons_succ]
                    refine wpAnyH_take (i := 50) (v := .bool true) rfl (by kernel_rfl) (by kernel_rfl) (by kernel_rfl) (fun _ _ _ h => h) (Or.inl ⟨by kernel_rfl, fun w _ => by kernel_rfl⟩) hHeld ?_
                    simp only [Act.put, List.setIfInBounds_toArray, List.set_cons_zero, List.set_cons_succ, List.getElem_toArray, List.getElem_cons_zero, List.getElem_cons_succ]
                    refine wpAnyH_take (i := 51) (v := .bool true) rfl (by kernel_rfl) (by kernel_rfl) (by kernel_rfl) (fun _ _ _ h => h) (Or.inl ⟨by kernel_rfl, fun w _ => by kernel_rfl⟩) hHeld ?_
                    simp only [Act.put, List.setIfInBounds_toArray, List.set_cons_zero, List.set_cons_succ, List.getElem_toArray, List.getElem_cons_zero, List.getElem_cons_succ]
                    refine wpAnyH_take (i := 52) (v := .bool true) rfl (by kernel_rfl) (by kernel_rfl) (by kernel_rfl) (fun _ _ _ h => h) (Or.inl ⟨by kernel_rfl, fun w _ => by kernel_rfl⟩) hHeld ?_
                    simp only [Act.put, List.setIfInBounds_toArray, List.set_cons_zero, List.set_cons_succ, List.getElem_toArray, List.getElem_cons_zero, List.getElem_cons_succ]
                    refine wpAnyH_take (i := 53) (v := .bool true) rfl (by kernel_rfl) (by kernel_rfl) (by kernel_rfl) (fun _ _ _ h => h) (Or.inl ⟨by kernel_rfl, fun w _ => by kernel_rfl⟩) hHeld ?_
                    simp only [Act.put, List.setIfInBounds_toArray, List.set_cons_zero, List.set_cons_succ, List.getElem_toArray, List.getElem_cons_zero, List.getElem_cons_succ]
                    refine wpAnyH_take (i := 54) (v := .int .i64 18) rfl (by kernel_rfl) (by kernel_rfl) (by kernel_rfl) (fun _ _ _ h => h) (Or.inl ⟨by kernel_rfl, fun w _ => by kernel_rfl⟩) hHeld ?_
                    simp only [Act.put, List.setIfInBounds_toArray, List.set_cons_zero, List.set_cons_succ, List.getElem_toArray, List.getElem_cons_zero, List.getElem_cons_succ]
                    refine wpAnyH_take (i := 55) (v := .bool true) rfl (by kernel_rfl) (by kernel_rfl) (by kernel_rfl) (fun _ _ _ h => h) (Or.inl ⟨by kernel_rfl, fun w _ => by kernel_rfl⟩) hHeld ?_
                    simp only [Act.put, List.setIfInBounds_toArray, List.set_cons_zero, List.set_cons_succ, List.getElem_toArray, List.getElem_cons_zero, List.getElem_cons_succ]
                    refine wpAnyH_take (i := 56) (v := .bool true) rfl (by kernel_rfl) (by kernel_rfl) (by kernel_rfl) (fun _ _ _ h => h) (Or.inl ⟨by kernel_rfl, fun w _ => by kernel_rfl⟩) hHeld ?_
                    simp only [Act.put, List.setIfInBounds_toArray, List.set_cons_zero, List.set_cons_succ, List.getElem_toArray, List.getElem_cons_zero, List.getElem_cons_succ]
                    refine wpAnyH_take (i := 57) (v := .bool true) rfl (by kernel_rfl) (by kernel_rfl) (by kernel_rfl) (fun _ _ _ h => h) (Or.inl ⟨by kernel_rfl, fun w _ => by kernel_rfl⟩) hHeld ?_
                    simp only [Act.put, List.setIfInBounds_toArray, List.set_cons_zero, List.set_cons_succ, List.getElem_toArray, List.getElem_cons_zero, List.getElem_cons_succ]
                    refine wpAnyH_take (i := 58) (v := .bool false) rfl (by kernel_rfl) (by kernel_rfl) (by kernel_rfl) (fun _ _ _ h => h) (Or.inl ⟨by kernel_rfl, fun w _ => by kernel_rfl⟩) hHeld ?_
                    simp only [Act.put, List.setIfInBounds_toArray, List.set_cons_zero, List.set_cons_succ, List.getElem_toArray, List.getElem_cons_zero, List.getElem_cons_succ]
                    refine wpAnyH_take (i := 59) (v := .bool true) rfl (by kernel_rfl) (by kernel_rfl) (by kernel_rfl) (fun _ _ _ h => h) (Or.inl ⟨by kernel_rfl, fun w _ => by kernel_rfl⟩) hHeld ?_
                    simp only [Act.put, List.setIfInBounds_toArray, List.set_cons_zero, List.set_cons_succ, List.getElem_toArray, List.getElem_cons_zero, List.getElem_cons_succ]
                    refine wpAnyH_take (i := 60) (v := .bool true) rfl (by kernel_rfl) (by kernel_rfl) (by kernel_rfl) (fun _ _ _ h => h) (Or.inl ⟨by kernel_rfl, fun w _ => by kernel_rfl⟩) hHeld ?_
                    simp only [Act.put, List.setIfInBounds_toArray, List.set_cons_zero, List.set_cons_succ, List.getElem_toArray, List.getElem_cons_zero, List.getElem_cons_succ]
                    refine wpAnyH_take (i := 61) (v := .bool true) rfl (by kernel_rfl) (by kernel_rfl) (by kernel_rfl) (fun _ _ _ h => h) (Or.inl ⟨by kernel_rfl, fun w _ => by kernel_rfl⟩) hHeld ?_
                    simp only [Act.put, List.setIfInBounds_toArray, List.set_cons_zero, List.set_cons_succ, List.getElem_toArray, List.getElem_cons_zero, List.getElem_cons_succ]
                    refine wpAnyH_take (i := 62) (v := ?_) rfl (by kernel_rfl) (by kernel_rfl) (by kernel_rfl) (fun _ _ _ h => h) (Or.inl ⟨by rfl, ?_⟩) hHeld ?_
                    rotate_left
                    · intro w hSw; go_split_ands; go_simp; try with_reducible rfl
                    simp only [Act.put, List.setIfInBounds_toArray, List.set_cons_zero, List.set_cons_succ, List.getElem_toArray, List.getElem_cons_zero, List.getElem_cons_succ]
                    refine wpAnyH_ready (rs := [63, 64]) (by kernel_rfl) (by simp) ?_
                    refine AllReadyH.cons rfl (fun K hK => ?_) (AllReadyH.cons rfl (fun K hK => ?_) AllReadyH.nil)
                    · go_simp
                      refine (WHo.out _ y15).mono ?_
                      clear y0 y1 y2 y3 y4 y5 y6 y7 y8 y9 y10 y11 y12 y13 y14 y15
                      rintro e w' ⟨HA', hxc, rfl, xi, xb, y0, y1, y2, y3, y4, y5, y6, y7, y8, y9, y10, y11, y12, y13, y14, y15⟩
                      clear hHeld
                      refine hK.out _ _ ⟨y0, y1, y2, y3, y4, y5, y6, y7, y8, y9, y10, y11, y12, y13, y14, y15⟩ (fun hHeld => ?_)
                      clear hK K
                      try simp only [Act.put, List.setIfInBounds_toArray, List.set_cons_zero, List.set_cons_succ]
                      refine wpAnyH_ready (rs := [64]) (by kernel_rfl) (by simp) ?_
                      refine AllReadyH.cons rfl (fun K hK => ?_) AllReadyH.nil
                      go_simp
                      clear hHeld
                      refine hK.out _ _ (HALL.out _ (bal y15)) (fun hHeld => ?_)
                      clear hK K
                      try simp only [Act.put, List.setIfInBounds_toArray, List.set_cons_zero, List.set_cons_succ]
                      refine wpAnyH_ready (rs := [65]) (by kernel_rfl) (by simp) ?_
                      refine AllReadyH.cons rfl (fun K hK => ?_) AllReadyH.nil
                      go_simp
                      refine (WIn.out _ _ _ _ _ (bal y15) (xi.on (below_alloc _ _)) (LI.out _)).mono ?_
                      clear y0 y1 y2 y3 y4 y5 y6 y7 y8 y9 y10 y11 y12 y13 y14 y15
                      rintro e w' ⟨rfl, y0, y1, y2, y3, y4, y5, y6, y7, y8, y9, y10, y11, y12, y13, y14, y15⟩
                      clear hHeld
                      refine hK.out _ _ ⟨y0, y1, y2, y3, y4, y5, y6, y7, y8, y9, y10, y11, y12, y13, y14, y15⟩ (fun hHeld => ?_)
                      clear hK K
                      try simp only [Act.put, List.setIfInBounds_toArray, List.set_cons_zero, List.set_cons_succ]
                      as_aux_lemma =>
                        refine wpAnyH_take (i := 66) (v := .bool true) rfl (by kernel_rfl) (by kernel_rfl) (by kernel_rfl) (fun _ _ _ h => h) (Or.inl ⟨by kernel_rfl, fun w _ => by kernel_rfl⟩) hHeld ?_
                        simp only [Act.put, List.setIfInBounds_toArray, List.set_cons_zero, List.set_cons_succ, List.getElem_toArray, List.getElem_cons_zero, List.getElem_cons_succ]
                        refine wpAnyH_take (i := 67) (v := .bool true) rfl (by kernel_rfl) (by kernel_rfl) (by kernel_rfl) (fun _ _ _ h => h) (Or.inl ⟨by kernel_rfl, fun w _ => by kernel_rfl⟩) hHeld ?_
                        simp only [Act.put, List.setIfInBounds_toArray, List.set_cons_zero, List.set_cons_succ, List.getElem_toArray, List.getElem_cons_zero, List.getElem_cons_succ]
                        refine wpAnyH_take (i := 68) (v := ?_) rfl (by kernel_rfl) (by kernel_rfl) (by kernel_rfl) (fun _ _ _ h => h) (Or.inl ⟨by rfl, ?_⟩) hHeld ?_
                        rotate_left
                        · intro w hSw; go_split_ands; go_simp; try with_reducible rfl
                        simp only [Act.put, List.setIfInBounds_toArray, List.set_cons_zero, List.set_cons_succ, List.getElem_toArray, List.getElem_cons_zero, List.getElem_cons_succ]
                        refine wpAnyH_take (i := 69) (v := ?_) rfl (by kernel_rfl) (by kernel_rfl) (by kernel_rfl) (fun _ _ _ h => h) (Or.inl ⟨by rfl, ?_⟩) hHeld ?_
                        rotate_left
                        · intro w hSw; go_split_ands; go_simp; try with_reducible rfl
                        simp only [Act.put, List.setIfInBounds_toArray, List.set_cons_zero, List.set_cons_succ, List.getElem_toArray, List.getElem_cons_zero, List.getElem_cons_succ]
                        refine wpAnyH_take (i := 70) (v := ?_) rfl (by kernel_rfl) (by kernel_rfl) (by kernel_rfl) (fun _ _ _ h => h) (Or.inl ⟨by rfl, ?_⟩) hHeld ?_
                        rotate_left
                        · intro w hSw; go_split_ands; go_simp; try with_reducible rfl
                        simp only [Act.put, List.setIfInBounds_toArray, List.set_cons_zero, List.set_cons_succ, List.getElem_toArray, List.getElem_cons_zero, List.getElem_cons_succ]
                        refine wpAnyH_take (i := 71) (v := .bool true) rfl (by kernel_rfl) (by kernel_rfl) (by kernel_rfl) (fun _ _ _ h => h) (Or.inl ⟨by kernel_rfl, fun w _ => by kernel_rfl⟩) hHeld ?_
                        simp only [Act.put, List.setIfInBounds_toArray, List.set_cons_zero, List.set_cons_succ, List.getElem_toArray, List.getElem_cons_zero, List.getElem_cons_succ]
                        refine wpAnyH_take (i := 72) (v := .bool true) rfl (by kernel_rfl) (by kernel_rfl) (by kernel_rfl) (fun _ _ _ h => h) (Or.inl ⟨by kernel_rfl, fun w _ => by kernel_rfl⟩) hHeld ?_
                        simp only [Act.put, List.setIfInBounds_toArray, List.set_cons_zero, List.set_cons_succ, List.getElem_toArray, List.getElem_cons_zero, List.getElem_cons_succ]
                        refine wpAnyH_take (i := 73) (v := .bool true) rfl (by kernel_rfl) (by kernel_rfl) (by kernel_rfl) (fun _ _ _ h => h) (Or.inl ⟨by kernel_rfl, fun w _ => by kernel_rfl⟩) hHeld ?_
                        simp only [Act.put, List.setIfInBounds_toArray, List.set_cons_zero, List.set_cons_succ, List.getElem_toArray, List.getElem_cons_zero, List.getElem_cons_succ]
                        refine wpAnyH_take (i := 74) (v := ?_) rfl (by kernel_rfl) (by kernel_rfl) (by kernel_rfl) (fun _ _ _ h => h) (Or.inl ⟨by rfl, ?_⟩) hHeld ?_
                        rotate_left
                        · intro w hSw; go_split_ands; go_simp; try with_reducible rfl
                        simp only [Act.put, List.setIfInBounds_toArray, List.set_cons_zero, List.set_cons_succ, List.getElem_toArray, List.getElem_cons_zero, List.getElem_cons_succ]
                        refine wpAnyH_take (i := 75) (v := ?_) rfl (by kernel_rfl) (by kernel_rfl) (by kernel_rfl) (fun _ _ _ h => h) (Or.inl ⟨by rfl, ?_⟩) hHeld ?_
                        rotate_left
                        · intro w hSw; go_split_ands; go_simp; try with_reducible rfl
                        simp only [Act.put, List.setIfInBounds_toArray, List.set_cons_zero, List.set_cons_succ, List.getElem_toArray, List.getElem_cons_zero, List.getElem_cons_succ]
                        refine wpAnyH_take (i := 76) (v := ?_) rfl (by kernel_rfl) (by kernel_rfl) (by kernel_rfl) (fun _ _ _ h => h) (Or.inl ⟨by rfl, ?_⟩) hHeld ?_
                        rotate_left
                        · intro w hSw; go_split_ands; go_simp; try with_reducible rfl
                        simp only [Act.put, List.setIfInBounds_toArray, List.set_cons_zero, List.set_cons_succ, List.getElem_toArray, List.getElem_cons_zero, List.getElem_cons_succ]
                        refine wpAnyH_take (i := 77) (v := ?_) rfl (by kernel_rfl) (by kernel_rfl) (by kernel_rfl) (fun _ _ _ h => h) (Or.inl ⟨by rfl, ?_⟩) hHeld ?_
                        rotate_left
                        · intro w hSw; go_split_ands; go_simp; try with_reducible rfl
                        simp only [Act.put, List.setIfInBounds_toArray, List.set_cons_zero, List.set_cons_succ, List.getElem_toArray, List.getElem_cons_zero, List.getElem_cons_succ]
                        refine wpAnyH_take (i := 78) (v := .bool true) rfl (by kernel_rfl) (by kernel_rfl) (by kernel_rfl) (fun _ _ _ h => h) (Or.inl ⟨by kernel_rfl, fun w _ => by kernel_rfl⟩) hHeld ?_
                        simp only [Act.put, List.setIfInBounds_toArray, List.set_cons_zero, List.set_cons_succ, List.getElem_toArray, List.getElem_cons_zero, List.getElem_cons_succ]
                        refine wpAnyH_take (i := 79) (v := .bool true) rfl (by kernel_rfl) (by kernel_rfl) (by kernel_rfl) (fun _ _ _ h => h) (Or.inl ⟨by kernel_rfl, fun w _ => by kernel_rfl⟩) hHeld ?_
                        simp only [Act.put, List.setIfInBounds_toArray, List.set_cons_zero, List.set_cons_succ, List.getElem_toArray, List.getElem_cons_zero, List.getElem_cons_succ]
                        refine wpAnyH_take (i := 80) (v := .bool true) rfl (by kernel_rfl) (by kernel_rfl) (by kernel_rfl) (fun _ _ _ h => h) (Or.inl ⟨by kernel_rfl, fun w _ => by kernel_rfl⟩) hHeld ?_
                        simp only [Act.put, List.setIfInBounds_toArray, List.set_cons_zero, List.set_cons_succ, List.getElem_toArray, List.getElem_cons_zero, List.getElem_cons_succ]
                        refine wpAnyH_take (i := 81) (v := ?_) rfl (by kernel_rfl) (by kernel_rfl) (by kernel_rfl) (fun _ _ _ h => h) (Or.inl ⟨by rfl, ?_⟩) hHeld ?_
                        rotate_left
                        · intro w hSw; go_split_ands; go_simp; try with_reducible rfl
                        simp only [Act.put, List.setIfInBounds_toArray, List.set_cons_zero, List.set_cons_succ, List.getElem_toArray, List.getElem_cons_zero, List.getElem_cons_succ]
                        refine wpAnyH_take (i := 82) (v := ?_) rfl (by kernel_rfl) (by kernel_rfl) (by kernel_rfl) (fun _ _ _ h => h) (Or.inl ⟨by rfl, ?_⟩) hHeld ?_
                        rotate_left
                        · intro w hSw; go_split_ands; go_simp; try with_reducible rfl
                        simp only [Act.put, List.setIfInBounds_toArray, List.set_cons_zero, List.set_cons_succ, List.getElem_toArray, List.getElem_cons_zero, List.getElem_cons_succ]
                        refine wpAnyH_take (i := 83) (v := ?_) rfl (by kernel_rfl) (by kernel_rfl) (by kernel_rfl) (fun _ _ _ h => h) (Or.inl ⟨by rfl, ?_⟩) hHeld ?_
                        rotate_left
                        · intro w hSw; go_split_ands; go_simp; try with_reducible rfl
                        simp only [Act.put, List.setIfInBounds_toArray, List.set_cons_zero, List.set_cons_succ, List.getElem_toArray, List.getElem_cons_zero, List.getElem_cons_succ]
                        refine wpAnyH_take (i := 84) (v := ?_) rfl (by kernel_rfl) (by kernel_rfl) (by kernel_rfl) (fun _ _ _ h => h) (Or.inl ⟨by rfl, ?_⟩) hHeld ?_
                        rotate_left
                        · intro w hSw; go_split_ands; go_simp; try with_reducible rfl
                        simp only [Act.put, List.setIfInBounds_toArray, List.set_cons_zero, List.set_cons_succ, List.getElem_toArray, List.getElem_cons_zero, List.getElem_cons_succ]
                        refine wpAnyH_take (i := 85) (v := .bool true) rfl (by kernel_rfl) (by kernel_rfl) (by kernel_rfl) (fun _ _ _ h => h) (Or.inl ⟨by kernel_rfl, fun w _ => by kernel_rfl⟩) hHeld ?_
                        simp only [Act.put, List.setIfInBounds_toArray, List.set_cons_zero, List.set_cons_succ, List.getElem_toArray, List.getElem_cons_zero, List.getElem_cons_succ]
                        refine wpAnyH_take (i := 86) (v := .bool true) rfl (by kernel_rfl) (by kernel_rfl) (by kernel_rfl) (fun _ _ _ h => h) (Or.inl ⟨by kernel_rfl, fun w _ => by kernel_rfl⟩) hHeld ?_
                        simp only [Act.put, List.setIfInBounds_toArray, List.set_cons_zero, List.set_cons_succ, List.getElem_toArray, List.getElem_cons_zero, List.getElem_cons_succ]
                        refine wpAnyH_take (i := 87) (v := .bool true) rfl (by kernel_rfl) (by kernel_rfl) (by kernel_rfl) (fun _ _ _ h => h) (Or.inl ⟨by kernel_rfl, fun w _ => by kernel_rfl⟩) hHeld ?_
                        simp only [Act.put, List.setIfInBounds_toArray, List.set_cons_zero, List.set_cons_succ, List.getElem_toArray, List.getElem_cons_zero, List.getElem_cons_succ]
                        refine wpAnyH_take (i := 88) (v := ?_) rfl (by kernel_rfl) (by kernel_rfl) (by kernel_rfl) (fun _ _ _ h => h) (Or.inl ⟨by rfl, ?_⟩) hHeld ?_
                        rotate_left
                        · intro w hSw; go_split_ands; go_simp; try with_reducible rfl
                        simp only [Act.put, List.setIfInBounds_toArray, List.set_cons_zero, List.set_cons_succ, List.getElem_toArray, List.getElem_cons_zero, List.getElem_cons_succ]
                        refine wpAnyH_take (i := 89) (v := ?_) rfl (by kernel_rfl) (by kernel_rfl) (by kernel_rfl) (fun _ _ _ h => h) (Or.inl ⟨by rfl, ?_⟩) hHeld ?_
                        rotate_left
                        · intro w hSw; go_split_ands; go_simp; try with_reducible rfl
                        simp only [Act.put, List.setIfInBounds_toArray, List.set_cons_zero, List.set_cons_succ, List.getElem_toArray, List.getElem_cons_zero, List.getElem_cons_succ]
                        refine wpAnyH_take (i := 90) (v := ?_) rfl (by kernel_rfl) (by kernel_rfl) (by kernel_rfl) (fun _ _ _ h => h) (Or.inl ⟨by rfl, ?_⟩) hHeld ?_
                        rotate_left
                        · intro w hSw; go_split_ands; go_simp; try with_reducible rfl
                        simp only [Act.put, List.setIfInBounds_toArray, List.set_cons_zero, List.set_cons_succ, List.getElem_toArray, List.getElem_cons_zero, List.getElem_cons_succ]
                        refine wpAnyH_take (i := 91) (v := ?_) rfl (by kernel_rfl) (by kernel_rfl) (by kernel_rfl) (fun _ _ _ h => h) (Or.inl ⟨by rfl, ?_⟩) hHeld ?_
                        rotate_left
                        · intro w hSw; go_split_ands; go_simp; try with_reducible rfl
                        simp only [Act.put, List.setIfInBounds_toArray, List.set_cons_zero, List.set_cons_succ, List.getElem_toArray, List.getElem_cons_zero, List.getElem_cons_succ]
                        refine wpAnyH_take (i := 92) (v := .bool true) rfl (by kernel_rfl) (by kernel_rfl) (by kernel_rfl) (fun _ _ _ h => h) (Or.inl ⟨by kernel_rfl, fun w _ => by kernel_rfl⟩) hHeld ?_
                        simp only [Act.put, List.setIfInBounds_toArray, List.set_cons_zero, List.set_cons_succ, List.getElem_toArray, List.getElem_cons_zero, List.getElem_cons_succ]
                        refine wpAnyH_take (i := 93) (v := .bool true) rfl (by kernel_rfl) (by kernel_rfl) (by kernel_rfl) (fun _ _ _ h => h) (Or.inl ⟨by kernel_rfl, fun w _ => by kernel_rfl⟩) hHeld ?_
                        simp only [Act.put, List.setIfInBounds_toArray, List.set_cons_zero, List.set_cons_succ, List.getElem_toArray, List.getElem_cons_zero, List.getElem_cons_succ]
                        refine wpAnyH_take (i := 94) (v := .bool true) rfl (by kernel_rfl) (by kernel_rfl) (by kernel_rfl) (fun _ _ _ h => h) (Or.inl ⟨by kernel_rfl, fun w _ => by kernel_rfl⟩) hHeld ?_
                        simp only [Act.put, List.setIfInBounds_toArray, List.set_cons_zero, List.set_cons_succ, List.getElem_toArray, List.getElem_cons_zero, List.getElem_cons_succ]
                        refine wpAnyH_take (i := 95) (v := ?_) rfl (by kernel_rfl) (by kernel_rfl) (by kernel_rfl) (fun _ _ _ h => h) (Or.inl ⟨by rfl, ?_⟩) hHeld ?_
                        rotate_left
                        · intro w hSw; go_split_ands; go_simp; try with_reducible rfl
                        simp only [Act.put, List.setIfInBounds_toArray, List.set_cons_zero, List.set_cons_succ, List.getElem_toArray, List.getElem_cons_zero, List.getElem_cons_succ]
                        refine wpAnyH_take (i := 96) (v := ?_) rfl (by kernel_rfl) (by kernel_rfl) (by kernel_rfl) (fun _ _ _ h => h) (Or.inl ⟨by rfl, ?_⟩) hHeld ?_
                        rotate_left
                        · intro w hSw; go_split_ands; go_simp; try with_reducible rfl
                        simp only [Act.put, List.setIfInBounds_toArray, List.set_cons_zero, List.set_cons_succ, List.getElem_toArray, List.getElem_cons_zero, List.getElem_cons_succ]
                        refine wpAnyH_take (i := 97) (v := ?_) rfl (by kernel_rfl) (by kernel_rfl) (by kernel_rfl) (fun _ _ _ h => h) (Or.inl ⟨by rfl, ?_⟩) hHeld ?_
                        rotate_left
                        · intro w hSw; go_split_ands; go_simp; try with_reducible rfl
                        simp only [Act.put, List.setIfInBounds_toArray, List.set_cons_zero, List.set_cons_succ, List.getElem_toArray, List.getElem_cons_zero, List.getElem_cons_succ]
                        refine wpAnyH_take (i := 98) (v := ?_) rfl (by kernel_rfl) (by kernel_rfl) (by kernel_rfl) (fun _ _ _ h => h) (Or.inl ⟨by rfl, ?_⟩) hHeld ?_
                        rotate_left
                        · intro w hSw; go_split_ands; go_simp; try with_reducible rfl
                        simp only [Act.put, List.setIfInBounds_toArray, List.set_cons_zero, List.set_cons_succ, List.getElem_toArray, List.getElem_cons_zero, List.getElem_cons_succ]
                        refine wpAnyH_take (i := 99) (v := .bool true) rfl (by kernel_rfl) (by kernel_rfl) (by kernel_rfl) (fun _ _ _ h => h) (Or.inl ⟨by kernel_rfl, fun w _ => by kernel_rfl⟩) hHeld ?_
                        simp only [Act.put, List.setIfInBounds_toArray, List.set_cons_zero, List.set_cons_succ, List.getElem_toArray, List.getElem_cons_zero, List.getElem_cons_succ]
                        refine wpAnyH_take (i := 100) (v := .bool true) rfl (by kernel_rfl) (by kernel_rfl) (by kernel_rfl) (fun _ _ _ h => h) (Or.inl ⟨by kernel_rfl, fun w _ => by kernel_rfl⟩) hHeld ?_
                        simp only [Act.put, List.setIfInBounds_toArray, List.set_cons_zero, List.set_cons_succ, List.getElem_toArray, List.getElem_cons_zero, List.getElem_cons_succ]
                        refine wpAnyH_take (i := 101) (v := .bool true) rfl (by kernel_rfl) (by kernel_rfl) (by kernel_rfl) (fun _ _ _ h => h) (Or.inl ⟨by kernel_rfl, fun w _ => by kernel_rfl⟩) hHeld ?_
                        simp only [Act.put, List.setIfInBounds_toArray, List.set_cons_zero, List.set_cons_succ, List.getElem_toArray, List.getElem_cons_zero, List.getElem_cons_succ]
                        refine wpAnyH_take (i := 102) (v := ?_) rfl (by kernel_rfl) (by kernel_rfl) (by kernel_rfl) (fun _ _ _ h => h) (Or.inl ⟨by rfl, ?_⟩) hHeld ?_
                        rotate_left
                        · intro w hSw; go_split_ands; go_simp; try with_reducible rfl
                        simp only [Act.put, List.setIfInBounds_toArray, List.set_cons_zero, List.set_cons_succ, List.getElem_toArray, List.getElem_cons_zero, List.getElem_cons_succ]
                        refine wpAnyH_ready (rs := [103]) (by kernel_rfl) (by simp) ?_
                        refine AllReadyH.cons rfl (fun K hK => ?_) AllReadyH.nil
                        go_simp
                        refine (WFo.out _ y15).mono ?_
                        clear y0 y1 y2 y3 y4 y5 y6 y7 y8 y9 y10 y11 y12 y13 y14 y15
                        rintro e w' ⟨rfl, y0, y1, y2, y3, y4, y5, y6, y7, y8, y9, y10, y11, y12, y13, y14, y15⟩
                        clear hHeld
                        refine hK.out _ _ ⟨y0, y1, y2, y3, y4, y5, y6, y7, y8, y9, y10, y11, y12, y13, y14, y15⟩ (fun hHeld => ?_)
                        clear hK K
                        try simp only [Act.put, List.setIfInBounds_toArray, List.set_cons_zero, List.set_cons_succ]
                        as_aux_lemma =>
                          refine wpAnyH_take (i := 104) (v := .bool true) rfl (by kernel_rfl) (by kernel_rfl) (by kernel_rfl) (fun _ _ _ h => h) (Or.inl ⟨by kernel_rfl, fun w _ => by kernel_rfl⟩) hHeld ?_
                          simp only [Act.put, List.setIfInBounds_toArray, List.set_cons_zero, List.set_cons_succ, List.getElem_toArray, List.getElem_cons_zero, List.getElem_cons_succ]
                          refine wpAnyH_take (i := 105) (v := .bool true) rfl (by kernel_rfl) (by kernel_rfl) (by kernel_rfl) (fun _ _ _ h => h) (Or.inl ⟨by kernel_rfl, fun w _ => by kernel_rfl⟩) hHeld ?_
                          simp only [Act.put, List.setIfInBounds_toArray, List.set_cons_zero, List.set_cons_succ, List.getElem_toArray, List.getElem_cons_zero, List.getElem_cons_succ]
                          refine wpAnyH_take (i := 106) (v := ?_) rfl (by kernel_rfl) (by kernel_rfl) (by kernel_rfl) (fun _ _ _ h => h) (Or.inl ⟨by rfl, ?_⟩) hHeld ?_
                          rotate_left
                          · intro w hSw; go_split_ands; go_simp; try with_reducible rfl
                          simp only [Act.put, List.setIfInBounds_toArray, List.set_cons_zero, List.set_cons_succ, List.getElem_toArray, List.getElem_cons_zero, List.getElem_cons_succ]
                          refine wpAnyH_ready (rs := [107]) (by kernel_rfl) (by simp) ?_
                          refine AllReadyH.cons rfl (fun K hK => ?_) AllReadyH.nil
                          go_simp
                          refine (WI1.out _ y15).mono ?_
                          clear y0 y1 y2 y3 y4 y5 y6 y7 y8 y9 y10 y11 y12 y13 y14 y15
                          rintro e w' ⟨rfl, y0, y1, y2, y3, y4, y5, y6, y7, y8, y9, y10, y11, y12, y13, y14, y15⟩
                          clear hHeld
                          refine hK.out _ _ ⟨y0, y1, y2, y3, y4, y5, y6, y7, y8, y9, y10, y11, y12, y13, y14, y15⟩ (fun hHeld => ?_)
                          clear hK K
                          try simp only [Act.put, List.setIfInBounds_toArray, List.set_cons_zero, List.set_cons_succ]
                          refine wpAnyH_take (i := 108) (v := .bool true) rfl (by kernel_rfl) (by kernel_rfl) (by kernel_rfl) (fun _ _ _ h => h) (Or.inl ⟨by kernel_rfl, fun w _ => by kernel_rfl⟩) hHeld ?_
                          simp only [Act.put, List.setIfInBounds_toArray, List.set_cons_zero, List.set_cons_succ, List.getElem_toArray, List.getElem_cons_zero, List.getElem_cons_succ]
                          refine wpAnyH_take (i := 109) (v := .bool true) rfl (by kernel_rfl) (by kernel_rfl) (by kernel_rfl) (fun _ _ _ h => h) (Or.inl ⟨by kernel_rfl, fun w _ => by kernel_rfl⟩) hHeld ?_
                          simp only [Act.put, List.setIfInBounds_toArray, List.set_cons_zero, List.set_cons_succ, List.getElem_toArray, List.getElem_cons_zero, List.getElem_cons_succ]
                          refine wpAnyH_take (i := 110) (v := ?_) rfl (by kernel_rfl) (by kernel_rfl) (by kernel_rfl) (fun _ _ _ h => h) (Or.inl ⟨by rfl, ?_⟩) hHeld ?_
                          rotate_left
                          · intro w hSw; go_split_ands; go_simp; try with_reducible rfl
                          simp only [Act.put, List.setIfInBounds_toArray, List.set_cons_zero, List.set_cons_succ, List.getElem_toArray, List.getElem_cons_zero, List.getElem_cons_succ]
                          refine wpAnyH_ready (rs := [111]) (by kernel_rfl) (by simp) ?_
                          refine AllReadyH.cons rfl (fun K hK => ?_) AllReadyH.nil
                          go_simp
                          refine (WI2.out _ y15).mono ?_
                          clear y0 y1 y2 y3 y4 y5 y6 y7 y8 y9 y10 y11 y12 y13 y14 y15
                          rintro e w' ⟨rfl, y0, y1, y2, y3, y4, y5, y6, y7, y8, y9, y10, y11, y12, y13, y14, y15⟩
                          clear hHeld
                          refine hK.out _ _ ⟨y0, y1, y2, y3, y4, y5, y6, y7, y8, y9, y10, y11, y12, y13, y14, y15⟩ (fun hHeld => ?_)
                          clear hK K
                          try simp only [Act.put, List.setIfInBounds_toArray, List.set_cons_zero, List.set_cons_succ]
                          as_aux_lemma =>
                            refine wpAnyH_take (i := 112) (v := .bool true) rfl (by kernel_rfl) (by kernel_rfl) (by kernel_rfl) (fun _ _ _ h => h) (Or.inl ⟨by kernel_rfl, fun w _ => by kernel_rfl⟩) hHeld ?_
                            simp only [Act.put, List.setIfInBounds_toArray, List.set_cons_zero, List.set_cons_succ, List.getElem_toArray, List.getElem_cons_zero, List.getElem_cons_succ]
                            refine wpAnyH_take (i := 113) (v := .bool true) rfl (by kernel_rfl) (by kernel_rfl) (by kernel_rfl) (fun _ _ _ h => h) (Or.inl ⟨by kernel_rfl, fun w _ => by kernel_rfl⟩) hHeld ?_
                            simp only [Act.put, List.setIfInBounds_toArray, List.set_cons_zero, List.set_cons_succ, List.getElem_toArray, List.getElem_cons_zero, List.getElem_cons_succ]
                            refine wpAnyH_take (i := 114) (v := .bool true) rfl (by kernel_rfl) (by kernel_rfl) (by kernel_rfl) (fun _ _ _ h => h) (Or.inl ⟨by kernel_rfl, fun w _ => by kernel_rfl⟩) hHeld ?_
                            simp only [Act.put, List.setIfInBounds_toArray, List.set_cons_zero, List.set_cons_succ, List.getElem_toArray, List.getElem_cons_zero, List.getElem_cons_succ]
                            refine wpAnyH_take (i := 115) (v := ?_) rfl (by kernel_rfl) (by kernel_rfl) (by kernel_rfl) (fun _ _ _ h => h) (Or.inl ⟨by rfl, ?_⟩) hHeld ?_
                            rotate_left
                            · intro w hSw; go_split_ands; go_simp; try with_reducible rfl
                            simp only [Act.put, List.setIfInBounds_toArray, List.set_cons_zero, List.set_cons_succ, List.getElem_toArray, List.getElem_cons_zero, List.getElem_cons_succ]
                            refine wpAnyH_ready (rs := [116]) (by kernel_rfl) (by simp) ?_
                            refine AllReadyH.cons rfl (fun K hK => ?_) AllReadyH.nil
                            go_simp
                            refine (WI3.out _ y15).mono ?_
                            clear y0 y1 y2 y3 y4 y5 y6 y7 y8 y9 y10 y11 y12 y13 y14 y15
                            rintro e w' ⟨rfl, y0, y1, y2, y3, y4, y5, y6, y7, y8, y9, y10, y11, y12, y13, y14, y15⟩
                            clear hHeld
                            refine hK.out _ _ ⟨y0, y1, y2, y3, y4, y5, y6, y7, y8, y9, y10, y11, y12, y13, y14, y15⟩ (fun hHeld => ?_)
                            clear hK K
                            try simp only [Act.put, List.setIfInBounds_toArray, List.set_cons_zero, List.set_cons_succ]
                            refine wpAnyH_take (i := 117) (v := .bool true) rfl (by kernel_rfl) (by kernel_rfl) (by kernel_rfl) (fun _ _ _ h => h) (Or.inl ⟨by kernel_rfl, fun w _ => by kernel_rfl⟩) hHeld ?_
                            simp only [Act.put, List.setIfInBounds_toArray, List.set_cons_zero, List.set_cons_succ, List.getElem_toArray, List.getElem_cons_zero, List.getElem_cons_succ]
                            refine wpAnyH_take (i := 118) (v := .bool true) rfl (by kernel_rfl) (by kernel_rfl) (by kernel_rfl) (fun _ _ _ h => h) (Or.inl ⟨by kernel_rfl, fun w _ => by kernel_rfl⟩) hHeld ?_
                            simp only [Act.put, List.setIfInBounds_toArray, List.set_cons_zero, List.set_cons_succ, List.getElem_toArray, List.getElem_cons_zero, List.getElem_cons_succ]
                            refine wpAnyH_take (i := 119) (v := ?_) rfl (by kernel_rfl) (by kernel_rfl) (by kernel_rfl) (fun _ _ _ h => h) (Or.inl ⟨by rfl, ?_⟩) hHeld ?_
                            rotate_left
                            · intro w hSw; go_split_ands; go_simp; try with_reducible rfl
                            simp only [Act.put, List.setIfInBounds_toArray, List.set_cons_zero, List.set_cons_succ, List.getElem_toArray, List.getElem_cons_zero, List.getElem_cons_succ]
                            refine wpAnyH_ready (rs := [120]) (by kernel_rfl) (by simp) ?_
                            refine AllReadyH.cons rfl (fun K hK => ?_) AllReadyH.nil
                            go_simp
                            refine (WI4.out _ y15).mono ?_
                            clear y0 y1 y2 y3 y4 y5 y6 y7 y8 y9 y10 y11 y12 y13 y14 y15
                            rintro e w' ⟨rfl, y0, y1, y2, y3, y4, y5, y6, y7, y8, y9, y10, y11, y12, y13, y14, y15⟩
                            clear hHeld
                            refine hK.out _ _ ⟨y0, y1, y2, y3, y4, y5, y6, y7, y8, y9, y10, y11, y12, y13, y14, y15⟩ (fun hHeld => ?_)
                            clear hK K
                            try simp only [Act.put, List.setIfInBounds_toArray, List.set_cons_zero, List.set_cons_succ]
                            refine wpAnyH_take (i := 121) (v := .bool true) rfl (by kernel_rfl) (by kernel_rfl) (by kernel_rfl) (fun _ _ _ h => h) (Or.inl ⟨by kernel_rfl, fun w _ => by kernel_rfl⟩) hHeld ?_
                            simp only [Act.put, List.setIfInBounds_toArray, List.set_cons_zero, List.set_cons_succ, List.getElem_toArray, List.getElem_cons_zero, List.getElem_cons_succ]
                            refine wpAnyH_take (i := 122) (v := .bool true) rfl (by kernel_rfl) (by kernel_rfl) (by kernel_rfl) (fun _ _ _ h => h) (Or.inl ⟨by kernel_rfl, fun w _ => by kernel_rfl⟩) hHeld ?_
                            simp only [Act.put, List.setIfInBounds_toArray, List.set_cons_zero, List.set_cons_succ, List.getElem_toArray, List.getElem_cons_zero, List.getElem_cons_succ]
                            refine wpAnyH_take (i := 123) (v := .bool true) rfl (by kernel_rfl) (by kernel_rfl) (by kernel_rfl) (fun _ _ _ h => h) (Or.inl ⟨by kernel_rfl, fun w _ => by kernel_rfl⟩) hHeld ?_
                            simp only [Act.put, List.setIfInBounds_toArray, List.set_cons_zero, List.getElem_toArray, List.getElem_cons_zero, List.getElem_cons_succ]
                            refine wpAnyH_done (by kernel_rfl) ?_ _
                            go_wp2
                            go_ret
                            exact ⟨rfl, HBMX.out _ y15⟩
                    · go_simp
                      clear hHeld
                      refine hK.out _ _ (HALL.out _ (bal y15)) (fun hHeld => ?_)
                      clear hK K
                      try simp only [Act.put, List.setIfInBounds_toArray, List.set_cons_zero, List.set_cons_succ]
                      refine wpAnyH_ready (rs := [63]) (by kernel_rfl) (by simp) ?_
                      refine AllReadyH.cons rfl (fun K hK => ?_) AllReadyH.nil
                      go_simp
                      refine (WHo.out _ (bal y15)).mono ?_
                      clear y0 y1 y2 y3 y4 y5 y6 y7 y8 y9 y10 y11 y12 y13 y14 y15
                      rintro e w' ⟨HA', hxc, rfl, xi, xb, y0, y1, y2, y3, y4, y5, y6, y7, y8, y9, y10, y11, y12, y13, y14, y15⟩
                      clear hHeld
                      refine hK.out _ _ ⟨y0, y1, y2, y3, y4, y5, y6, y7, y8, y9, y10, y11, y12, y13, y14, y15⟩ (fun hHeld => ?_)
                      clear hK K
                      try simp only [Act.put, List.setIfInBounds_toArray, List.set_cons_zero, List.set_cons_succ]
                      refine wpAnyH_ready (rs := [65]) (by kernel_rfl) (by simp) ?_
                      refine AllReadyH.cons rfl (fun K hK => ?_) AllReadyH.nil
                      go_simp
                      refine (WIn.out _ _ _ _ _ y15 xi ((LI.out _).on xb)).mono ?_
                      clear y0 y1 y2 y3 y4 y5 y6 y7 y8 y9 y10 y11 y12 y13 y14 y15
                      rintro e w' ⟨rfl, y0, y1, y2, y3, y4, y5, y6, y7, y8, y9, y10, y11, y12, y13, y14, y15⟩
                      clear hHeld
                      refine hK.out _ _ ⟨y0, y1, y2, y3, y4, y5, y6, y7, y8, y9, y10, y11, y12, y13, y14, y15⟩ (fun hHeld => ?_)
                      clear hK K
                      try simp only [Act.put, List.setIfInBounds_toArray, List.set_cons_zero, List.set_cons_succ]
                      as_aux_lemma =>
                        refine wpAnyH_take (i := 66) (v := .bool true) rfl (by kernel_rfl) (by kernel_rfl) (by kernel_rfl) (fun _ _ _ h => h) (Or.inl ⟨by kernel_rfl, fun w _ => by kernel_rfl⟩) hHeld ?_
                        simp only [Act.put, List.setIfInBounds_toArray, List.set_cons_zero, List.set_cons_succ, List.getElem_toArray, List.getElem_cons_zero, List.getElem_cons_succ]
                        refine wpAnyH_take (i := 67) (v := .bool true) rfl (by kernel_rfl) (by kernel_rfl) (by kernel_rfl) (fun _ _ _ h => h) (Or.inl ⟨by kernel_rfl, fun w _ => by kernel_rfl⟩) hHeld ?_
                        simp only [Act.put, List.setIfInBounds_toArray, List.set_cons_zero, List.set_cons_succ, List.getElem_toArray, List.getElem_cons_zero, List.getElem_cons_succ]
                        refine wpAnyH_take (i := 68) (v := ?_) rfl (by kernel_rfl) (by kernel_rfl) (by kernel_rfl) (fun _ _ _ h => h) (Or.inl ⟨by rfl, ?_⟩) hHeld ?_
                        rotate_left
                        · intro w hSw; go_split_ands; go_simp; try with_reducible rfl
                        simp only [Act.put, List.setIfInBounds_toArray, List.set_cons_zero, List.set_cons_succ, List.getElem_toArray, List.getElem_cons_zero, List.getElem_cons_succ]
                        refine wpAnyH_take (i := 69) (v := ?_) rfl (by kernel_rfl) (by kernel_rfl) (by kernel_rfl) (fun _ _ _ h => h) (Or.inl ⟨by rfl, ?_⟩) hHeld ?_
                        rotate_left
                        · intro w hSw; go_split_ands; go_simp; try with_reducible rfl
                        simp only [Act.put, List.setIfInBounds_toArray, List.set_cons_zero, List.set_cons_succ, List.getElem_toArray, List.getElem_cons_zero, List.getElem_cons_succ]
                        refine wpAnyH_take (i := 70) (v := ?_) rfl (by kernel_rfl) (by kernel_rfl) (by kernel_rfl) (fun _ _ _ h => h) (Or.inl ⟨by rfl, ?_⟩) hHeld ?_
                        rotate_left
                        · intro w hSw; go_split_ands; go_simp; try with_reducible rfl
                        simp only [Act.put, List.setIfInBounds_toArray, List.set_cons_zero, List.set_cons_succ, List.getElem_toArray, List.getElem_cons_zero, List.getElem_cons_succ]
                        refine wpAnyH_take (i := 71) (v := .bool true) rfl (by kernel_rfl) (by kernel_rfl) (by kernel_rfl) (fun _ _ _ h => h) (Or.inl ⟨by kernel_rfl, fun w _ => by kernel_rfl⟩) hHeld ?_
                        simp only [Act.put, List.setIfInBounds_toArray, List.set_cons_zero, List.set_cons_succ, List.getElem_toArray, List.getElem_cons_zero, List.getElem_cons_succ]
                        refine wpAnyH_take (i := 72) (v := .bool true) rfl (by kernel_rfl) (by kernel_rfl) (by kernel_rfl) (fun _ _ _ h => h) (Or.inl ⟨by kernel_rfl, fun w _ => by kernel_rfl⟩) hHeld ?_
                        simp only [Act.put, List.setIfInBounds_toArray, List.set_cons_zero, List.set_cons_succ, List.getElem_toArray, List.getElem_cons_zero, List.getElem_cons_succ]
                        refine wpAnyH_take (i := 73) (v := .bool true) rfl (by kernel_rfl) (by kernel_rfl) (by kernel_rfl) (fun _ _ _ h => h) (Or.inl ⟨by kernel_rfl, fun w _ => by kernel_rfl⟩) hHeld ?_
                        simp only [Act.put, List.setIfInBounds_toArray, List.set_cons_zero, List.set_cons_succ, List.getElem_toArray, List.getElem_cons_zero, List.getElem_cons_succ]
                        refine wpAnyH_take (i := 74) (v := ?_) rfl (by kernel_rfl) (by kernel_rfl) (by kernel_rfl) (fun _ _ _ h => h) (Or.inl ⟨by rfl, ?_⟩) hHeld ?_
                        rotate_left
                        · intro w hSw; go_split_ands; go_simp; try with_reducible rfl
                        simp only [Act.put, List.setIfInBounds_toArray, List.set_cons_zero, List.set_cons_succ, List.getElem_toArray, List.getElem_cons_zero, List.getElem_cons_succ]
                        refine wpAnyH_take (i := 75) (v := ?_) rfl (by kernel_rfl) (by kernel_rfl) (by kernel_rfl) (fun _ _ _ h => h) (Or.inl ⟨by rfl, ?_⟩) hHeld ?_
                        rotate_left
                        · intro w hSw; go_split_ands; go_simp; try with_reducible rfl
                        simp only [Act.put, List.setIfInBounds_toArray, List.set_cons_zero, List.set_cons_succ, List.getElem_toArray, List.getElem_cons_zero, List.getElem_cons_succ]
                        refine wpAnyH_take (i := 76) (v := ?_) rfl (by kernel_rfl) (by kernel_rfl) (by kernel_rfl) (fun _ _ _ h => h) (Or.inl ⟨by rfl, ?_⟩) hHeld ?_
                        rotate_left
                        · intro w hSw; go_split_ands; go_simp; try with_reducible rfl
                        simp only [Act.put, List.setIfInBounds_toArray, List.set_cons_zero, List.set_cons_succ, List.getElem_toArray, List.getElem_cons_zero, List.getElem_cons_succ]
                        refine wpAnyH_take (i := 77) (v := ?_) rfl (by kernel_rfl) (by kernel_rfl) (by kernel_rfl) (fun _ _ _ h => h) (Or.inl ⟨by rfl, ?_⟩) hHeld ?_
                        rotate_left
                        · intro w hSw; go_split_ands; go_simp; try with_reducible rfl
                        simp only [Act.put, List.setIfInBounds_toArray, List.set_cons_zero, List.set_cons_succ, List.getElem_toArray, List.getElem_cons_zero, List.getElem_cons_succ]
                        refine wpAnyH_take (i := 78) (v := .bool true) rfl (by kernel_rfl) (by kernel_rfl) (by kernel_rfl) (fun _ _ _ h => h) (Or.inl ⟨by kernel_rfl, fun w _ => by kernel_rfl⟩) hHeld ?_
                        simp only [Act.put, List.setIfInBounds_toArray, List.set_cons_zero, List.set_cons_succ, List.getElem_toArray, List.getElem_cons_zero, List.getElem_cons_succ]
                        refine wpAnyH_take (i := 79) (v := .bool true) rfl (by kernel_rfl) (by kernel_rfl) (by kernel_rfl) (fun _ _ _ h => h) (Or.inl ⟨by kernel_rfl, fun w _ => by kernel_rfl⟩) hHeld ?_
                        simp only [Act.put, List.setIfInBounds_toArray, List.set_cons_zero, List.set_cons_succ, List.getElem_toArray, List.getElem_cons_zero, List.getElem_cons_succ]
                        refine wpAnyH_take (i := 80) (v := .bool true) rfl (by kernel_rfl) (by kernel_rfl) (by kernel_rfl) (fun _ _ _ h => h) (Or.inl ⟨by kernel_rfl, fun w _ => by kernel_rfl⟩) hHeld ?_
                        simp only [Act.put, List.setIfInBounds_toArray, List.set_cons_zero, List.set_cons_succ, List.getElem_toArray, List.getElem_cons_zero, List.getElem_cons_succ]
                        refine wpAnyH_take (i := 81) (v := ?_) rfl (by kernel_rfl) (by kernel_rfl) (by kernel_rfl) (fun _ _ _ h => h) (Or.inl ⟨by rfl, ?_⟩) hHeld ?_
                        rotate_left
                        · intro w hSw; go_split_ands; go_simp; try with_reducible rfl
                        simp only [Act.put, List.setIfInBounds_toArray, List.set_cons_zero, List.set_cons_succ, List.getElem_toArray, List.getElem_cons_zero, List.getElem_cons_succ]
                        refine wpAnyH_take (i := 82) (v := ?_) rfl (by kernel_rfl) (by kernel_rfl) (by kernel_rfl) (fun _ _ _ h => h) (Or.inl ⟨by rfl, ?_⟩) hHeld ?_
                        rotate_left
                        · intro w hSw; go_split_ands; go_simp; try with_reducible rfl
                        simp only [Act.put, List.setIfInBounds_toArray, List.set_cons_zero, List.set_cons_succ, List.getElem_toArray, List.getElem_cons_zero, List.getElem_cons_succ]
                        refine wpAnyH_take (i := 83) (v := ?_) rfl (by kernel_rfl) (by kernel_rfl) (by kernel_rfl) (fun _ _ _ h => h) (Or.inl ⟨by rfl, ?_⟩) hHeld ?_
                        rotate_left
                        · intro w hSw; go_split_ands; go_simp; try with_reducible rfl
                        simp only [Act.put, List.setIfInBounds_toArray, List.set_cons_zero, List.set_cons_succ, List.getElem_toArray, List.getElem_cons_zero, List.getElem_cons_succ]
                        refine wpAnyH_take (i := 84) (v := ?_) rfl (by kernel_rfl) (by kernel_rfl) (by kernel_rfl) (fun _ _ _ h => h) (Or.inl ⟨by rfl, ?_⟩) hHeld ?_
                        rotate_left
                        · intro w hSw; go_split_ands; go_simp; try with_reducible rfl
                        simp only [Act.put, List.setIfInBounds_toArray, List.set_cons_zero, List.set_cons_succ, List.getElem_toArray, List.getElem_cons_zero, List.getElem_cons_succ]
                        refine wpAnyH_take (i := 85) (v := .bool true) rfl (by kernel_rfl) (by kernel_rfl) (by kernel_rfl) (fun _ _ _ h => h) (Or.inl ⟨by kernel_rfl, fun w _ => by kernel_rfl⟩) hHeld ?_
                        simp only [Act.put, List.setIfInBounds_toArray, List.set_cons_zero, List.set_cons_succ, List.getElem_toArray, List.getElem_cons_zero, List.getElem_cons_succ]
                        refine wpAnyH_take (i := 86) (v := .bool true) rfl (by kernel_rfl) (by kernel_rfl) (by kernel_rfl) (fun _ _ _ h => h) (Or.inl ⟨by kernel_rfl, fun w _ => by kernel_rfl⟩) hHeld ?_
                        simp only [Act.put, List.setIfInBounds_toArray, List.set_cons_zero, List.set_cons_succ, List.getElem_toArray, List.getElem_cons_zero, List.getElem_cons_succ]
                        refine wpAnyH_take (i := 87) (v := .bool true) rfl (by kernel_rfl) (by kernel_rfl) (by kernel_rfl) (fun _ _ _ h => h) (Or.inl ⟨by kernel_rfl, fun w _ => by kernel_rfl⟩) hHeld ?_
                        simp only [Act.put, List.setIfInBounds_toArray, List.set_cons_zero, List.set_cons_succ, List.getElem_toArray, List.getElem_cons_zero, List.getElem_cons_succ]
                        refine wpAnyH_take (i := 88) (v := ?_) rfl (by kernel_rfl) (by kernel_rfl) (by kernel_rfl) (fun _ _ _ h => h) (Or.inl ⟨by rfl, ?_⟩) hHeld ?_
                        rotate_left
                        · intro w hSw; go_split_ands; go_simp; try with_reducible rfl
                        simp only [Act.put, List.setIfInBounds_toArray, List.set_cons_zero, List.set_cons_succ, List.getElem_toArray, List.getElem_cons_zero, List.getElem_cons_succ]
                        refine wpAnyH_take (i := 89) (v := ?_) rfl (by kernel_rfl) (by kernel_rfl) (by kernel_rfl) (fun _ _ _ h => h) (Or.inl ⟨by rfl, ?_⟩) hHeld ?_
                        rotate_left
                        · intro w hSw; go_split_ands; go_simp; try with_reducible rfl
                        simp only [Act.put, List.setIfInBounds_toArray, List.set_cons_zero, List.set_cons_succ, List.getElem_toArray, List.getElem_cons_zero, List.getElem_cons_succ]
                        refine wpAnyH_take (i := 90) (v := ?_) rfl (by kernel_rfl) (by kernel_rfl) (by kernel_rfl) (fun _ _ _ h => h) (Or.inl ⟨by rfl, ?_⟩) hHeld ?_
                        rotate_left
                        · intro w hSw; go_split_ands; go_simp; try with_reducible rfl
                        simp only [Act.put, List.setIfInBounds_toArray, List.set_cons_zero, List.set_cons_succ, List.getElem_toArray, List.getElem_cons_zero, List.getElem_cons_succ]
                        refine wpAnyH_take (i := 91) (v := ?_) rfl (by kernel_rfl) (by kernel_rfl) (by kernel_rfl) (fun _ _ _ h => h) (Or.inl ⟨by rfl, ?_⟩) hHeld ?_
                        rotate_left
                        · intro w hSw; go_split_ands; go_simp; try with_reducible rfl
                        simp only [Act.put, List.setIfInBounds_toArray, List.set_cons_zero, List.set_cons_succ, List.getElem_toArray, List.getElem_cons_zero, List.getElem_cons_succ]
                        refine wpAnyH_take (i := 92) (v := .bool true) rfl (by kernel_rfl) (by kernel_rfl) (by kernel_rfl) (fun _ _ _ h => h) (Or.inl ⟨by kernel_rfl, fun w _ => by kernel_rfl⟩) hHeld ?_
                        simp only [Act.put, List.setIfInBounds_toArray, List.set_cons_zero, List.set_cons_succ, List.getElem_toArray, List.getElem_cons_zero, List.getElem_cons_succ]
                        refine wpAnyH_take (i := 93) (v := .bool true) rfl (by kernel_rfl) (by kernel_rfl) (by kernel_rfl) (fun _ _ _ h => h) (Or.inl ⟨by kernel_rfl, fun w _ => by kernel_rfl⟩) hHeld ?_
                        simp only [Act.put, List.setIfInBounds_toArray, List.set_cons_zero, List.set_cons_succ, List.getElem_toArray, List.getElem_cons_zero, List.getElem_cons_succ]
                        refine wpAnyH_take (i := 94) (v := .bool true) rfl (by kernel_rfl) (by kernel_rfl) (by kernel_rfl) (fun _ _ _ h => h) (Or.inl ⟨by kernel_rfl, fun w _ => by kernel_rfl⟩) hHeld ?_
                        simp only [Act.put, List.setIfInBounds_toArray, List.set_cons_zero, List.set_cons_succ, List.getElem_toArray, List.getElem_cons_zero, List.getElem_cons_succ]
                        refine wpAnyH_take (i := 95) (v := ?_) rfl (by kernel_rfl) (by kernel_rfl) (by kernel_rfl) (fun _ _ _ h => h) (Or.inl ⟨by rfl, ?_⟩) hHeld ?_
                        rotate_left
                        · intro w hSw; go_split_ands; go_simp; try with_reducible rfl
                        simp only [Act.put, List.setIfInBounds_toArray, List.set_cons_zero, List.set_cons_succ, List.getElem_toArray, List.getElem_cons_zero, List.getElem_cons_succ]
                        refine wpAnyH_take (i := 96) (v := ?_) rfl (by kernel_rfl) (by kernel_rfl) (by kernel_rfl) (fun _ _ _ h => h) (Or.inl ⟨by rfl, ?_⟩) hHeld ?_
                        rotate_left
                        · intro w hSw; go_split_ands; go_simp; try with_reducible rfl
                        simp only [Act.put, List.setIfInBounds_toArray, List.set_cons_zero, List.set_cons_succ, List.getElem_toArray, List.getElem_cons_zero, List.getElem_cons_succ]
                        refine wpAnyH_take (i := 97) (v := ?_) rfl (by kernel_rfl) (by kernel_rfl) (by kernel_rfl) (fun _ _ _ h => h) (Or.inl ⟨by rfl, ?_⟩) hHeld ?_
                        rotate_left
                        · intro w hSw; go_split_ands; go_simp; try with_reducible rfl
                        simp only [Act.put, List.setIfInBounds_toArray, List.set_cons_zero, List.set_cons_succ, List.getElem_toArray, List.getElem_cons_zero, List.getElem_cons_succ]
                        refine wpAnyH_take (i := 98) (v := ?_) rfl (by kernel_rfl) (by kernel_rfl) (by kernel_rfl) (fun _ _ _ h => h) (Or.inl ⟨by rfl, ?_⟩) hHeld ?_
                        rotate_left
                        · intro w hSw; go_split_ands; go_simp; try with_reducible rfl
                        simp only [Act.put, List.setIfInBounds_toArray, List.set_cons_zero, List.set_cons_succ, List.getElem_toArray, List.getElem_cons_zero, List.getElem_cons_succ]
                        refine wpAnyH_take (i := 99) (v := .bool true) rfl (by kernel_rfl) (by kernel_rfl) (by kernel_rfl) (fun _ _ _ h => h) (Or.inl ⟨by kernel_rfl, fun w _ => by kernel_rfl⟩) hHeld ?_
                        simp only [Act.put, List.setIfInBounds_toArray, List.set_cons_zero, List.set_cons_succ, List.getElem_toArray, List.getElem_cons_zero, List.getElem_cons_succ]
                        refine wpAnyH_take (i := 100) (v := .bool true) rfl (by kernel_rfl) (by kernel_rfl) (by kernel_rfl) (fun _ _ _ h => h) (Or.inl ⟨by kernel_rfl, fun w _ => by kernel_rfl⟩) hHeld ?_
                        simp only [Act.put, List.setIfInBounds_toArray, List.set_cons_zero, List.set_cons_succ, List.getElem_toArray, List.getElem_cons_zero, List.getElem_cons_succ]
                        refine wpAnyH_take (i := 101) (v := .bool true) rfl (by kernel_rfl) (by kernel_rfl) (by kernel_rfl) (fun _ _ _ h => h) (Or.inl ⟨by kernel_rfl, fun w _ => by kernel_rfl⟩) hHeld ?_
                        simp only [Act.put, List.setIfInBounds_toArray, List.set_cons_zero, List.set_cons_succ, List.getElem_toArray, List.getElem_cons_zero, List.getElem_cons_succ]
                        refine wpAnyH_take (i := 102) (v := ?_) rfl (by kernel_rfl) (by kernel_rfl) (by kernel_rfl) (fun _ _ _ h => h) (Or.inl ⟨by rfl, ?_⟩) hHeld ?_
                        rotate_left
                        · intro w hSw; go_split_ands; go_simp; try with_reducible rfl
                        simp only [Act.put, List.setIfInBounds_toArray, List.set_cons_zero, List.set_cons_succ, List.getElem_toArray, List.getElem_cons_zero, List.getElem_cons_succ]
                        refine wpAnyH_ready (rs := [103]) (by kernel_rfl) (by simp) ?_
                        refine AllReadyH.cons rfl (fun K hK => ?_) AllReadyH.nil
                        go_simp
                        refine (WFo.out _ y15).mono ?_
                        clear y0 y1 y2 y3 y4 y5 y6 y7 y8 y9 y10 y11 y12 y13 y14 y15
                        rintro e w' ⟨rfl, y0, y1, y2, y3, y4, y5, y6, y7, y8, y9, y10, y11, y12, y13, y14, y15⟩
                        clear hHeld
                        refine hK.out _ _ ⟨y0, y1, y2, y3, y4, y5, y6, y7, y8, y9, y10, y11, y12, y13, y14, y15⟩ (fun hHeld => ?_)
                        clear hK K
                        try simp only [Act.put, List.setIfInBounds_toArray, List.set_cons_zero, List.set_cons_succ]
                        as_aux_lemma =>
                          refine wpAnyH_take (i := 104) (v := .bool true) rfl (by kernel_rfl) (by kernel_rfl) (by kernel_rfl) (fun _ _ _ h => h) (Or.inl ⟨by kernel_rfl, fun w _ => by kernel_rfl⟩) hHeld ?_
                          simp only [Act.put, List.setIfInBounds_toArray, List.set_cons_zero, List.set_cons_succ, List.getElem_toArray, List.getElem_cons_zero, List.getElem_cons_succ]
                          refine wpAnyH_take (i := 105) (v := .bool true) rfl (by kernel_rfl) (by kernel_rfl) (by kernel_rfl) (fun _ _ _ h => h) (Or.inl ⟨by kernel_rfl, fun w _ => by kernel_rfl⟩) hHeld ?_
                          simp only [Act.put, List.setIfInBounds_toArray, List.set_cons_zero, List.set_cons_succ, List.getElem_toArray, List.getElem_cons_zero, List.getElem_cons_succ]
                          refine wpAnyH_take (i := 106) (v := ?_) rfl (by kernel_rfl) (by kernel_rfl) (by kernel_rfl) (fun _ _ _ h => h) (Or.inl ⟨by rfl, ?_⟩) hHeld ?_
                          rotate_left
                          · intro w hSw; go_split_ands; go_simp; try with_reducible rfl
                          simp only [Act.put, List.setIfInBounds_toArray, List.set_cons_zero, List.set_cons_succ, List.getElem_toArray, List.getElem_cons_zero, List.getElem_cons_succ]
                          refine wpAnyH_ready (rs := [107]) (by kernel_rfl) (by simp) ?_
                          refine AllReadyH.cons rfl (fun K hK => ?_) AllReadyH.nil
                          go_simp
                          refine (WI1.out _ y15).mono ?_
                          clear y0 y1 y2 y3 y4 y5 y6 y7 y8 y9 y10 y11 y12 y13 y14 y15
                          rintro e w' ⟨rfl, y0, y1, y2, y3, y4, y5, y6, y7, y8, y9, y10, y11, y12, y13, y14, y15⟩
                          clear hHeld
                          refine hK.out _ _ ⟨y0, y1, y2, y3, y4, y5, y6, y7, y8, y9, y10, y11, y12, y13, y14, y15⟩ (fun hHeld => ?_)
                          clear hK K
                          try simp only [Act.put, List.setIfInBounds_toArray, List.set_cons_zero, List.set_cons_succ]
                          refine wpAnyH_take (i := 108) (v := .bool true) rfl (by kernel_rfl) (by kernel_rfl) (by kernel_rfl) (fun _ _ _ h => h) (Or.inl ⟨by kernel_rfl, fun w _ => by kernel_rfl⟩) hHeld ?_
                          simp only [Act.put, List.setIfInBounds_toArray, List.set_cons_zero, List.set_cons_succ, List.getElem_toArray, List.getElem_cons_zero, List.getElem_cons_succ]
                          refine wpAnyH_take (i := 109) (v := .bool true) rfl (by kernel_rfl) (by kernel_rfl) (by kernel_rfl) (fun _ _ _ h => h) (Or.inl ⟨by kernel_rfl, fun w _ => by kernel_rfl⟩) hHeld ?_
                          simp only [Act.put, List.setIfInBounds_toArray, List.set_cons_zero, List.set_cons_succ, List.getElem_toArray, List.getElem_cons_zero, List.getElem_cons_succ]
                          refine wpAnyH_take (i := 110) (v := ?_) rfl (by kernel_rfl) (by kernel_rfl) (by kernel_rfl) (fun _ _ _ h => h) (Or.inl ⟨by rfl, ?_⟩) hHeld ?_
                          rotate_left
                          · intro w hSw; go_split_ands; go_simp; try with_reducible rfl
                          simp only [Act.put, List.setIfInBounds_toArray, List.set_cons_zero, List.set_cons_succ, List.getElem_toArray, List.getElem_cons_zero, List.getElem_cons_succ]
                          refine wpAnyH_ready (rs := [111]) (by kernel_rfl) (by simp) ?_
                          refine AllReadyH.cons rfl (fun K hK => ?_) AllReadyH.nil
                          go_simp
                          refine (WI2.out _ y15).mono ?_
                          clear y0 y1 y2 y3 y4 y5 y6 y7 y8 y9 y10 y11 y12 y13 y14 y15
                          rintro e w' ⟨rfl, y0, y1, y2, y3, y4, y5, y6, y7, y8, y9, y10, y11, y12, y13, y14, y15⟩
                          clear hHeld
                          refine hK.out _ _ ⟨y0, y1, y2, y3, y4, y5, y6, y7, y8, y9, y10, y11, y12, y13, y14, y15⟩ (fun hHeld => ?_)
                          clear hK K
                          try simp only [Act.put, List.setIfInBounds_toArray, List.set_cons_zero, List.set_cons_succ]
                          as_aux_lemma =>
                            refine wpAnyH_take (i := 112) (v := .bool true) rfl (by kernel_rfl) (by kernel_rfl) (by kernel_rfl) (fun _ _ _ h => h) (Or.inl ⟨by kernel_rfl, fun w _ => by kernel_rfl⟩) hHeld ?_
                            simp only [Act.put, List.setIfInBounds_toArray, List.set_cons_zero, List.set_cons_succ, List.getElem_toArray, List.getElem_cons_zero, List.getElem_cons_succ]
                            refine wpAnyH_take (i := 113) (v := .bool true) rfl (by kernel_rfl) (by kernel_rfl) (by kernel_rfl) (fun _ _ _ h => h) (Or.inl ⟨by kernel_rfl, fun w _ => by kernel_rfl⟩) hHeld ?_
                            simp only [Act.put, List.setIfInBounds_toArray, List.set_cons_zero, List.set_cons_succ, List.getElem_toArray, List.getElem_cons_zero, List.getElem_cons_succ]
                            refine wpAnyH_take (i := 114) (v := .bool true) rfl (by kernel_rfl) (by kernel_rfl) (by kernel_rfl) (fun _ _ _ h => h) (Or.inl ⟨by kernel_rfl, fun w _ => by kernel_rfl⟩) hHeld ?_
                            simp only [Act.put, List.setIfInBounds_toArray, List.set_cons_zero, List.set_cons_succ, List.getElem_toArray, List.getElem_cons_zero, List.getElem_cons_succ]
                            refine wpAnyH_take (i := 115) (v := ?_) rfl (by kernel_rfl) (by kernel_rfl) (by kernel_rfl) (fun _ _ _ h => h) (Or.inl ⟨by rfl, ?_⟩) hHeld ?_
                            rotate_left
                            · intro w hSw; go_split_ands; go_simp; try with_reducible rfl
                            simp only [Act.put, List.setIfInBounds_toArray, List.set_cons_zero, List.set_cons_succ, List.getElem_toArray, List.getElem_cons_zero, List.getElem_cons_succ]
                            refine wpAnyH_ready (rs := [116]) (by kernel_rfl) (by simp) ?_
                            refine AllReadyH.cons rfl (fun K hK => ?_) AllReadyH.nil
                            go_simp
                            refine (WI3.out _ y15).mono ?_
                            clear y0 y1 y2 y3 y4 y5 y6 y7 y8 y9 y10 y11 y12 y13 y14 y15
                            rintro e w' ⟨rfl, y0, y1, y2, y3, y4, y5, y6, y7, y8, y9, y10, y11, y12, y13, y14, y15⟩
                            clear hHeld
                            refine hK.out _ _ ⟨y0, y1, y2, y3, y4, y5, y6, y7, y8, y9, y10, y11, y12, y13, y14, y15⟩ (fun hHeld => ?_)
                            clear hK K
                            try simp only [Act.put, List.setIfInBounds_toArray, List.set_cons_zero, List.set_cons_succ]
                            refine wpAnyH_take (i := 117) (v := .bool true) rfl (by kernel_rfl) (by kernel_rfl) (by kernel_rfl) (fun _ _ _ h => h) (Or.inl ⟨by kernel_rfl, fun w _ => by kernel_rfl⟩) hHeld ?_
                            simp only [Act.put, List.setIfInBounds_toArray, List.set_cons_zero, List.set_cons_succ, List.getElem_toArray, List.getElem_cons_zero, List.getElem_cons_succ]
                            refine wpAnyH_take (i := 118) (v := .bool true) rfl (by kernel_rfl) (by kernel_rfl) (by kernel_rfl) (fun _ _ _ h => h) (Or.inl ⟨by kernel_rfl, fun w _ => by kernel_rfl⟩) hHeld ?_
                            simp only [Act.put, List.setIfInBounds_toArray, List.set_cons_zero, List.set_cons_succ, List.getElem_toArray, List.getElem_cons_zero, List.getElem_cons_succ]
                            refine wpAnyH_take (i := 119) (v := ?_) rfl (by kernel_rfl) (by kernel_rfl) (by kernel_rfl) (fun _ _ _ h => h) (Or.inl ⟨by rfl, ?_⟩) hHeld ?_
                            rotate_left
                            · intro w hSw; go_split_ands; go_simp; try with_reducible rfl
                            simp only [Act.put, List.setIfInBounds_toArray, List.set_cons_zero, List.set_cons_succ, List.getElem_toArray, List.getElem_cons_zero, List.getElem_cons_succ]
                            refine wpAnyH_ready (rs := [120]) (by kernel_rfl) (by simp) ?_
                            refine AllReadyH.cons rfl (fun K hK => ?_) AllReadyH.nil
                            go_simp
                            refine (WI4.out _ y15).mono ?_
                            clear y0 y1 y2 y3 y4 y5 y6 y7 y8 y9 y10 y11 y12 y13 y14 y15
                            rintro e w' ⟨rfl, y0, y1, y2, y3, y4, y5, y6, y7, y8, y9, y10, y11, y12, y13, y14, y15⟩
                            clear hHeld
                            refine hK.out _ _ ⟨y0, y1, y2, y3, y4, y5, y6, y7, y8, y9, y10, y11, y12, y13, y14, y15⟩ (fun hHeld => ?_)
                            clear hK K
                            try simp only [Act.put, List.setIfInBounds_toArray, List.set_cons_zero, List.set_cons_succ]
                            refine wpAnyH_take (i := 121) (v := .bool true) rfl (by kernel_rfl) (by kernel_rfl) (by kernel_rfl) (fun _ _ _ h => h) (Or.inl ⟨by kernel_rfl, fun w _ => by kernel_rfl⟩) hHeld ?_
                            simp only [Act.put, List.setIfInBounds_toArray, List.set_cons_zero, List.set_cons_succ, List.getElem_toArray, List.getElem_cons_zero, List.getElem_cons_succ]
                            refine wpAnyH_take (i := 122) (v := .bool true) rfl (by kernel_rfl) (by kernel_rfl) (by kernel_rfl) (fun _ _ _ h => h) (Or.inl ⟨by kernel_rfl, fun w _ => by kernel_rfl⟩) hHeld ?_
                            simp only [Act.put, List.setIfInBounds_toArray, List.set_cons_zero, List.set_cons_succ, List.getElem_toArray, List.getElem_cons_zero, List.getElem_cons_succ]
                            refine wpAnyH_take (i := 123) (v := .bool true) rfl (by kernel_rfl) (by kernel_rfl) (by kernel_rfl) (fun _ _ _ h => h) (Or.inl ⟨by kernel_rfl, fun w _ => by kernel_rfl⟩) hHeld ?_
                            simp only [Act.put, List.setIfInBounds_toArray, List.set_cons_zero, List.getElem_toArray, List.getElem_cons_zero, List.getElem_cons_succ]
                            refine wpAnyH_done (by kernel_rfl) ?_ _
                            go_wp2
                            go_ret
                            exact ⟨rfl, HBMX.out _ y15⟩
end Go.Proofs.Ytggaadknaiogmaa
