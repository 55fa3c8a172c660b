/-
  The law's own way, first, heavy, awake, does. Condition: none.
-/
import Derived.Test.YtfoklgenpafciaaDe
namespace Go.Proofs.Ytfoklgenpafciaa
open Go.RowKit
set_option linter.unusedSimpArgs false
set_option linter.unusedVariables false
theorem way16_is {A : Option Addr} {n cap : Nat} (w : World) : Calls Try.prog 18 #[.slice A n cap] w fun e w' => e = .returned (.agg #[.slice A n cap]) ∧ Below w.heap.size w w' := by
  go_enter Try.func18, Try.ntmps18
  go_wp2
  go_returns
  exact ⟨rfl, below_alloc _ _⟩
set_option maxHeartbeats 2000000 in
theorem first16_is (w : World) : Calls Try.prog 16 #[] w fun e w' => ∃ A ca C cc, e = .returned (.agg #[.int .i64 2, .int .i64 32, .int .i64 16, .slice A 32 ca, .slice C 16 cc]) ∧ StH w' s64 2 32 16 A 32 ca C 16 cc ∧ Fsh w w' s64 A C ∧ Below w.heap.size w w' := by
  have k1 := Sbx.new w 0 0 0 none 0 0 none 0 0 28
  have hf : ∀ k, (w.alloc (.cells #[.int .i64 0, .int .i64 0, .int .i64 0, .slice none 0 0, .slice none 0 0] 28)).frozen? ⟨w.heap.size, k, none⟩ = false := fun k => frozen_of_row _ _ k _ _ (heap_alloc_new w _)
  go_enter Try.func16, Try.ntmps16
  go_wp2_with fail
  obtain ⟨g, hg⟩ : ∃ g, g = w.heap.size := ⟨_, rfl⟩
  rw [← hg] at k1 hf ⊢
  have HGG := Lib.hid hg
  clear hg
  generalize hw1 : w.alloc _ = w1 at k1 hf ⊢
  clear hw1
  refine (plain_any w1).mono ?_
  rintro e w2 ⟨rfl, hb2⟩
  have K2 := Lib.hid (k1.on hb2)
  have hf2 : ∀ k, w2.frozen? ⟨g, k, none⟩ = false := fun k => (hb2.frozen (p := ⟨g, k, none⟩) k1.lt).trans (hf k)
  clear hb2 hf k1
  go_wp2_with fail
  refine (pnew_is s64_new).mono ?_
  rintro e w3 ⟨A, ca, C, cc, rfl, hca, hcc, hF, hb3⟩
  simp only [s64_geo, s64_slots, s64_things] at hca hcc ⊢
  have K3 := Lib.hid (K2.out.on hb3)
  have hf3 : ∀ k, w3.frozen? ⟨g, k, none⟩ = false := fun k => (hb3.frozen (p := ⟨g, k, none⟩) K2.out.lt).trans (hf2 k)
  have HF := Lib.hid hF
  have HB3 := Lib.hid hb3
  have HCA := Lib.hid hca
  have HCC := Lib.hid hcc
  obtain ⟨b0, b1, b2, c3, c4, -, -, lt⟩ := K3.out
  have f0 := hf3 0
  have f1 := hf3 1
  have f2 := hf3 2
  have f3 := hf3 3
  have f4 := hf3 4
  clear hf3 hf2 hb3 hF hca hcc
  go_wp2_with fail
  have hp := put5_cells b0 b1 b2 c3 c4 (v0 := .int .i64 2) (v1 := .int .i64 32) (v2 := .int .i64 16) (v3 := .slice A 32 ca) (v4 := .slice C 16 cc)
  have hz := put5_size w3 g (.int .i64 2) (.int .i64 32) (.int .i64 16) (.slice A 32 ca) (.slice C 16 cc)
  have hh : ∀ k, k ≠ g → (put5 w3 g (.int .i64 2) (.int .i64 32) (.int .i64 16) (.slice A 32 ca) (.slice C 16 cc)).heap[k]? = w3.heap[k]? := fun k hk => put5_heap w3 g _ _ _ _ _ hk
  have hbl := put5_below K3.out.old (by rw [← HGG.out]; exact Nat.le_refl _) (.int .i64 2) (.int .i64 32) (.int .i64 16) (.slice A 32 ca) (.slice C 16 cc)
  change bodyPost _ _ _ _ _ ((put5 w3 g (.int .i64 2) (.int .i64 32) (.int .i64 16) (.slice A 32 ca) (.slice C 16 cc)).alloc _)
  generalize put5 w3 g (.int .i64 2) (.int .i64 32) (.int .i64 16) (.slice A 32 ca) (.slice C 16 cc) = w4 at hp hz hh hbl ⊢
  obtain ⟨e0, e1, e2, e3, e4⟩ := hp
  have hba := below_alloc w4 (.cells #[.int .i64 2, .int .i64 32, .int .i64 16, .slice A 32 ca, .slice C 16 cc] 28)
  have hg4 : g < w4.heap.size := by rw [hz]; exact lt
  replace e0 := (hba.cell (p := ⟨g, 0, none⟩) hg4).trans e0
  replace e1 := (hba.cell (p := ⟨g, 1, none⟩) hg4).trans e1
  replace e2 := (hba.cell (p := ⟨g, 2, none⟩) hg4).trans e2
  replace e3 := (hba.cell (p := ⟨g, 3, none⟩) hg4).trans e3
  replace e4 := (hba.cell (p := ⟨g, 4, none⟩) hg4).trans e4
  refine bodyPost_ret (by simp [results, Try.results16, go_sem, e0, e1, e2, e3, e4]; rfl) rfl ?_
  have hF : Fsh w (w4.alloc (.cells #[.int .i64 2, .int .i64 32, .int .i64 16, .slice A 32 ca, .slice C 16 cc] 28)) s64 A C := HF.out.move K2.out.old.size (by rw [← hz]; exact hba.size) fun k h1 h2 => by
    have := K2.out.lt
    exact (hba.block k (by omega)).trans (hh k (by omega))
  exact ⟨A, ca, C, cc, rfl, ⟨hF.lies, s64_geo, s64_slots.symm, s64_things.symm, by omega, by omega, HCA.out, HCC.out⟩, hF, below_on hbl hba⟩
theorem heavy16_is {a b c : Int} {A : Option Addr} {n ca : Nat} {C : Option Addr} {m cc : Nat} {o x y : Int} {PA PB : Option Addr} {na cpa nb cpb z : Nat} {r : Bool} (hr : (decide (100 < n) || (decide (50 < m) || (decide (10 < na) || decide (10 < nb)))) = r) (w : World) :
    Calls Try.prog 20 #[.agg #[.int .i64 a, .int .i64 b, .int .i64 c, .slice A n ca, .slice C m cc], .agg #[.int .i64 o, .slice PA na cpa, .slice PB nb cpb, .int .i64 x, .int .i64 y, .int .u64 (z : Int)]] w fun e w' => e = .returned (.bool r) ∧ Below w.heap.size w w' := by
  have HB := Lib.hid (below_on (below_alloc w (.cells #[.int .i64 a, .int .i64 b, .int .i64 c, .slice A n ca, .slice C m cc] 28)) (below_alloc _ (.cells #[.int .i64 o, .slice PA na cpa, .slice PB nb cpb, .int .i64 x, .int .i64 y, .int .u64 (z : Int)] 51)))
  have HR := Lib.hid hr
  clear hr
  by_cases h1 : 100 < n
  · have h1' : (100 : Int) < (n : Int) := by omega
    have h1'' : decide ((100 : Int) < (n : Int)) = true := decide_eq_true h1'
    go_enter Try.func20, Try.ntmps20
    go_wp2
    go_ret
    exact ⟨by rw [← HR.out, decide_eq_true h1]; rfl, HB.out⟩
  have h1' : decide ((100 : Int) < (n : Int)) = false := decide_eq_false (by omega)
  by_cases h2 : 50 < m
  · have h2' : (50 : Int) < (m : Int) := by omega
    have h2'' : decide ((50 : Int) < (m : Int)) = true := decide_eq_true h2'
    have HRR := Lib.hid (show r = true by rw [← HR.out, decide_eq_false h1, decide_eq_true h2]; rfl)
    clear h1 h2
    go_enter Try.func20, Try.ntmps20
    go_wp2
    go_ret
    exact ⟨by rw [HRR.out]; rfl, HB.out⟩
  have h2' : decide ((50 : Int) < (m : Int)) = false := decide_eq_false (by omega)
  by_cases h3 : 10 < na
  · have h3' : (10 : Int) < (na : Int) := by omega
    have h3'' : decide ((10 : Int) < (na : Int)) = true := decide_eq_true h3'
    have HRR := Lib.hid (show r = true by rw [← HR.out, decide_eq_false h1, decide_eq_false h2, decide_eq_true h3]; rfl)
    clear h1 h2 h3
    go_enter Try.func20, Try.ntmps20
    go_wp2
    go_ret
    exact ⟨by rw [HRR.out]; rfl, HB.out⟩
  have h3' : decide ((10 : Int) < (na : Int)) = false := decide_eq_false (by omega)
  have h4 : decide ((10 : Int) < (nb : Int)) = decide (10 < nb) := by
    by_cases h : 10 < nb
    · rw [decide_eq_true h, decide_eq_true (by omega)]
    · rw [decide_eq_false h, decide_eq_false (by omega)]
  have h4' : decide ((10 : Int) < (nb : Int)) = r := by rw [← HR.out, decide_eq_false h1, decide_eq_false h2, decide_eq_false h3, h4]; rfl
  clear h1 h2 h3 h4
  go_enter Try.func20, Try.ntmps20
  go_wp2
  go_ret
  exact ⟨rfl, HB.out⟩


/-! ### awake -/
def aw16c : Cp := ⟨3, 1, 1, 0⟩
theorem aw16_do : gdo s64 0 ⟨2, [1], [2], 1, 0, 0⟩ = (some (gputS s64 1 2 aw16c), ⟨0, 0, 0⟩) := by kernel_rfl
theorem aw16_slot : slAt (gputS s64 1 2 aw16c).sl 2 = ⟨aw16c, 1⟩ := by kernel_rfl
set_option maxRecDepth 100000 in
set_option maxHeartbeats 8000000 in
theorem awake16_is (w : World) : Calls Try.prog 15 #[] w fun e w' => e = .returned (.bool true) ∧ Below w.heap.size w w' := by
  go_enter Try.func15, Try.ntmps15
  go_wp2_with fail
  refine (first16_is w).mono ?_
  rintro e w1 ⟨A, ca, C, cc, rfl, hS, -, hb1⟩
  have HS := Lib.hid hS
  have HB1 := Lib.hid hb1
  clear hS hb1
  have hL := one_at w1 1
  have hb := below_alloc w1 (.cells #[.int .i64 1] 3)
  go_wp2_with fail
  generalize w1.alloc _ = w2 at hL hb ⊢
  have HL := Lib.hid hL
  have HB2 := Lib.hid hb
  clear hL hb
  refine (way16_is w2).mono ?_
  rintro e w3 ⟨rfl, hb⟩
  have HL3 := Lib.hid (HL.out.on hb)
  have HB3 := Lib.hid (below_on HB2.out hb)
  clear hb HL HB2
  have hM := one_at w3 2
  have hb := below_alloc w3 (.cells #[.int .i64 2] 3)
  go_wp2_with fail
  generalize w3.alloc _ = w4 at hM hb ⊢
  have HM := Lib.hid hM
  have HL4 := Lib.hid (HL3.out.on hb)
  have HB4 := Lib.hid (below_on HB3.out hb)
  clear hM hb HL3 HB3
  refine (way16_is w4).mono ?_
  rintro e w5 ⟨rfl, hb⟩
  have HM5 := Lib.hid (HM.out.on hb)
  have HL5 := Lib.hid (HL4.out.on hb)
  have HB5 := Lib.hid (below_on HB4.out hb)
  clear hb HM HL4 HB4
  go_wp2_with fail
  refine (gdo_is (z := 0) (HS.out.on HB5.out) rfl (by simp) HL5.out rfl (by simp) HM5.out aw16_do).mono ?_
  rintro e w6 ⟨A2, ca2, C2, cc2, rfl, hb, hca, hcc, hF⟩
  obtain ⟨P, Q, rfl, rfl, hO⟩ := hF.ost (by rw [puts_sl, s64_slots]; decide) (by show 0 < s64.th.length; rw [s64_things]; decide) hb
  have HB6 := Lib.hid (below_on (below_on HB1.out HB5.out) hb)
  simp only [Rep.val]
  have sl3 := hO.sl 2 (by rw [puts_sl, s64_slots]; decide)
  rw [aw16_slot] at sl3
  have lP := hO.lP
  have lQ := hO.lQ
  clear hF hb hca hcc HS HB1 HB5 HL5 HM5
  have N := Bxs.new w6 [.int .i64 2, .int .i64 32, .int .i64 16, .slice (some ⟨P, 0, none⟩) 32 ca2, .slice (some ⟨Q, 0, none⟩) 16 cc2] 28
  have M := Bxs.more N.old [.int .i64 0, .int .u64 0, .int .i64 0] 47
  rw [show (w6.alloc (.cells [.int .i64 2, .int .i64 32, .int .i64 16, .slice (some ⟨P, 0, none⟩) 32 ca2, .slice (some ⟨Q, 0, none⟩) 16 cc2].toArray 28)).heap.size = w6.heap.size + 1 by simp] at M
  have hal := below_alloc (w6.alloc (.cells #[.int .i64 2, .int .i64 32, .int .i64 16, .slice (some ⟨P, 0, none⟩) 32 ca2, .slice (some ⟨Q, 0, none⟩) 16 cc2] 28)) (.cells #[.int .i64 0, .int .u64 0, .int .i64 0] 47)
  have N2 := N.on hal
  have s30 := (N2.old.cell (p := ⟨P, 2 * 5 + 0, none⟩) lP).trans (sl3 0 _ rfl)
  have s31 := (N2.old.cell (p := ⟨P, 2 * 5 + 1, none⟩) lP).trans (sl3 1 _ rfl)
  have s32 := (N2.old.cell (p := ⟨P, 2 * 5 + 2, none⟩) lP).trans (sl3 2 _ rfl)
  have s33 := (N2.old.cell (p := ⟨P, 2 * 5 + 3, none⟩) lP).trans (sl3 3 _ rfl)
  have s34 := (N2.old.cell (p := ⟨P, 2 * 5 + 4, none⟩) lP).trans (sl3 4 _ rfl)
  have HB8 := Lib.hid (below_on HB6.out N2.old)
  clear N hal sl3 lP lQ hO HB6
  go_upto_region 2 with fail
  obtain ⟨q, hq⟩ : ∃ q, q = w6.heap.size + 1 := ⟨_, rfl⟩
  rw [← hq] at M ⊢
  clear hq
  generalize (w6.alloc _).alloc _ = w8 at N2 M s30 s31 s32 s33 s34 HB8 ⊢
  have n3 := N2.c 3 _ rfl
  have m0 := M.c 0 _ rfl
  have m1 := M.c 1 _ rfl
  have m2 := M.c 2 _ rfl
  clear N2 M
  simp only [Nat.reduceMul, Nat.reduceAdd, aw16c] at s30 s31 s32 s33 s34
  have heq1 : ∀ w, (Op.equalIn 10000 47 (.agg #[.int .i64 0, .int .u64 0, .int .i64 0]) (.agg #[.int .i64 0, .int .u64 0, .int .i64 0])).run Try.prog w = .ok true w := fun w => eq_reply 0 0 0 0 0 0 w
  have heq2 : ∀ w, (Op.equalIn 10000 41 (.agg #[.int .i64 3, .int .i64 1, .int .i64 1, .int .i64 0, .int .i64 1]) (.agg #[.int .i64 3, .int .i64 1, .int .i64 1, .int .i64 0, .int .i64 1])).run Try.prog w = .ok true w := fun w => by
    have h := peqslot ⟨⟨3, 1, 1, 0⟩, 1⟩ ⟨⟨3, 1, 1, 0⟩, 1⟩ w
    rw [Sl.eq_iff.2 rfl] at h
    exact h
  go_wp2
  go_ret
  exact ⟨rfl, HB8.out⟩
/-! ### does -/
/-- a new state, or the one that was there, and the error -/
def Ds16F (w w' : World) (e : Ending) (a b c : Int) (A : Option Addr) (n ca : Nat) (C : Option Addr) (m cc : Nat) (r : Option St × Rep) : Prop :=
  ∃ A' ca' C' cc', e = .returned (.tuple #[.agg #[.int .i64 a, .int .i64 b, .int .i64 c, .slice A' n ca', .slice C' m cc'], .int .i64 r.2.err]) ∧ Below w.heap.size w w' ∧
    match r.1 with
    | none => A' = A ∧ ca' = ca ∧ C' = C ∧ cc' = cc
    | some s' => n ≤ ca' ∧ m ≤ cc' ∧ Fsh w w' s' A' C'
set_option maxRecDepth 100000 in
set_option maxHeartbeats 8000000 in
theorem does16_is {s : St} {a b c : Int} {A C : Option Addr} {n ca m cc : Nat} {o x y : Int} {PA PB : Option Addr} {na cpa nb cpb : Nat} {la lb : List Int} {r : Option St × Rep} {w : World} (hS : StH w s a b c A n ca C m cc)
    (hna : na = la.length) (hcpa : na ≤ cpa) (hA : IntsAt w w.heap.size PA la) (hnb : nb = lb.length) (hcpb : nb ≤ cpb) (hB : IntsAt w w.heap.size PB lb) (hr : gdo s 0 ⟨o, la, lb, x, y, 0⟩ = r) :
    Calls Try.prog 17 #[.agg #[.int .i64 a, .int .i64 b, .int .i64 c, .slice A n ca, .slice C m cc], .int .i64 o, .agg #[.slice PA na cpa], .agg #[.slice PB nb cpb], .int .i64 x, .int .i64 y] w fun e w' => Ds16F w w' e a b c A n ca C m cc r := by
  have HS := Lib.hid hS
  have HNA := Lib.hid hna
  have HNB := Lib.hid hnb
  have HCPA := Lib.hid hcpa
  have HCPB := Lib.hid hcpb
  have HA := Lib.hid hA
  have HB := Lib.hid hB
  have HR := Lib.hid hr
  have t0 := Bxs.new w [.int .i64 a, .int .i64 b, .int .i64 c, .slice A n ca, .slice C m cc] 28
  have p1 := Bxs.more t0.old [.slice PA na cpa] 35
  rw [show (w.alloc (.cells [.int .i64 a, .int .i64 b, .int .i64 c, .slice A n ca, .slice C m cc].toArray 28)).heap.size = w.heap.size + 1 by simp] at p1
  have q2 := Bxs.more p1.old [.slice PB nb cpb] 35
  rw [show ((w.alloc (.cells [.int .i64 a, .int .i64 b, .int .i64 c, .slice A n ca, .slice C m cc].toArray 28)).alloc (.cells [.slice PA na cpa].toArray 35)).heap.size = w.heap.size + 1 + 1 by simp] at q2
  have r3 := Wbs.more q2.old [.int .i64 0, .int .i64 0, .int .i64 0, .slice none 0 0, .slice none 0 0] 28
  rw [show (((w.alloc (.cells [.int .i64 a, .int .i64 b, .int .i64 c, .slice A n ca, .slice C m cc].toArray 28)).alloc (.cells [.slice PA na cpa].toArray 35)).alloc (.cells [.slice PB nb cpb].toArray 35)).heap.size = w.heap.size + 1 + 1 + 1 by simp] at r3
  have b3 := below_alloc (((w.alloc (.cells [.int .i64 a, .int .i64 b, .int .i64 c, .slice A n ca, .slice C m cc].toArray 28)).alloc (.cells [.slice PA na cpa].toArray 35)).alloc (.cells [.slice PB nb cpb].toArray 35)) (.cells #[.int .i64 0, .int .i64 0, .int .i64 0, .slice none 0 0, .slice none 0 0] 28)
  have b2 := below_alloc ((w.alloc (.cells [.int .i64 a, .int .i64 b, .int .i64 c, .slice A n ca, .slice C m cc].toArray 28)).alloc (.cells [.slice PA na cpa].toArray 35)) (.cells #[.slice PB nb cpb] 35)
  have t3 := ((t0.on (below_alloc _ (.cells #[.slice PA na cpa] 35))).on b2).on b3
  have p3 := (p1.on b2).on b3
  have q3 := q2.on b3
  obtain ⟨g1, hg1⟩ : ∃ g1, g1 = w.heap.size + 1 := ⟨_, rfl⟩
  obtain ⟨g2, hg2⟩ : ∃ g2, g2 = w.heap.size + 1 + 1 := ⟨_, rfl⟩
  obtain ⟨g3, hg3⟩ : ∃ g3, g3 = w.heap.size + 1 + 1 + 1 := ⟨_, rfl⟩
  clear hS hna hnb hcpa hcpb hA hB hr t0 p1 q2 b2 b3
  go_enter Try.func17, Try.ntmps17
  go_upto_region 1 with fail
  rw [← hg3] at r3 ⊢
  rw [← hg2] at q3 ⊢
  rw [← hg1] at p3 ⊢
  clear hg1 hg2 hg3
  generalize (((w.alloc _).alloc _).alloc _).alloc _ = w4 at t3 p3 q3 r3 ⊢
  have T4 := Lib.hid t3
  have R4 := Lib.hid r3
  clear t3 r3
  have k0 := T4.out.c 0 _ rfl
  have k1 := T4.out.c 1 _ rfl
  have k2 := T4.out.c 2 _ rfl
  have k3 := T4.out.c 3 _ rfl
  have k4 := T4.out.c 4 _ rfl
  have u0 := p3.c 0 _ rfl
  have v0 := q3.c 0 _ rfl
  go_wp2_with fail
  refine (gdo_is (z := 0) (HS.out.on T4.out.old) HNA.out HCPA.out (HA.out.on T4.out.old) HNB.out HCPB.out (HB.out.on T4.out.old) HR.out).mono ?_
  rintro e w5 ⟨A2, ca2, C2, cc2, rfl, hb, hm⟩
  simp only [Rep.val]
  have R5 := R4.out.on hb
  have HW : Hid (g3 < w5.heap.size ∧ g3 < w4.heap.size ∧ w.heap.size ≤ w4.heap.size) := Lib.hid ⟨R5.bx.lt, R4.out.bx.lt, T4.out.old.size⟩
  have N := Bxs.new w5 [.int .i64 a, .int .i64 b, .int .i64 c, .slice A2 n ca2, .slice C2 m cc2] 28
  have M := Bxs.more N.old [.int .i64 r.2.err, .int .u64 (r.2.w : Int), .int .i64 r.2.n] 47
  rw [show (w5.alloc (.cells [.int .i64 a, .int .i64 b, .int .i64 c, .slice A2 n ca2, .slice C2 m cc2].toArray 28)).heap.size = w5.heap.size + 1 by simp] at M
  have hal0 := below_alloc w5 (.cells #[.int .i64 a, .int .i64 b, .int .i64 c, .slice A2 n ca2, .slice C2 m cc2] 28)
  have hal := below_alloc (w5.alloc (.cells #[.int .i64 a, .int .i64 b, .int .i64 c, .slice A2 n ca2, .slice C2 m cc2] 28)) (.cells #[.int .i64 r.2.err, .int .u64 (r.2.w : Int), .int .i64 r.2.n] 47)
  have N7 := N.on hal
  have R7 := (R5.on hal0).on hal
  have HB7 := Lib.hid ((below_on hal0 hal))
  have HM := Lib.hid hm
  clear k0 k1 k2 k3 k4 u0 v0 p3 q3 N R5 hal hal0 hb hm T4 R4
  go_upto_region 2 with fail
  obtain ⟨j1, hj1⟩ : ∃ j1, j1 = w5.heap.size + 1 := ⟨_, rfl⟩
  have HG3 : Hid (g3 ≠ j1 ∧ g3 ≠ w5.heap.size) := Lib.hid (by have := HW.out; omega)
  rw [← hj1] at M ⊢
  clear hj1
  generalize (w5.alloc _).alloc _ = w7 at N7 M R7 HB7 ⊢
  have n0 := N7.c 0 _ rfl
  have n1 := N7.c 1 _ rfl
  have n2 := N7.c 2 _ rfl
  have n3 := N7.c 3 _ rfl
  have n4 := N7.c 4 _ rfl
  have m0 := M.c 0 _ rfl
  have r0 := R7.bx.c 0 _ rfl
  have r1 := R7.bx.c 1 _ rfl
  have r2 := R7.bx.c 2 _ rfl
  have r3 := R7.bx.c 3 _ rfl
  have r4 := R7.bx.c 4 _ rfl
  have f0 := R7.free 0
  have f1 := R7.free 1
  have f2 := R7.free 2
  have f3 := R7.free 3
  have f4 := R7.free 4
  have HR7 := Lib.hid R7
  have hgj : ¬ g3 = j1 := HG3.out.1
  have hjg : ¬ j1 = g3 := fun e => HG3.out.1 e.symm
  clear N7 M R7
  go_region
  go_wp2
  have qq := HR7.out.setCells (vs := [.int .i64 a, .int .i64 b, .int .i64 c, .slice A2 n ca2, .slice C2 m cc2]) rfl
  have HF7 := Fnd.setCells g3 [.int .i64 a, .int .i64 b, .int .i64 c, .slice A2 n ca2, .slice C2 m cc2] 0 w7
  have qd := qq.on (below_self _).drew
  refine bodyPost_ret (results_ct rfl _ _ _ (b := g3) (by rfl) qd.bx.range Try.underlying28 rfl info_state) rfl ?_
  refine ⟨A2, ca2, C2, cc2, rfl, qd.bx.old, ?_⟩
  have hm := HM.out
  obtain ⟨r1, q⟩ := r
  cases r1 with
  | none => exact hm
  | some s' =>
    obtain ⟨hca, hcc, hF⟩ := hm
    have h1 : Fsh w4 w7 s' A2 C2 := hF.fnd (.of HB7.out g3) HW.out.2.1
    have h2 := h1.fnd (HF7.drew) HW.out.2.1
    exact ⟨hca, hcc, h2.base HW.out.2.2⟩
end Go.Proofs.Ytfoklgenpafciaa
