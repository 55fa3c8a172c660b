/-
  The states of the law CarveKnown as plain data, what carve answers of them; the walk of the law's does. Condition: the state and the ways lie in memory.
-/
import Derived.Test.YtfoklgenpafciaaB3
namespace Go.Proofs.Ytfoklgenpafciaa
open Go.RowKit

/-! ### plain data -/
def ckx : St := cdone s64 ⟨0, 3, 60, 4, { Tng.of 1 with size := 60 }⟩
def cky : St := cdone ckx ⟨0, 4, 64, 5, { Tng.of 2 with bits := 2, base := 16 }⟩
def ckz : St := cdone cky ⟨3, 6, 2, 6, { Tng.of 2 with bits := 1, base := 20 }⟩
def ckl : St := ⟨s64.g, s64.sl.set 0 ⟨⟨1, 0, 1, 0⟩, -1⟩, s64.th⟩
def ckn : St := ⟨s64.g, s64.sl, s64.th.set 0 ⟨1, 0, 0, 64, 64, 0, 0, false, 0, 0, 0, 0, 0⟩⟩
theorem ck_a : cdo s64 0 ⟨1, [1], [3], 4, 0, 0⟩ = (none, ⟨7, 0, 0⟩) := by kernel_rfl
theorem ck_b : cdo s64 0 ⟨1, [4], [3], 4, 0, 0⟩ = (none, ⟨4, 0, 0⟩) := by kernel_rfl
theorem ck_c : cdo s64 0 ⟨1, [0], [1], 4, 0, 0⟩ = (none, ⟨5, 0, 0⟩) := by kernel_rfl
theorem ck_d : cdo s64 0 ⟨1, [0], [3], 1, 65, 0⟩ = (none, ⟨8, 0, 0⟩) := by kernel_rfl
theorem ck_e : cdo s64 0 ⟨1, [0], [3], 2, 5, 0⟩ = (none, ⟨1, 0, 0⟩) := by kernel_rfl
theorem ck_f : cdo s64 0 ⟨1, [0], [9], 4, 0, 0⟩ = (none, ⟨3, 0, 0⟩) := by kernel_rfl
theorem ck_g : cdo s64 0 ⟨1, [0], [3], 1, 60, 0⟩ = (some ckx, ⟨0, 0, 4⟩) := by kernel_rfl
theorem ck_h : cdo ckx 0 ⟨1, [0], [4], 2, 2, 0⟩ = (some cky, ⟨0, 0, 5⟩) := by kernel_rfl
theorem ck_i : cdo cky 0 ⟨1, [0], [5], 4, 0, 0⟩ = (none, ⟨8, 0, 0⟩) := by kernel_rfl
theorem ck_j : cdo cky 0 ⟨1, [3], [5], 2, 4, 0⟩ = (none, ⟨8, 0, 0⟩) := by kernel_rfl
theorem ck_k : cdo cky 0 ⟨1, [3], [6], 2, 1, 0⟩ = (some ckz, ⟨0, 0, 6⟩) := by kernel_rfl
theorem ck_l : cdo ckl 0 ⟨1, [0], [3], 4, 0, 0⟩ = (none, ⟨6, 0, 0⟩) := by kernel_rfl
theorem ck_n : cdo ckn 0 ⟨1, [0], [3], 4, 0, 0⟩ = (some (cdone ckn aw15), ⟨0, 0, 4⟩) := by kernel_rfl
theorem ck_o : cdo s64 2 ⟨1, [0], [3], 4, 0, 0⟩ = (none, ⟨1, 0, 0⟩) := by kernel_rfl
theorem ck_p : cdo s64 0 ⟨13, [0], [], 0, 0, 0⟩ = (none, ⟨1, 0, 0⟩) := by kernel_rfl
theorem ck_u1 : usedZ cky 0 = 64 := by kernel_rfl
theorem ck_u2 : usedZ s64 0 = 0 := by kernel_rfl
theorem ck_u3 : usedZ cky 1 = 0 := by kernel_rfl
theorem ck_u4 : usedZ ckn 0 = 0 := by kernel_rfl
theorem ck_t5 : thAt cky.th 5 = ⟨2, 2, 16, 0, 0, 0, 0, false, 0, 0, 0, 0, 0⟩ := by kernel_rfl
theorem ck_t0 : (thAt (cdone ckn aw15).th 0).used = 1 := by kernel_rfl

/-! ### does -/
/-- a new state, or the one that was there, and the error -/
def DsF (w w' : World) (e : Ending) (a b c : Int) (A : Option Addr) (n ca : Nat) (C : Option Addr) (m cc : Nat) (r : Option St × Rep) : Prop :=
  ∃ A' ca' C' cc', e = .returned (.tuple #[.agg #[.int .i64 a, .int .i64 b, .int .i64 c, .slice A' n ca', .slice C' m cc'], .int .i64 r.2.err]) ∧ Below w.heap.size w w' ∧
    match r.1 with
    | none => A' = A ∧ ca' = ca ∧ C' = C ∧ cc' = cc
    | some s' => n ≤ ca' ∧ m ≤ cc' ∧ Fsh w w' s' A' C'
set_option maxRecDepth 100000 in
set_option maxHeartbeats 8000000 in
theorem does_is {s : St} {a b c : Int} {A C : Option Addr} {n ca m cc : Nat} {x y : Int} {PA PB : Option Addr} {na cpa nb cpb : Nat} {la lb : List Int} {r : Option St × Rep} {w : World} (hS : StH w s a b c A n ca C m cc)
    (hna : na = la.length) (hcpa : na ≤ cpa) (hA : IntsAt w w.heap.size PA la) (hnb : nb = lb.length) (hcpb : nb ≤ cpb) (hB : IntsAt w w.heap.size PB lb) (hr : cdo s 0 ⟨1, la, lb, x, y, 0⟩ = r) :
    Calls Try.prog 10 #[.agg #[.int .i64 a, .int .i64 b, .int .i64 c, .slice A n ca, .slice C m cc], .agg #[.slice PA na cpa], .agg #[.slice PB nb cpb], .int .i64 x, .int .i64 y] w fun e w' => DsF w w' e a b c A n ca C m cc r := by
  have HS := Lib.hid hS
  have HNA := Lib.hid hna
  have HNB := Lib.hid hnb
  have HCPA := Lib.hid hcpa
  have HCPB := Lib.hid hcpb
  have HA := Lib.hid hA
  have HB := Lib.hid hB
  have HR := Lib.hid hr
  have t0 := Bxs.new w [.int .i64 a, .int .i64 b, .int .i64 c, .slice A n ca, .slice C m cc] 28
  have p1 := Bxs.more t0.old [.slice PA na cpa] 35
  rw [show (w.alloc (.cells [.int .i64 a, .int .i64 b, .int .i64 c, .slice A n ca, .slice C m cc].toArray 28)).heap.size = w.heap.size + 1 by simp] at p1
  have q2 := Bxs.more p1.old [.slice PB nb cpb] 35
  rw [show ((w.alloc (.cells [.int .i64 a, .int .i64 b, .int .i64 c, .slice A n ca, .slice C m cc].toArray 28)).alloc (.cells [.slice PA na cpa].toArray 35)).heap.size = w.heap.size + 1 + 1 by simp] at q2
  have r3 := Wbs.more q2.old [.int .i64 0, .int .i64 0, .int .i64 0, .slice none 0 0, .slice none 0 0] 28
  rw [show (((w.alloc (.cells [.int .i64 a, .int .i64 b, .int .i64 c, .slice A n ca, .slice C m cc].toArray 28)).alloc (.cells [.slice PA na cpa].toArray 35)).alloc (.cells [.slice PB nb cpb].toArray 35)).heap.size = w.heap.size + 1 + 1 + 1 by simp] at r3
  have b3 := below_alloc (((w.alloc (.cells [.int .i64 a, .int .i64 b, .int .i64 c, .slice A n ca, .slice C m cc].toArray 28)).alloc (.cells [.slice PA na cpa].toArray 35)).alloc (.cells [.slice PB nb cpb].toArray 35)) (.cells #[.int .i64 0, .int .i64 0, .int .i64 0, .slice none 0 0, .slice none 0 0] 28)
  have b2 := below_alloc ((w.alloc (.cells [.int .i64 a, .int .i64 b, .int .i64 c, .slice A n ca, .slice C m cc].toArray 28)).alloc (.cells [.slice PA na cpa].toArray 35)) (.cells #[.slice PB nb cpb] 35)
  have t3 := ((t0.on (below_alloc _ (.cells #[.slice PA na cpa] 35))).on b2).on b3
  have p3 := (p1.on b2).on b3
  have q3 := q2.on b3
  obtain ⟨g1, hg1⟩ : ∃ g1, g1 = w.heap.size + 1 := ⟨_, rfl⟩
  obtain ⟨g2, hg2⟩ : ∃ g2, g2 = w.heap.size + 1 + 1 := ⟨_, rfl⟩
  obtain ⟨g3, hg3⟩ : ∃ g3, g3 = w.heap.size + 1 + 1 + 1 := ⟨_, rfl⟩
  clear hS hna hnb hcpa hcpb hA hB hr t0 p1 q2 b2 b3
  go_enter Try.func10, Try.ntmps10
  go_upto_region 1 with fail
  rw [← hg3] at r3 ⊢
  rw [← hg2] at q3 ⊢
  rw [← hg1] at p3 ⊢
  clear hg1 hg2 hg3
  generalize (((w.alloc _).alloc _).alloc _).alloc _ = w4 at t3 p3 q3 r3 ⊢
  have T4 := Lib.hid t3
  have R4 := Lib.hid r3
  clear t3 r3
  have k0 := T4.out.c 0 _ rfl
  have k1 := T4.out.c 1 _ rfl
  have k2 := T4.out.c 2 _ rfl
  have k3 := T4.out.c 3 _ rfl
  have k4 := T4.out.c 4 _ rfl
  have u0 := p3.c 0 _ rfl
  have v0 := q3.c 0 _ rfl
  go_wp2_with fail
  refine (do_is (z := 0) (HS.out.on T4.out.old) HNA.out HCPA.out (HA.out.on T4.out.old) HNB.out HCPB.out (HB.out.on T4.out.old) HR.out).mono ?_
  rintro e w5 ⟨A2, ca2, C2, cc2, rfl, hb, hm⟩
  simp only [Rep.val]
  have R5 := R4.out.on hb
  have HW : Hid (g3 < w5.heap.size ∧ g3 < w4.heap.size ∧ w.heap.size ≤ w4.heap.size) := Lib.hid ⟨R5.bx.lt, R4.out.bx.lt, T4.out.old.size⟩
  have N := Bxs.new w5 [.int .i64 a, .int .i64 b, .int .i64 c, .slice A2 n ca2, .slice C2 m cc2] 28
  have M := Bxs.more N.old [.int .i64 r.2.err, .int .u64 (r.2.w : Int), .int .i64 r.2.n] 47
  rw [show (w5.alloc (.cells [.int .i64 a, .int .i64 b, .int .i64 c, .slice A2 n ca2, .slice C2 m cc2].toArray 28)).heap.size = w5.heap.size + 1 by simp] at M
  have hal0 := below_alloc w5 (.cells #[.int .i64 a, .int .i64 b, .int .i64 c, .slice A2 n ca2, .slice C2 m cc2] 28)
  have hal := below_alloc (w5.alloc (.cells #[.int .i64 a, .int .i64 b, .int .i64 c, .slice A2 n ca2, .slice C2 m cc2] 28)) (.cells #[.int .i64 r.2.err, .int .u64 (r.2.w : Int), .int .i64 r.2.n] 47)
  have N7 := N.on hal
  have R7 := (R5.on hal0).on hal
  have HB7 := Lib.hid ((below_on hal0 hal))
  have HM := Lib.hid hm
  clear k0 k1 k2 k3 k4 u0 v0 p3 q3 N R5 hal hal0 hb hm T4 R4
  go_upto_region 2 with fail
  obtain ⟨j1, hj1⟩ : ∃ j1, j1 = w5.heap.size + 1 := ⟨_, rfl⟩
  have HG3 : Hid (g3 ≠ j1 ∧ g3 ≠ w5.heap.size) := Lib.hid (by have := HW.out; omega)
  rw [← hj1] at M ⊢
  clear hj1
  generalize (w5.alloc _).alloc _ = w7 at N7 M R7 HB7 ⊢
  have n0 := N7.c 0 _ rfl
  have n1 := N7.c 1 _ rfl
  have n2 := N7.c 2 _ rfl
  have n3 := N7.c 3 _ rfl
  have n4 := N7.c 4 _ rfl
  have m0 := M.c 0 _ rfl
  have r0 := R7.bx.c 0 _ rfl
  have r1 := R7.bx.c 1 _ rfl
  have r2 := R7.bx.c 2 _ rfl
  have r3 := R7.bx.c 3 _ rfl
  have r4 := R7.bx.c 4 _ rfl
  have f0 := R7.free 0
  have f1 := R7.free 1
  have f2 := R7.free 2
  have f3 := R7.free 3
  have f4 := R7.free 4
  have HR7 := Lib.hid R7
  have hgj : ¬ g3 = j1 := HG3.out.1
  have hjg : ¬ j1 = g3 := fun e => HG3.out.1 e.symm
  clear N7 M R7
  go_region
  go_wp2
  have qq := HR7.out.setCells (vs := [.int .i64 a, .int .i64 b, .int .i64 c, .slice A2 n ca2, .slice C2 m cc2]) rfl
  have HF7 := Fnd.setCells g3 [.int .i64 a, .int .i64 b, .int .i64 c, .slice A2 n ca2, .slice C2 m cc2] 0 w7
  have qd := qq.on (below_self _).drew
  refine bodyPost_ret (results_ct rfl _ _ _ (b := g3) (by rfl) qd.bx.range Try.underlying28 rfl info_state) rfl ?_
  refine ⟨A2, ca2, C2, cc2, rfl, qd.bx.old, ?_⟩
  have hm := HM.out
  obtain ⟨r1, q⟩ := r
  cases r1 with
  | none => exact hm
  | some s' =>
    obtain ⟨hca, hcc, hF⟩ := hm
    have h1 : Fsh w4 w7 s' A2 C2 := hF.fnd (.of HB7.out g3) HW.out.2.1
    have h2 := h1.fnd (HF7.drew) HW.out.2.1
    exact ⟨hca, hcc, h2.base HW.out.2.2⟩
end Go.Proofs.Ytfoklgenpafciaa
