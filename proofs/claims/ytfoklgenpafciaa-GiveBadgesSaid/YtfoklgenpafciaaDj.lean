/-
  What give answers, the badge and the rights any; the walk of the law GiveBadges. Condition: none.
-/
import Derived.Test.YtfoklgenpafciaaDf
import Derived.Test.YtfoklgenpafciaaDt
namespace Go.Proofs.Ytfoklgenpafciaa
open Go.RowKit
set_option linter.unusedSimpArgs false
set_option linter.unusedVariables false

def gb1 (x : Int) : St := gputS s64 1 2 ⟨3, 1, 7, x⟩
def gb2 (x y : Int) : St := gputS (gb1 x) 2 3 ⟨3, 1, y, x⟩
theorem gb1_len (x : Int) : (gb1 x).sl.length = 32 ∧ (gb1 x).th.length = 16 := ⟨by kernel_rfl, by kernel_rfl⟩
theorem gb2_len (x y : Int) : (gb2 x y).sl.length = 32 ∧ (gb2 x y).th.length = 16 := ⟨by kernel_rfl, by kernel_rfl⟩
theorem gb2_s (x y : Int) : slAt (gb2 x y).sl 3 = ⟨⟨3, 1, y, x⟩, 2⟩ := by kernel_rfl
theorem gb_good (x y : Int) (h1 : 0 ≤ x) (h2 : x ≤ 65535) (h3 : 0 ≤ y) (h4 : y ≤ 7) : Cp.good ⟨3, 1, y, x⟩ = true := by
  simp [Cp.good, Cp.ofThing, Cp.fits, inr, Cp.badged, h1, h2, h3, h4]
theorem gb_less7 (x y : Int) (h3 : 0 ≤ y) (h4 : y ≤ 7) : Cp.less ⟨3, 1, y, x⟩ ⟨3, 1, 7, 0⟩ = true := by
  have : ((less3 (held y) (held 7)) == 0) = true := by
    rcases (by omega : y = 0 ∨ y = 1 ∨ y = 2 ∨ y = 3 ∨ y = 4 ∨ y = 5 ∨ y = 6 ∨ y = 7) with rfl | rfl | rfl | rfl | rfl | rfl | rfl | rfl <;> rfl
  simp [Cp.less, this]
theorem gb_lessx (x y : Int) (h3 : 0 ≤ y) (h4 : y ≤ 7) : Cp.less ⟨3, 1, y, x⟩ ⟨3, 1, 7, x⟩ = true := by
  have : ((less3 (held y) (held 7)) == 0) = true := by
    rcases (by omega : y = 0 ∨ y = 1 ∨ y = 2 ∨ y = 3 ∨ y = 4 ∨ y = 5 ∨ y = 6 ∨ y = 7) with rfl | rfl | rfl | rfl | rfl | rfl | rfl | rfl <;> rfl
  simp [Cp.less, this]
theorem s64_sg : sgood s64 = true := by kernel_rfl
theorem gb1_sg (x : Int) (h1 : 1 ≤ x) (h2 : x ≤ 65535) : sgood (gb1 x) = true :=
  sgood_iff.2 (Pts.gst (sgood_iff.1 s64_sg) ⟨by decide, by kernel_rfl, by decide, by kernel_rfl, by kernel_rfl, gb_good x 7 (by omega) h2 (by decide) (by decide), by kernel_rfl, gb_less7 x 7 (by decide) (by decide), by kernel_rfl⟩)
theorem gb2_sg (x y : Int) (h1 : 1 ≤ x) (h2 : x ≤ 65535) (h3 : 0 ≤ y) (h4 : y ≤ 7) : sgood (gb2 x y) = true :=
  sgood_iff.2 (Pts.gst (sgood_iff.1 (gb1_sg x h1 h2)) ⟨by rw [(gb1_len x).1]; decide, by kernel_rfl, by rw [(gb1_len x).1]; decide, by kernel_rfl, by kernel_rfl, gb_good x y (by omega) h2 h3 h4, by kernel_rfl, gb_lessx x y h3 h4, by kernel_rfl⟩)
theorem gb_fs {s : St} (h : sgood s = true) (ht : s.g.t = 2) {l : List Int} (hp : pgood l = true) : fslot s 0 l = fpair (fwhere s 0 l) := by
  rw [fslot, if_pos ⟨fthread_iff.2 ⟨h, by decide, by rw [ht]; decide⟩, hp⟩]
theorem gb1_c (x : Int) (h1 : 1 ≤ x) (h2 : x ≤ 65535) : fcap (gb1 x) 0 [2] = (2, ⟨3, 1, 7, x⟩, 0) := by
  rw [fcap, gb_fs (gb1_sg x h1 h2) rfl rfl]
  kernel_rfl
theorem gb1_e (x : Int) (h1 : 1 ≤ x) (h2 : x ≤ 65535) : fempty (gb1 x) 0 [3] = (3, 0) := by
  rw [fempty, gb_fs (gb1_sg x h1 h2) rfl rfl]
  kernel_rfl
theorem gb2_c (x y : Int) (h1 : 1 ≤ x) (h2 : x ≤ 65535) (h3 : 0 ≤ y) (h4 : y ≤ 7) : fcap (gb2 x y) 0 [3] = (3, ⟨3, 1, y, x⟩, 0) := by
  rw [fcap, gb_fs (gb2_sg x y h1 h2 h3 h4) rfl rfl]
  kernel_rfl
theorem gb_cut (x y z : Int) (h1 : 0 ≤ x) (h2 : x ≤ 65535) (h3 : 0 ≤ y) (h4 : y ≤ 7) (h5 : 0 ≤ z) (h6 : z ≤ 7) (hm : ((land3 (held y) (held z) : Nat) : Int) = z) : Cp.cut ⟨3, 1, y, x⟩ z = ⟨3, 1, z, x⟩ := by
  rw [Cp.cut, if_pos (gb_good x y h1 h2 h3 h4), hm]
theorem gb_l7 (z : Int) (h5 : 0 ≤ z) (h6 : z ≤ 7) : ((land3 (held 7) (held z) : Nat) : Int) = z := by
  rcases (by omega : z = 0 ∨ z = 1 ∨ z = 2 ∨ z = 3 ∨ z = 4 ∨ z = 5 ∨ z = 6 ∨ z = 7) with rfl | rfl | rfl | rfl | rfl | rfl | rfl | rfl <;> rfl
theorem gb_r7 (y : Int) (h5 : 0 ≤ y) (h6 : y ≤ 7) : ((land3 (held y) (held 7) : Nat) : Int) = y := by
  rcases (by omega : y = 0 ∨ y = 1 ∨ y = 2 ∨ y = 3 ∨ y = 4 ∨ y = 5 ∨ y = 6 ∨ y = 7) with rfl | rfl | rfl | rfl | rfl | rfl | rfl | rfl <;> rfl
theorem gb_cutr (x y : Int) (h1 : 0 ≤ x) (h2 : x ≤ 65535) (h3 : 0 ≤ y) (h4 : y ≤ 7) : Cp.cut ⟨3, 1, y, x⟩ 7 = ⟨3, 1, y, x⟩ := by
  rw [Cp.cut, if_pos (gb_good x y h1 h2 h3 h4)]
  show Cp.mk 3 1 ((land3 (held y) (held 7) : Nat) : Int) x = _
  rw [gb_r7 y h3 h4]
theorem gb_own {s : St} (h : sgood s = true) {t : Int} {o : Nat} (ho : ownerN s.th t = some o) : ¬ optI (sowner s t) = -1 := by
  rw [sowner, if_pos h, ho]
  show ¬ ((o : Int) = -1)
  omega
theorem gb_A (x : Int) (h1 : 1 ≤ x) (h2 : x ≤ 65535) : gdo s64 0 ⟨3, [1], [2], 7, x, 0⟩ = (some (gb1 x), ⟨0, 0, 0⟩) := by
  have c0 : cgood ⟨3, [1], [2], 7, x, 0⟩ = true := by
    have : inSpan 1 65535 x = true := inSpan_iff.2 ⟨h1, h2⟩
    show (pgood [1] && (inSpan 1 3 1 && ((decide ((1 : Nat) = 0) || pgood [2]) && (inSpan 0 7 7 && (inSpan 1 65535 x && (false || decide ((0 : Nat) = 0))))))) = true
    rw [this]
    rfl
  have c1 : fcap s64 0 [1] = (1, ⟨3, 1, 7, 0⟩, 0) := by kernel_rfl
  have c2 : ggiven ⟨3, 1, 7, 0⟩ 3 7 x = (⟨3, 1, 7, x⟩, 0) := by
    rw [ggiven, if_neg (by decide), if_pos rfl, gb_cut 0 7 7 (by decide) (by decide) (by decide) (by decide) (by decide) (by decide) rfl, Cp.stamp, if_pos ⟨by kernel_rfl, by simp [inr]; omega, by omega⟩]
    rfl
  have c3 : fempty s64 0 [2] = (2, 0) := by kernel_rfl
  have c4 : gmay s64 1 2 ⟨3, 1, 7, x⟩ = 0 := by
    rw [gmay, if_neg (gb_own s64_sg (o := 2) (by kernel_rfl)), gb_good x 7 (by omega) h2 (by decide) (by decide)]
    have e : (slAt s64.sl (1 : Int).toNat).c = ⟨3, 1, 7, 0⟩ := by kernel_rfl
    rw [e, gb_less7 x 7 (by decide) (by decide)]
    first | (show (_ : Int) = (_ : Int); kernel_rfl) | rfl
  rw [gdo, ganswer, if_neg (fun q => q ⟨(by decide : (2 : Int) ≤ 3), (by decide : (3 : Int) ≤ 4), c0⟩)]
  simp only [c1, c2, c3]
  rw [gput, c4]
  rfl
theorem gb_B (x y : Int) (h1 : 1 ≤ x) (h2 : x ≤ 65535) (h3 : 0 ≤ y) (h4 : y ≤ 7) : gdo (gb1 x) 0 ⟨2, [2], [3], y, 0, 0⟩ = (some (gb2 x y), ⟨0, 0, 0⟩) := by
  have c0 : cgood ⟨2, [2], [3], y, 0, 0⟩ = true := by
    have : inSpan 0 7 y = true := inSpan_iff.2 ⟨h3, h4⟩
    show (pgood [2] && (inSpan 1 3 1 && ((decide ((1 : Nat) = 0) || pgood [3]) && (inSpan 0 7 y && (inSpan 0 0 0 && (false || decide ((0 : Nat) = 0))))))) = true
    rw [this]
    rfl
  have c1 := gb1_c x h1 h2
  have c2 : ggiven ⟨3, 1, 7, x⟩ 2 y 0 = (⟨3, 1, y, x⟩, 0) := by
    rw [ggiven, if_pos rfl, gb_cut x 7 y (by omega) h2 (by decide) (by decide) h3 h4 (gb_l7 y h3 h4)]
  have c3 := gb1_e x h1 h2
  have c4 : gmay (gb1 x) 2 3 ⟨3, 1, y, x⟩ = 0 := by
    have e : (slAt (gb1 x).sl (2 : Int).toNat).c = ⟨3, 1, 7, x⟩ := by kernel_rfl
    rw [gmay, if_neg (gb_own (gb1_sg x h1 h2) (o := 2) (by kernel_rfl)), gb_good x y (by omega) h2 h3 h4, e, gb_lessx x y h3 h4, sinside, gb1_sg x h1 h2]
    first | (show (_ : Int) = (_ : Int); kernel_rfl) | rfl
  rw [gdo, ganswer, if_neg (fun q => q ⟨(by decide : (2 : Int) ≤ 2), (by decide : (2 : Int) ≤ 4), c0⟩)]
  simp only [c1, c2, c3]
  rw [gput, c4]
  rfl
theorem gb_C (x y z : Int) (h1 : 1 ≤ x) (h2 : x ≤ 65535) (h3 : 0 ≤ y) (h4 : y ≤ 7) (h5 : 1 ≤ z) (h6 : z ≤ 65535) : gdo (gb2 x y) 0 ⟨3, [3], [4], 7, z, 0⟩ = (none, ⟨5, 0, 0⟩) := by
  have c0 : cgood ⟨3, [3], [4], 7, z, 0⟩ = true := by
    have : inSpan 1 65535 z = true := inSpan_iff.2 ⟨h5, h6⟩
    show (pgood [3] && (inSpan 1 3 1 && ((decide ((1 : Nat) = 0) || pgood [4]) && (inSpan 0 7 7 && (inSpan 1 65535 z && (false || decide ((0 : Nat) = 0))))))) = true
    rw [this]
    rfl
  have c1 := gb2_c x y h1 h2 h3 h4
  have c2 : ggiven ⟨3, 1, y, x⟩ 3 7 z = (.none, 5) := by
    rw [ggiven, if_neg (by decide), if_pos rfl, gb_cutr x y (by omega) h2 h3 h4, Cp.stamp, if_pos ⟨gb_good x y (by omega) h2 h3 h4, by simp [inr]; omega, by omega⟩, if_pos (show Cp.badged ⟨3, 1, y, x⟩ = true from rfl), if_neg (show ¬ (Cp.mk 3 1 y x).ba = 0 from (by omega : ¬ x = 0))]
  rw [gdo, ganswer, if_neg (fun q => q ⟨(by decide : (2 : Int) ≤ 3), (by decide : (3 : Int) ≤ 4), c0⟩)]
  simp only [c1, c2]
  rfl

/-! ### a region that loads from a box of its own, and stores the call's answer there -/
theorem st_load {P : Program} {ops : Array Oper} {o : Oper} {a : Act} {w : World} {K : Act → World → Prop} {Q : Exit → Act → World → Prop} (hw : Region.wanted o (yielded ops a.tmps) = true) (ty : TypeId) (x : Operand) (ho : o.op = .load ty x)
    (b off : Nat) (hx : a.eval x = .pointer (some ⟨b, off, none⟩)) (cs : List Value) (d : TypeDesc) (hr : w.rangeAt b off cs) (hu : P.underlying ty = some d) (hd : d.isRow = true) (hi : (P.info? ty).map (·.size) = some cs.length) (hk : K (a.put o.dst (.agg cs.toArray)) w) : OpW P ops o a w K Q := by
  rcases yieldsIf_load_mid (S := fun w' => w' = w) hw ty x ho b off hx cs d (fun w' e => e ▸ hr) hu hd hi with ⟨_, h⟩ | ⟨h, _⟩
  · exact st_run hw (h w rfl) hk
  · rw [hw] at h; cases h
structure P6 (U : World) (g : Nat) (l1 l2 : List Int) (a b c : Int) (A : Option Addr) (n ca : Nat) (C : Option Addr) (m cc : Nat) (r : Option St) (R : Value) (CY : List Value) (mk : Value → Value → Value) (CQ : Value) (fld fb1 fw1 fb2 fw2 fbd fdo fmv fe1 fe2 fy fs : Bool) (vld vb1 vw1 vb2 vw2 vbd vdo vmv ve1 ve2 vy : Value) (w : World) : Prop where
  ld : fld = true → vld = CQ
  h : fs = false → PHI U l1 l2 a b c A n ca C m cc r R CY false false mk fb1 fw1 fb2 fw2 fbd fdo fmv fe1 fe2 false fy false vb1 vw1 vb2 vw2 vbd vdo vmv ve1 ve2 undef vy w
  s : fs = true → (fld && fb1 && fw1 && fb2 && fw2 && fbd && fdo && fmv && fe1 && fy) = true ∧ ∃ w0 A' ca' C' cc', vdo = .tuple #[.agg #[.int .i64 a, .int .i64 b, .int .i64 c, .slice A' n ca', .slice C' m cc'], R] ∧
    w = w0.setCells g 0 [.int .i64 a, .int .i64 b, .int .i64 c, .slice A' n ca', .slice C' m cc'] ∧ PHI U l1 l2 a b c A n ca C m cc r R CY false false mk fb1 fw1 fb2 fw2 fbd fdo fmv fe1 fe2 false fy false vb1 vw1 vb2 vw2 vbd vdo vmv ve1 ve2 undef vy w0
section
variable {U : World} {g : Nat} {l1 l2 : List Int} {a b c : Int} {A : Option Addr} {n ca : Nat} {C : Option Addr} {m cc : Nat} {r : Option St} {R : Value} {CY : List Value} {mk : Value → Value → Value} {CQ : Value} {fld fb1 fw1 fb2 fw2 fbd fdo fmv fe1 fe2 fq fy fs nb ny : Bool} {vld vb1 vw1 vb2 vw2 vbd vdo vmv ve1 ve2 vq vy : Value} {w : World}
theorem P6.early (h : P6 U g l1 l2 a b c A n ca C m cc r R CY mk CQ fld fb1 fw1 fb2 fw2 fbd fdo fmv fe1 fe2 fy fs vld vb1 vw1 vb2 vw2 vbd vdo vmv ve1 ve2 vy w) (hf : (fld && fb1 && fw1 && fb2 && fw2 && fbd && fdo && fmv && fe1 && fy) = false) : fs = false := by
  rw [Bool.eq_false_iff]
  intro e
  have := (h.s e).1
  rw [hf] at this
  cases this
theorem PHI.e1v (h : PHI U l1 l2 a b c A n ca C m cc r R CY nb ny mk fb1 fw1 fb2 fw2 fbd fdo fmv fe1 fe2 fq fy fs vb1 vw1 vb2 vw2 vbd vdo vmv ve1 ve2 vq vy w) (h1 : fmv = true) (h2 : fe1 = true) : ∃ A' ca' C' cc', ve1 = .agg #[.int .i64 a, .int .i64 b, .int .i64 c, .slice A' n ca', .slice C' m cc'] ∧ vdo = .tuple #[.agg #[.int .i64 a, .int .i64 b, .int .i64 c, .slice A' n ca', .slice C' m cc'], R] := by
  obtain ⟨A', ca', C', cc', h3, h4⟩ := h.tup h1
  obtain ⟨-, y, h5⟩ := h.e9 h2
  refine ⟨A', ca', C', cc', ?_, h4.trans h3⟩
  rw [h3] at h5
  injection h5 with h5
  injection h5 with h5
  injection h5 with h5
  exact h5.symm
theorem P6.fin (h : P6 U g l1 l2 a b c A n ca C m cc r R CY mk CQ fld fb1 fw1 fb2 fw2 fbd fdo fmv fe1 fe2 fy fs vld vb1 vw1 vb2 vw2 vbd vdo vmv ve1 ve2 vy w) (k1 : fs = true) (k2 : fe2 = true) : ∃ w0 y A' ca' C' cc', w = w0.setCells g 0 [.int .i64 a, .int .i64 b, .int .i64 c, .slice A' n ca', .slice C' m cc'] ∧
    Below U.heap.size U w0 ∧ ve2 = R ∧ vy = .pointer (some ⟨y, 0, none⟩) ∧ Wbs U w0 y CY ∧ (match r with | none => A' = A ∧ ca' = ca ∧ C' = C ∧ cc' = cc | some s' => n ≤ ca' ∧ m ≤ cc' ∧ Fsh U w0 s' A' C') ∧ (∀ s', r = some s' → farA A' y ∧ farA C' y) := by
  obtain ⟨hf, w0, A', ca', C', cc', eD, ew, hP⟩ := h.s k1
  simp only [Bool.and_eq_true] at hf
  obtain ⟨⟨⟨⟨⟨⟨⟨⟨⟨-, -⟩, -⟩, -⟩, -⟩, -⟩, f7⟩, f8⟩, -⟩, f10⟩ := hf
  have k := hP.rg rfl
  obtain ⟨y, e1, e2⟩ := k.y f10
  have ha := k.ay f10 f7 y e1
  obtain ⟨A1, ca1, C1, cc1, h3, h4⟩ := k.d f7
  refine ⟨w0, y, A', ca', C', cc', ew, hP.bb, ?_, e1, e2, ?_, fun s' hr => ha a b c A' n ca' C' m cc' R eD s' hr⟩
  · obtain ⟨k3, x, h2⟩ := hP.e10 k2
    obtain ⟨A2, ca2, C2, cc2, h5, -⟩ := hP.tup k3
    rw [h5] at h2
    injection h2 with h2
    injection h2 with h2
    injection h2 with _ h2
    injection h2 with h2
    exact h2.symm
  · rw [eD] at h3
    injection h3 with h3
    injection h3 with h3
    injection h3 with h3 _
    injection h3 with h3
    injection h3 with h3
    injection h3 with _ h3
    injection h3 with _ h3
    injection h3 with _ h3
    injection h3 with h3 h5
    injection h5 with h5 _
    injection h3 with h3 _ h6
    injection h5 with h5 _ h7
    subst h3 h5 h6 h7
    exact h4
theorem Bxs.rebase {V U w : World} {g : Nat} {cs : List Value} (h : Bxs U w g cs) (hb : Below V.heap.size V U) : Bxs V w g cs :=
  ⟨h.c, hb.trans (h.old.mono hb.size), Nat.le_trans hb.size h.base, h.lt⟩
theorem Wbs.rebase {V U w : World} {g : Nat} {cs : List Value} (h : Wbs U w g cs) (hb : Below V.heap.size V U) : Wbs V w g cs := ⟨h.bx.rebase hb, h.free⟩
end
set_option maxRecDepth 100000 in
set_option maxHeartbeats 32000000 in
theorem give_badges {x y z : Int} (w : World) : Calls Try.prog 7 #[.int .i64 x, .int .i64 y, .int .i64 z] w fun e w' => e = .returned (.bool true) ∧ Below w.heap.size w w' := by
  go_enter Try.func7, Try.ntmps7
  go_wp2_with fail
  refine (awake16_is w).mono ?_
  rintro e w1 ⟨rfl, hb⟩
  have HB1 := Lib.hid hb
  clear hb
  by_cases a0 : x < 1
  case pos =>
    have b0 : decide (x < 1) = true := decide_eq_true a0
    go_wp2
    go_ret
    exact ⟨rfl, HB1.out⟩
  have b0 : decide (x < 1) = false := decide_eq_false a0
  by_cases a1 : 65535 < x
  case pos =>
    have b1 : decide (65535 < x) = true := decide_eq_true a1
    go_wp2
    go_ret
    exact ⟨rfl, HB1.out⟩
  have b1 : decide (65535 < x) = false := decide_eq_false a1
  by_cases a2 : y < 0
  case pos =>
    have b2 : decide (y < 0) = true := decide_eq_true a2
    go_wp2
    go_ret
    exact ⟨rfl, HB1.out⟩
  have b2 : decide (y < 0) = false := decide_eq_false a2
  by_cases a3 : 7 < y
  case pos =>
    have b3 : decide (7 < y) = true := decide_eq_true a3
    go_wp2
    go_ret
    exact ⟨rfl, HB1.out⟩
  have b3 : decide (7 < y) = false := decide_eq_false a3
  by_cases a4 : z < 1
  case pos =>
    have b4 : decide (z < 1) = true := decide_eq_true a4
    go_wp2
    go_ret
    exact ⟨rfl, HB1.out⟩
  have b4 : decide (z < 1) = false := decide_eq_false a4
  by_cases a5 : 65535 < z
  case pos =>
    have b5 : decide (65535 < z) = true := decide_eq_true a5
    go_wp2
    go_ret
    exact ⟨rfl, HB1.out⟩
  have b5 : decide (65535 < z) = false := decide_eq_false a5
  have HR : Hid (1 ≤ x ∧ x ≤ 65535 ∧ 0 ≤ y ∧ y ≤ 7 ∧ 1 ≤ z ∧ z ≤ 65535) := Lib.hid (by omega)
  obtain ⟨hx1, hx2, hy1, hy2, hz1, hz2⟩ := HR.out
  have HA := Lib.hid (gb_A x hx1 hx2)
  have HBB := Lib.hid (gb_B x y hx1 hx2 hy1 hy2)
  have HCC := Lib.hid (gb_C x y z hx1 hx2 hy1 hy2 hz1 hz2)
  clear hx1 hx2 hy1 hy2 hz1 hz2 HR a0 a1 a2 a3 a4 a5
  go_wp2_with fail
  refine (first16_is w1).mono ?_
  rintro e w2 ⟨A, ca, C, cc, rfl, hS, -, hb⟩
  clear b0 b1 b2 b3 b4 b5
  have HS := Lib.hid hS
  have HB2 := Lib.hid (below_on HB1.out hb)
  clear hS hb HB1
  have hL := one_at w2 1
  have hb := below_alloc w2 (.cells #[.int .i64 1] 3)
  go_wp2_with fail
  generalize w2.alloc _ = w3 at hL hb ⊢
  have HL := Lib.hid hL
  have HB3 := Lib.hid hb
  clear hL hb
  refine (way16_is w3).mono ?_
  rintro e w4 ⟨rfl, hb⟩
  replace HL := Lib.hid (HL.out.on hb)
  have HB4 := Lib.hid (below_on HB3.out hb)
  clear hb HB3
  have hM := one_at w4 2
  have hb := below_alloc w4 (.cells #[.int .i64 2] 3)
  go_wp2_with fail
  generalize w4.alloc _ = w5 at hM hb ⊢
  have HM := Lib.hid hM
  replace HL := Lib.hid (HL.out.on hb)
  have HB5 := Lib.hid (below_on HB4.out hb)
  clear hM hb HB4
  refine (way16_is w5).mono ?_
  rintro e w6 ⟨rfl, hb⟩
  replace HM := Lib.hid (HM.out.on hb)
  replace HL := Lib.hid (HL.out.on hb)
  have HB6 := Lib.hid (below_on HB5.out hb)
  clear hb HB5
  go_wp2_with fail
  refine (gdo_is (z := 0) (HS.out.on HB6.out) rfl (by simp) HL.out rfl (by simp) HM.out HA.out).mono ?_
  rintro e w7 ⟨A2, ca2, C2, cc2, rfl, hb, hca, hcc, hF⟩
  obtain ⟨P, Q, rfl, rfl, hO⟩ := hF.ost (by rw [(gb1_len x).1]; decide) (by rw [(gb1_len x).2]; decide) hb
  have HB7 := Lib.hid (below_on (below_on HB2.out HB6.out) hb)
  simp only [Rep.val]
  clear hF hb HS HB2 HB6 HL HM HA
  have HC1 := Lib.hid (⟨hca, hcc⟩ : 32 ≤ ca2 ∧ 16 ≤ cc2)
  clear hca hcc
  obtain ⟨n2, n3⟩ := boxes2 w7 [.int .i64 2, .int .i64 32, .int .i64 16, .slice (some ⟨P, 0, none⟩) 32 ca2, .slice (some ⟨Q, 0, none⟩) 16 cc2] [.int .i64 0, .int .u64 0, .int .i64 0] 28 47
  have o2 := (hO.on (below_alloc w7 (.cells #[.int .i64 2, .int .i64 32, .int .i64 16, .slice (some ⟨P, 0, none⟩) 32 ca2, .slice (some ⟨Q, 0, none⟩) 16 cc2] 28))).on (below_alloc _ (.cells #[.int .i64 0, .int .u64 0, .int .i64 0] 47))
  clear hO
  have hne : w7.heap.size ≠ w7.heap.size + 1 := by omega
  go_upto_region 6 with fail
  obtain ⟨j1, hj1⟩ : ∃ j1, j1 = w7.heap.size + 1 := ⟨_, rfl⟩
  rw [← hj1] at n3 hne ⊢
  clear hj1
  obtain ⟨j0, hj0⟩ : ∃ j0, j0 = w7.heap.size := ⟨_, rfl⟩
  rw [← hj0] at n2 hne ⊢
  clear hj0
  generalize (w7.alloc _).alloc _ = v6 at n2 n3 o2 ⊢
  have K := Lib.hid n2
  have Y8 := Lib.hid n3
  have O1 := Lib.hid o2
  have HNE := Lib.hid hne
  clear n2 n3 o2 hne
  have HS1 : Hid (StH v6 (gb1 x) 2 32 16 (some ⟨P, 0, none⟩) 32 ca2 (some ⟨Q, 0, none⟩) 16 cc2) := Lib.hid ⟨O1.out.lies, rfl, (gb1_len x).1.symm, (gb1_len x).2.symm, by decide, by decide, HC1.out.1, HC1.out.2⟩
  have HP : Hid (∀ s', some (gb2 x y) = some s' → 0 < s'.sl.length ∧ 0 < s'.th.length) := Lib.hid fun s' e => by
    injection e with e
    rw [← e, (gb2_len x y).1, (gb2_len x y).2]
    decide
  have hb0 := (below_self v6).drew
  refine wp_region_held_drew (S := fun _ => True) (by kernel_rfl) trivial (fun _ => ?_)
  refine wpAnyH_take (i := 5) (v := ?_) rfl (by kernel_rfl) (by kernel_rfl) (by kernel_rfl) (fun _ _ _ h => h) (Or.inl ⟨by rfl, ?_⟩) (by assumption) ?_
  rotate_left
  · intro w hSw; go_simp; try with_reducible rfl
  try simp only [Act.put, List.setIfInBounds_toArray, List.set_cons_zero, List.set_cons_succ, List.getElem_toArray, List.getElem_cons_zero, List.getElem_cons_succ]
  refine wpAnyH_inv (f0 := 1) [0, 1, 2, 3, 4, 6, 7, 8, 9, 10, 11, 12] [48, 49, 50, 51, 52, 54, 55, 47, 56, 57, 9] (fun l tm w => P6 v6 j0 [2] [3] 2 32 16 (some ⟨P, 0, none⟩) 32 ca2 (some ⟨Q, 0, none⟩) 16 cc2 (some (gb2 x y)) (.agg #[.int .i64 0, .int .u64 0, .int .i64 0]) [.int .i64 0, .int .u64 0, .int .i64 0] (fun p q => .agg #[.int .i64 2, flat1 p, flat1 q, .int .i64 y, .int .i64 0, .int .u64 0]) (.agg #[.int .i64 2, .int .i64 32, .int .i64 16, .slice (some ⟨P, 0, none⟩) 32 ca2, .slice (some ⟨Q, 0, none⟩) 16 cc2]) (l 0) (l 1) (l 2) (l 3) (l 4) (l 6) (l 7) (l 8) (l 9) (l 10) (l 11) (l 12) (tm 48) (tm 49) (tm 50) (tm 51) (tm 52) (tm 54) (tm 55) (tm 47) (tm 56) (tm 57) (tm 9) w) (by kernel_rfl) (by kernel_rfl) rfl (by decide) (fun _ _ _ _ => trivial) ?start (AllSteps.cons rfl ?o0 (AllSteps.cons rfl ?o1 (AllSteps.cons rfl ?o2 (AllSteps.cons rfl ?o3 (AllSteps.cons rfl ?o4 (AllSteps.cons rfl ?o6 (AllSteps.cons rfl ?o7 (AllSteps.cons rfl ?o8 (AllSteps.cons rfl ?o9 (AllSteps.cons rfl ?o10 (AllSteps.cons rfl ?o11 (AllSteps.cons rfl ?o12 AllSteps.nil)))))))))))) ?fin
  case o0 =>
    intro l tm w h hl hd K0 hK
    try dsimp only at h
    rw [hl] at h
    have hs6 := h.early (by simp)
    have hP := h.h hs6
    refine st_load (by rfl) 28 (.tmp 7) (by rfl) j0 0 (by kernel_rfl) [.int .i64 2, .int .i64 32, .int .i64 16, .slice (some ⟨P, 0, none⟩) 32 ca2, .slice (some ⟨Q, 0, none⟩) 16 cc2] _ (K.out.on hP.bb).bx.range Try.underlying28 rfl info_state ?_
    exact hK.out _ _ ⟨fun _ => rfl, fun _ => hP, fun e => ff hs6 e⟩
  case o1 =>
    intro l tm w h hl hd K0 hK
    try dsimp only at h
    rw [hl] at h
    have hs6 := h.early (by simp)
    have hv6 := h.ld
    replace h := h.h hs6
    have hh := h.addB1 (below_alloc w (.cells #[.int .i64 2] 3)) (lis_one w 2)
    exact st_run (v := .slice (some ⟨w.heap.size, 0, none⟩) 1 1) (by rfl) (by kernel_rfl) (hK.out _ _ ⟨hv6, fun _ => hh, fun e => ff hs6 e⟩)
  case o2 =>
    intro l tm w h hl hd K0 hK
    try dsimp only at h
    rw [hl] at h
    have hs6 := h.early (by simp)
    have hv6 := h.ld
    replace h := h.h hs6
    have h0 := h
    obtain ⟨⟨B, nB, cB, eB, -⟩, -⟩ := h0.way1 (hd 1 (by kernel_rfl))
    have hc := way16_is (A := B) (n := nB) (cap := cB) w
    rw [← eB] at hc
    refine st_call (f := 18) (args := #[(tm 49)]) (w' := w) (by rfl) (by kernel_rfl) (hc.mono ?_)
    rintro e w1 ⟨rfl, hb⟩
    exact ⟨_, rfl, hK.out _ _ ⟨hv6, fun _ => (h.addW1 (hd 1 (by kernel_rfl)) hb rfl), fun e => ff hs6 e⟩⟩
  case o3 =>
    intro l tm w h hl hd K0 hK
    try dsimp only at h
    rw [hl] at h
    have hs6 := h.early (by simp)
    have hv6 := h.ld
    replace h := h.h hs6
    have hh := h.addB2 (below_alloc w (.cells #[.int .i64 3] 3)) (lis_one w 3)
    exact st_run (v := .slice (some ⟨w.heap.size, 0, none⟩) 1 1) (by rfl) (by kernel_rfl) (hK.out _ _ ⟨hv6, fun _ => hh, fun e => ff hs6 e⟩)
  case o4 =>
    intro l tm w h hl hd K0 hK
    try dsimp only at h
    rw [hl] at h
    have hs6 := h.early (by simp)
    have hv6 := h.ld
    replace h := h.h hs6
    have h0 := h
    obtain ⟨⟨B, nB, cB, eB, -⟩, -⟩ := h0.way2 (hd 3 (by kernel_rfl))
    have hc := way16_is (A := B) (n := nB) (cap := cB) w
    rw [← eB] at hc
    refine st_call (f := 18) (args := #[(tm 51)]) (w' := w) (by rfl) (by kernel_rfl) (hc.mono ?_)
    rintro e w1 ⟨rfl, hb⟩
    exact ⟨_, rfl, hK.out _ _ ⟨hv6, fun _ => (h.addW2 (hd 3 (by kernel_rfl)) hb rfl), fun e => ff hs6 e⟩⟩
  case o6 =>
    intro l tm w h hl hd K0 hK
    try dsimp only at h
    rw [hl] at h
    have hs6 := h.early (by simp)
    have hv6 := h.ld
    replace h := h.h hs6
    have d1 := hd 2 (by kernel_rfl)
    have d2 := hd 4 (by kernel_rfl)
    have h0 := h
    obtain ⟨⟨B1, n1, k1, eB1, eN1, eK1, eI1⟩, eW1⟩ := h0.way1 ((h0.rg rfl).w1 d1).1
    obtain ⟨⟨B2, n2, k2, eB2, eN2, eK2, eI2⟩, eW2⟩ := h0.way2 ((h0.rg rfl).w2 d2).1
    have hW1 := (eW1 d1).trans (by rw [eB1])
    have hW2 := (eW2 d2).trans (by rw [eB2])
    refine st_run (v := (fun p q => .agg #[.int .i64 2, flat1 p, flat1 q, .int .i64 y, .int .i64 0, .int .u64 0]) (tm 50) (tm 52)) (w' := w) (by rfl) ?_ (hK.out _ _ ⟨hv6, fun _ => (h.addBd d1 d2 rfl), fun e => ff hs6 e⟩)
    simp only [List.getElem_toArray, List.getElem_cons_zero, List.getElem_cons_succ, pmA, List.foldl_cons, List.foldl_nil, Act.put, List.setIfInBounds_toArray, List.set_cons_zero, List.set_cons_succ]
    rw [hW1, hW2]
    kernel_rfl
  case o7 =>
    intro l tm w h hl hd K0 hK
    try dsimp only at h
    rw [hl] at h
    have hs6 := h.early (by simp)
    have hv6 := h.ld
    replace h := h.h hs6
    have d0 := hd 6 (by kernel_rfl)
    obtain ⟨d1, d2, eBD⟩ := h.e6 d0
    have h0 := h
    obtain ⟨⟨B1, n1, k1, eB1, eN1, eK1, eI1⟩, eW1⟩ := h0.way1 ((h0.rg rfl).w1 d1).1
    obtain ⟨⟨B2, n2, k2, eB2, eN2, eK2, eI2⟩, eW2⟩ := h0.way2 ((h0.rg rfl).w2 d2).1
    have hW1 := (eW1 d1).trans (by rw [eB1])
    have hW2 := (eW2 d2).trans (by rw [eB2])
    rw [hW1, hW2] at eBD
    have hA : #[(tm 48), .int .i64 0, (tm 54)] = #[.agg #[.int .i64 2, .int .i64 32, .int .i64 16, .slice (some ⟨P, 0, none⟩) 32 ca2, .slice (some ⟨Q, 0, none⟩) 16 cc2], .int .i64 0, .agg #[.int .i64 2, .slice B1 n1 k1, .slice B2 n2 k2, .int .i64 y, .int .i64 0, .int .u64 0]] := by rw [hv6 (hd 0 (by kernel_rfl)), eBD]; rfl
    refine st_call (f := 22) (args := #[(tm 48), .int .i64 0, (tm 54)]) (w' := w) (by rfl) (by kernel_rfl) ?_
    rw [hA]
    refine (gdo_is (z := 0) (HS1.out.on h.bb) eN1 eK1 eI1 eN2 eK2 eI2 HBB.out).mono ?_
    rintro e w1 ⟨A', ca', C', cc', rfl, hb, hm⟩
    obtain ⟨q1, q2⟩ := resD_of (a := 2) (b := 32) (c := 16) (R := (.agg #[.int .i64 0, .int .u64 0, .int .i64 0])) h.bb.size hm HP.out
    exact ⟨_, rfl, hK.out _ _ ⟨hv6, fun _ => (h.addD hb q1 q2), fun e => ff hs6 e⟩⟩
  case o8 =>
    intro l tm w h hl hd K0 hK
    try dsimp only at h
    rw [hl] at h
    have hs6 := h.early (by simp)
    have hv6 := h.ld
    replace h := h.h hs6
    exact st_run (v := tm 55) (w' := w) (by rfl) (by kernel_rfl) (hK.out _ _ ⟨hv6, fun _ => (h.addMv (hd 7 (by kernel_rfl)) rfl), fun e => ff hs6 e⟩)
  case o9 =>
    intro l tm w h hl hd K0 hK
    try dsimp only at h
    rw [hl] at h
    have hs6 := h.early (by simp)
    have hv6 := h.ld
    replace h := h.h hs6
    obtain ⟨A', ca', C', cc', eT, -⟩ := h.tup (hd 8 (by kernel_rfl))
    refine st_run (v := .agg #[.int .i64 2, .int .i64 32, .int .i64 16, .slice A' 32 ca', .slice C' 16 cc']) (w' := w) (by rfl) ?_ (hK.out _ _ ⟨hv6, fun _ => (h.addE1 (hd 8 (by kernel_rfl)) eT), fun e => ff hs6 e⟩)
    simp only [List.getElem_toArray, List.getElem_cons_zero, List.getElem_cons_succ, pmA, List.foldl_cons, List.foldl_nil, Act.put, List.setIfInBounds_toArray, List.set_cons_zero, List.set_cons_succ]
    rw [eT]
    kernel_rfl
  case o10 =>
    intro l tm w h hl hd K0 hK
    try dsimp only at h
    rw [hl] at h
    rcases hs : l 12 with _ | _
    · have hv6 := h.ld
      replace h := h.h hs
      obtain ⟨A', ca', C', cc', eT, -⟩ := h.tup (hd 8 (by kernel_rfl))
      refine st_run (v := (.agg #[.int .i64 0, .int .u64 0, .int .i64 0])) (w' := w) (by rfl) ?_ (hK.out _ _ ⟨hv6, fun _ => h.addE2 (hd 8 (by kernel_rfl)) eT, fun e => ff hs e⟩)
      simp only [List.getElem_toArray, List.getElem_cons_zero, List.getElem_cons_succ, pmA, List.foldl_cons, List.foldl_nil, Act.put, List.setIfInBounds_toArray, List.set_cons_zero, List.set_cons_succ]
      rw [eT]
      kernel_rfl
    · obtain ⟨hfl, w0, A1, ca1, C1, cc1, eD, ew, hP⟩ := h.s hs
      obtain ⟨A', ca', C', cc', eT, -⟩ := hP.tup (hd 8 (by kernel_rfl))
      refine st_run (v := (.agg #[.int .i64 0, .int .u64 0, .int .i64 0])) (w' := w) (by rfl) ?_ (hK.out _ _ ⟨h.ld, fun e => ff e hs, fun _ => ⟨hfl, w0, A1, ca1, C1, cc1, eD, ew, hP.addE2 (hd 8 (by kernel_rfl)) eT⟩⟩)
      simp only [List.getElem_toArray, List.getElem_cons_zero, List.getElem_cons_succ, pmA, List.foldl_cons, List.foldl_nil, Act.put, List.setIfInBounds_toArray, List.set_cons_zero, List.set_cons_succ]
      rw [eT]
      kernel_rfl
  case o11 =>
    intro l tm w h hl hd K0 hK
    try dsimp only at h
    rw [hl] at h
    have hs6 := h.early (by simp)
    have hv6 := h.ld
    replace h := h.h hs6
    have hh := h.addY HP.out 47
    exact st_run (v := ptr w.heap.size) (by rfl) (by kernel_rfl) (hK.out _ _ ⟨hv6, fun _ => hh, fun e => ff hs6 e⟩)
  case o12 =>
    intro l tm w h hl hd K0 hK
    try dsimp only at h
    rw [hl] at h
    have hP := h.h rfl
    obtain ⟨A', ca', C', cc', e1, eD⟩ := hP.e1v (hd 8 (by kernel_rfl)) (hd 9 (by kernel_rfl))
    have HT : Hid (w.there j0 0 (#[.int .i64 2, .int .i64 32, .int .i64 16, .slice A' 32 ca', .slice C' 16 cc'] : Array Value).size) := Lib.hid ((K.out.on hP.bb).there (n := 5) rfl)
    have HO := Lib.hid (state_one 2 32 16 A' 32 ca' C' 16 cc')
    refine st_store (by rfl) 28 (.tmp 7) (.tmp 56) (by rfl) j0 0 #[.int .i64 2, .int .i64 32, .int .i64 16, .slice A' 32 ca', .slice C' 16 cc'] (by kernel_rfl) ((by kernel_rfl : _ = tm 56).trans e1) HT.out info_state HO.out ?_
    have hfl : (l 0 && l 1 && l 2 && l 3 && l 4 && l 6 && l 7 && l 8 && l 9 && l 11) = true := by simp only [hd 0 (by kernel_rfl), hd 1 (by kernel_rfl), hd 2 (by kernel_rfl), hd 3 (by kernel_rfl), hd 4 (by kernel_rfl), hd 6 (by kernel_rfl), hd 7 (by kernel_rfl), hd 8 (by kernel_rfl), hd 9 (by kernel_rfl), hd 11 (by kernel_rfl), Bool.and_self]
    exact hK.out undef (w.setCells j0 0 [.int .i64 2, .int .i64 32, .int .i64 16, .slice A' 32 ca', .slice C' 16 cc']) ⟨h.ld, fun e => ff e rfl, fun _ => ⟨hfl, w, A', ca', C', cc', eD, rfl, hP⟩⟩
  case start => exact ⟨fun e => ff rfl e, fun _ => ⟨hb0, fun _ => ⟨hb0, fun e => ff rfl e, fun e => ff rfl e, fun e => ff rfl e, fun e => ff rfl e, fun e => ff rfl e, fun e => ff rfl e, fun e => ff rfl e, fun e => ff rfl e, fun e => ff rfl e, fun e => ff rfl e⟩, fun e => ff rfl e, fun e => ff rfl e, fun e => ff rfl e, fun e => ff rfl e, fun e => ff rfl e, fun e => ff rfl e⟩, fun e => ff rfl e⟩
  case fin =>
    clear hb0
    intro tm u6 h
    try dsimp only at h
    obtain ⟨w0, y9, Az, caz, Cz, ccz, eu, hbz, hR, ey, hY, hm, haw⟩ := h.fin (by kernel_rfl) (by kernel_rfl)
    subst eu
    obtain ⟨hca, hcc, hF⟩ := hm
    obtain ⟨Pz, Qz, rfl, rfl, hO⟩ := hF.ost (by rw [(gb2_len x y).1]; decide) (by rw [(gb2_len x y).2]; decide) hbz
    have HC2 := Lib.hid (⟨hca, hcc⟩ : 32 ≤ caz ∧ 16 ≤ ccz)
    clear h hca hcc hF HP HBB HS1 O1 HC1
    have hlt := K.out.bx.lt
    have hl1 := hO.oP
    have hl2 := hO.oQ
    have hl3 := hY.bx.base
    have f := Fnd.setCells j0 [.int .i64 2, .int .i64 32, .int .i64 16, .slice (some ⟨Pz, 0, none⟩) 32 caz, .slice (some ⟨Qz, 0, none⟩) 16 ccz] 0 w0
    have k7 := (K.out.on hbz).setCells (vs := [.int .i64 2, .int .i64 32, .int .i64 16, .slice (some ⟨Pz, 0, none⟩) 32 caz, .slice (some ⟨Qz, 0, none⟩) 16 ccz]) rfl
    have o6 := (hO.base K.out.bx.old).step f (by omega) (by omega) k7.bx.old
    have y8 := (Y8.out.on hbz).fnd f HNE.out.symm k7.bx.old
    have y9k := (hY.rebase K.out.bx.old).fnd f (by omega) k7.bx.old
    have hl8 := Y8.out.bx.lt
    have hne : j0 ≠ y9 ∧ j1 ≠ y9 ∧ Pz ≠ y9 ∧ Qz ≠ y9 := ⟨by omega, by omega, (haw _ rfl).1 Pz rfl, (haw _ rfl).2 Qz rfl⟩
    clear f hO hY hlt hl1 hl2 hl3 hl8 haw hbz
    simp only [pmA, List.foldl_cons, List.foldl_nil, Act.put, List.setIfInBounds_toArray, List.set_cons_zero, List.set_cons_succ]
    rw [ey, hR]
    clear ey hR
    generalize w0.setCells j0 0 _ = u6 at k7 o6 y8 y9k ⊢
    refine wpAnyH_ready (rs := [13]) (by kernel_rfl) (by simp) ?_
    refine AllReadyH.cons rfl (fun K0 hK => ?_) AllReadyH.nil
    have HT : Hid (u6.there y9 0 (#[.int .i64 0, .int .u64 0, .int .i64 0] : Array Value).size) := Lib.hid (y9k.there (n := 3) rfl)
    have HO := Lib.hid (reply_one 0 0 0)
    have fY := Fnd.setCells y9 [.int .i64 0, .int .u64 0, .int .i64 0] 0 u6
    have y9s := y9k.setCells (vs := [.int .i64 0, .int .u64 0, .int .i64 0]) rfl
    have k7s := k7.fnd fY hne.1 y9s.bx.old
    have y8s := y8.fnd fY hne.2.1 y9s.bx.old
    have o6s := o6.step fY hne.2.2.1 hne.2.2.2 y9s.bx.old
    refine step_store_mid (by rfl) 47 (.tmp 9) (.tmp 57) (by rfl) y9 0 #[.int .i64 0, .int .u64 0, .int .i64 0] (by rfl) (by rfl) HT.out info_reply HO.out ?_
    change K0 _ (u6.setCells y9 0 [.int .i64 0, .int .u64 0, .int .i64 0])
    clear fY HT HO k7 y8 o6 y9k hne Y8 HNE
    generalize u6.setCells y9 0 [.int .i64 0, .int .u64 0, .int .i64 0] = v7 at k7s y8s y9s o6s ⊢
    clear K
    have K := Lib.hid k7s
    have Y8 := Lib.hid y8s
    have Y9 := Lib.hid y9s
    have O2 := Lib.hid o6s
    clear k7s y8s y9s o6s
    refine hK.out _ _ trivial (fun _ => ?_)
    clear hK K0
    try simp only [Act.put, List.setIfInBounds_toArray, List.set_cons_zero, List.set_cons_succ, List.getElem_toArray, List.getElem_cons_zero, List.getElem_cons_succ]
    refine wpAnyH_done (by kernel_rfl) ?_ _
    go_upto_region 7 with fail
    have HS2 : Hid (StH v7 (gb2 x y) 2 32 16 (some ⟨Pz, 0, none⟩) 32 caz (some ⟨Qz, 0, none⟩) 16 ccz) := Lib.hid ⟨O2.out.lies, rfl, (gb2_len x y).1.symm, (gb2_len x y).2.symm, by decide, by decide, HC2.out.1, HC2.out.2⟩
    have HN : Hid (∀ s', (none : Option St) = some s' → 0 < s'.sl.length ∧ 0 < s'.th.length) := Lib.hid fun s' e => by cases e
    refine wp_region_held_drew (S := fun w' => Below v7.heap.size v7 w') (by kernel_rfl) (below_self v7).drew (fun hH => ?_)
    refine wpAnyH_take (i := 0) (v := .agg #[.int .i64 2, .int .i64 32, .int .i64 16, .slice (some ⟨Pz, 0, none⟩) 32 caz, .slice (some ⟨Qz, 0, none⟩) 16 ccz]) rfl (by kernel_rfl) (by kernel_rfl) (by kernel_rfl) (fun _ _ _ h => h) (yieldsIf_load_mid (by rfl) 28 (.tmp 7) (by rfl) j0 0 (by rfl) [.int .i64 2, .int .i64 32, .int .i64 16, .slice (some ⟨Pz, 0, none⟩) 32 caz, .slice (some ⟨Qz, 0, none⟩) 16 ccz] _ (fun w hS => ((K.out.bx.on hS).range)) Try.underlying28 rfl info_state) (by assumption) ?_
    try simp only [Act.put, List.setIfInBounds_toArray, List.set_cons_zero, List.set_cons_succ, List.getElem_toArray, List.getElem_cons_zero, List.getElem_cons_succ]
    refine wpAnyH_take (i := 5) (v := ?_) rfl (by kernel_rfl) (by kernel_rfl) (by kernel_rfl) (fun _ _ _ h => h) (Or.inl ⟨by rfl, ?_⟩) (by assumption) ?_
    rotate_left
    · intro w hSw; go_simp; try with_reducible rfl
    try simp only [Act.put, List.setIfInBounds_toArray, List.set_cons_zero, List.set_cons_succ, List.getElem_toArray, List.getElem_cons_zero, List.getElem_cons_succ]
    refine wpAnyH_inv (f0 := 1) [1, 2, 3, 4, 6, 7, 8, 9, 10, 11, 12, 13] [60, 61, 62, 63, 65, 66, 58, 67, 68, 10, 11] (fun l tm w => PHI v7 [3] [4] 2 32 16 (some ⟨Pz, 0, none⟩) 32 caz (some ⟨Qz, 0, none⟩) 16 ccz none (.agg #[.int .i64 5, .int .u64 0, .int .i64 0]) [.int .i64 0, .int .u64 0, .int .i64 0] false false (fun p q => .agg #[.int .i64 3, flat1 p, flat1 q, .int .i64 7, .int .i64 z, .int .u64 0]) (l 1) (l 2) (l 3) (l 4) (l 6) (l 7) (l 8) (l 9) (l 10) (l 11) (l 12) (l 13) (tm 60) (tm 61) (tm 62) (tm 63) (tm 65) (tm 66) (tm 58) (tm 67) (tm 68) (tm 10) (tm 11) w) (by kernel_rfl) (by kernel_rfl) rfl (by decide) (fun l tm w h => h.bb) ?start (AllSteps.cons rfl ?o1 (AllSteps.cons rfl ?o2 (AllSteps.cons rfl ?o3 (AllSteps.cons rfl ?o4 (AllSteps.cons rfl ?o6 (AllSteps.cons rfl ?o7 (AllSteps.cons rfl ?o8 (AllSteps.cons rfl ?o9 (AllSteps.cons rfl ?o10 (AllSteps.cons rfl ?o11 (AllSteps.cons rfl ?o12 (AllSteps.cons rfl ?o13 AllSteps.nil)))))))))))) ?fin
    case o1 =>
      intro l tm w h hl hd K0 hK
      try dsimp only at h
      rw [hl] at h
      have hh := h.addB1 (below_alloc w (.cells #[.int .i64 3] 3)) (lis_one w 3)
      exact st_run (v := .slice (some ⟨w.heap.size, 0, none⟩) 1 1) (by rfl) (by kernel_rfl) (hK.out _ _ hh)
    case o2 =>
      intro l tm w h hl hd K0 hK
      try dsimp only at h
      rw [hl] at h
      have hs := h.early1.1
      have h0 := h
      rw [hs] at h0
      obtain ⟨⟨B, nB, cB, eB, -⟩, -⟩ := h0.way1 (hd 1 (by kernel_rfl))
      have hc := way16_is (A := B) (n := nB) (cap := cB) w
      rw [← eB] at hc
      refine st_call (f := 18) (args := #[(tm 60)]) (w' := w) (by rfl) (by kernel_rfl) (hc.mono ?_)
      rintro e w1 ⟨rfl, hb⟩
      exact ⟨_, rfl, hK.out _ _ (h.addW1 (hd 1 (by kernel_rfl)) hb rfl)⟩
    case o3 =>
      intro l tm w h hl hd K0 hK
      try dsimp only at h
      rw [hl] at h
      have hh := h.addB2 (below_alloc w (.cells #[.int .i64 4] 3)) (lis_one w 4)
      exact st_run (v := .slice (some ⟨w.heap.size, 0, none⟩) 1 1) (by rfl) (by kernel_rfl) (hK.out _ _ hh)
    case o4 =>
      intro l tm w h hl hd K0 hK
      try dsimp only at h
      rw [hl] at h
      have hs := h.early2.1
      have h0 := h
      rw [hs] at h0
      obtain ⟨⟨B, nB, cB, eB, -⟩, -⟩ := h0.way2 (hd 3 (by kernel_rfl))
      have hc := way16_is (A := B) (n := nB) (cap := cB) w
      rw [← eB] at hc
      refine st_call (f := 18) (args := #[(tm 62)]) (w' := w) (by rfl) (by kernel_rfl) (hc.mono ?_)
      rintro e w1 ⟨rfl, hb⟩
      exact ⟨_, rfl, hK.out _ _ (h.addW2 (hd 3 (by kernel_rfl)) hb rfl)⟩
    case o6 =>
      intro l tm w h hl hd K0 hK
      try dsimp only at h
      rw [hl] at h
      have d1 := hd 2 (by kernel_rfl)
      have d2 := hd 4 (by kernel_rfl)
      have hs : l 13 = false := by rw [Bool.eq_false_iff]; exact fun e => absurd ((h.o e).2.2.2.2.1 rfl) (by decide)
      have h0 := h
      rw [hs] at h0
      obtain ⟨⟨B1, n1, k1, eB1, eN1, eK1, eI1⟩, eW1⟩ := h0.way1 ((h0.rg rfl).w1 d1).1
      obtain ⟨⟨B2, n2, k2, eB2, eN2, eK2, eI2⟩, eW2⟩ := h0.way2 ((h0.rg rfl).w2 d2).1
      have hW1 := (eW1 d1).trans (by rw [eB1])
      have hW2 := (eW2 d2).trans (by rw [eB2])
      refine st_run (v := (fun p q => .agg #[.int .i64 3, flat1 p, flat1 q, .int .i64 7, .int .i64 z, .int .u64 0]) (tm 61) (tm 63)) (w' := w) (by rfl) ?_ (hK.out _ _ (h.addBd d1 d2 rfl))
      simp only [List.getElem_toArray, List.getElem_cons_zero, List.getElem_cons_succ, pmA, List.foldl_cons, List.foldl_nil, Act.put, List.setIfInBounds_toArray, List.set_cons_zero, List.set_cons_succ]
      rw [hW1, hW2]
      kernel_rfl
    case o7 =>
      intro l tm w h hl hd K0 hK
      try dsimp only at h
      rw [hl] at h
      have d0 := hd 6 (by kernel_rfl)
      obtain ⟨d1, d2, eBD⟩ := h.e6 d0
      have hs : l 13 = false := h.notS.1
      have h0 := h
      rw [hs] at h0
      obtain ⟨⟨B1, n1, k1, eB1, eN1, eK1, eI1⟩, eW1⟩ := h0.way1 ((h0.rg rfl).w1 d1).1
      obtain ⟨⟨B2, n2, k2, eB2, eN2, eK2, eI2⟩, eW2⟩ := h0.way2 ((h0.rg rfl).w2 d2).1
      have hW1 := (eW1 d1).trans (by rw [eB1])
      have hW2 := (eW2 d2).trans (by rw [eB2])
      rw [hW1, hW2] at eBD
      have hA : #[.agg #[.int .i64 2, .int .i64 32, .int .i64 16, .slice (some ⟨Pz, 0, none⟩) 32 caz, .slice (some ⟨Qz, 0, none⟩) 16 ccz], .int .i64 0, (tm 65)] = #[.agg #[.int .i64 2, .int .i64 32, .int .i64 16, .slice (some ⟨Pz, 0, none⟩) 32 caz, .slice (some ⟨Qz, 0, none⟩) 16 ccz], .int .i64 0, .agg #[.int .i64 3, .slice B1 n1 k1, .slice B2 n2 k2, .int .i64 7, .int .i64 z, .int .u64 0]] := by rw [eBD]; rfl
      refine st_call (f := 22) (args := #[.agg #[.int .i64 2, .int .i64 32, .int .i64 16, .slice (some ⟨Pz, 0, none⟩) 32 caz, .slice (some ⟨Qz, 0, none⟩) 16 ccz], .int .i64 0, (tm 65)]) (w' := w) (by rfl) (by kernel_rfl) ?_
      rw [hA]
      refine (gdo_is (z := 0) (HS2.out.on h.bb) eN1 eK1 eI1 eN2 eK2 eI2 HCC.out).mono ?_
      rintro e w1 ⟨A', ca', C', cc', rfl, hb, hm⟩
      obtain ⟨q1, q2⟩ := resD_of (a := 2) (b := 32) (c := 16) (R := (.agg #[.int .i64 5, .int .u64 0, .int .i64 0])) h.bb.size hm HN.out
      exact ⟨_, rfl, hK.out _ _ (h.addD hb q1 q2)⟩
    case o8 =>
      intro l tm w h hl hd K0 hK
      try dsimp only at h
      rw [hl] at h
      exact st_run (v := tm 66) (w' := w) (by rfl) (by kernel_rfl) (hK.out _ _ (h.addMv (hd 7 (by kernel_rfl)) rfl))
    case o9 =>
      intro l tm w h hl hd K0 hK
      try dsimp only at h
      rw [hl] at h
      obtain ⟨A', ca', C', cc', eT, -⟩ := h.tup (hd 8 (by kernel_rfl))
      refine st_run (v := .agg #[.int .i64 2, .int .i64 32, .int .i64 16, .slice A' 32 ca', .slice C' 16 cc']) (w' := w) (by rfl) ?_ (hK.out _ _ (h.addE1 (hd 8 (by kernel_rfl)) eT))
      simp only [List.getElem_toArray, List.getElem_cons_zero, List.getElem_cons_succ, pmA, List.foldl_cons, List.foldl_nil, Act.put, List.setIfInBounds_toArray, List.set_cons_zero, List.set_cons_succ]
      rw [eT]
      kernel_rfl
    case o10 =>
      intro l tm w h hl hd K0 hK
      try dsimp only at h
      rw [hl] at h
      obtain ⟨A', ca', C', cc', eT, -⟩ := h.tup (hd 8 (by kernel_rfl))
      refine st_run (v := (.agg #[.int .i64 5, .int .u64 0, .int .i64 0])) (w' := w) (by rfl) ?_ (hK.out _ _ (h.addE2 (hd 8 (by kernel_rfl)) eT))
      simp only [List.getElem_toArray, List.getElem_cons_zero, List.getElem_cons_succ, pmA, List.foldl_cons, List.foldl_nil, Act.put, List.setIfInBounds_toArray, List.set_cons_zero, List.set_cons_succ]
      rw [eT]
      kernel_rfl
    case o11 =>
      intro l tm w h hl hd K0 hK
      try dsimp only at h
      rw [hl] at h
      have hh := h.addQ HN.out 28
      exact st_run (v := ptr w.heap.size) (by rfl) (by kernel_rfl) (hK.out _ _ hh)
    case o12 =>
      intro l tm w h hl hd K0 hK
      try dsimp only at h
      rw [hl] at h
      have hh := h.addY HN.out 47
      exact st_run (v := ptr w.heap.size) (by rfl) (by kernel_rfl) (hK.out _ _ hh)
    case o13 =>
      intro l tm w h hl hd K0 hK
      try dsimp only at h
      rw [hl] at h
      obtain ⟨x, A', ca', C', cc', ex, e1, ed, hw⟩ := h.atS' (hd 7 (by kernel_rfl)) (hd 8 (by kernel_rfl)) (hd 9 (by kernel_rfl)) (hd 11 (by kernel_rfl))
      have HT : Hid (w.there x 0 (#[.int .i64 2, .int .i64 32, .int .i64 16, .slice A' 32 ca', .slice C' 16 cc'] : Array Value).size) := Lib.hid (hw.there (n := 5) rfl)
      have HO := Lib.hid (state_one 2 32 16 A' 32 ca' C' 16 cc')
      refine st_store (by rfl) 28 (.tmp 10) (.tmp 67) (by rfl) x 0 #[.int .i64 2, .int .i64 32, .int .i64 16, .slice A' 32 ca', .slice C' 16 cc'] ((by kernel_rfl : _ = tm 10).trans ex) ((by kernel_rfl : _ = tm 67).trans e1) HT.out info_state HO.out ?_
      refine hK.out undef (w.setCells x 0 [.int .i64 2, .int .i64 32, .int .i64 16, .slice A' 32 ca', .slice C' 16 cc']) ?_
      exact h.addS' (hd 1 (by kernel_rfl)) (hd 2 (by kernel_rfl)) (hd 3 (by kernel_rfl)) (hd 4 (by kernel_rfl)) (fun _ => (hd 6 (by kernel_rfl))) (hd 7 (by kernel_rfl)) (hd 8 (by kernel_rfl)) (hd 9 (by kernel_rfl)) (hd 11 (by kernel_rfl)) (fun _ => (hd 12 (by kernel_rfl))) ex ed
    case start => exact ⟨hH, fun _ => ⟨hH, fun e => ff rfl e, fun e => ff rfl e, fun e => ff rfl e, fun e => ff rfl e, fun e => ff rfl e, fun e => ff rfl e, fun e => ff rfl e, fun e => ff rfl e, fun e => ff rfl e, fun e => ff rfl e⟩, fun e => ff rfl e, fun e => ff rfl e, fun e => ff rfl e, fun e => ff rfl e, fun e => ff rfl e, fun e => ff rfl e⟩
    case fin =>
      intro tm u7 h
      try dsimp only at h
      obtain ⟨hbb, hR, hP⟩ := h.fin (by kernel_rfl) (by kernel_rfl)
      obtain ⟨g7, A7, ca7, C7, cc7, ed, ex, hx, hm, hy⟩ := hP
      obtain ⟨y11, ey, hne, hY, -⟩ := hy rfl
      simp only [ptr] at ex ey
      have HY := Lib.hid hY
      clear h ed hx hm hy hY hne
      simp only [pmA, List.foldl_cons, List.foldl_nil, Act.put, List.setIfInBounds_toArray, List.set_cons_zero, List.set_cons_succ]
      rw [ex, ey, hR]
      clear ex ey hR
      refine wpAnyH_ready (rs := [14]) (by kernel_rfl) (by simp) ?_
      refine AllReadyH.cons rfl (fun K0 hK => ?_) AllReadyH.nil
      have HT : Hid (u7.there y11 0 (#[.int .i64 5, .int .u64 0, .int .i64 0] : Array Value).size) := Lib.hid (HY.out.there (n := 3) rfl)
      have HO := Lib.hid (reply_one 5 0 0)
      have kY := HY.out.setCells (vs := [.int .i64 5, .int .u64 0, .int .i64 0]) rfl
      refine step_store_mid (by rfl) 47 (.tmp 11) (.tmp 68) (by rfl) y11 0 #[.int .i64 5, .int .u64 0, .int .i64 0] (by rfl) (by rfl) HT.out info_reply HO.out ?_
      change K0 _ (u7.setCells y11 0 [.int .i64 5, .int .u64 0, .int .i64 0])
      clear HT
      generalize u7.setCells y11 0 [.int .i64 5, .int .u64 0, .int .i64 0] = v8 at kY ⊢
      have hb := kY.bx.old
      have Y11 := Lib.hid kY.bx
      clear kY HY
      refine hK.out _ _ hb (fun hH => ?_)
      clear hK K0
      try simp only [Act.put, List.setIfInBounds_toArray, List.set_cons_zero, List.set_cons_succ, List.getElem_toArray, List.getElem_cons_zero, List.getElem_cons_succ]
      refine wpAnyH_done (by kernel_rfl) ?_ _
      replace K := Lib.hid (K.out.on hb)
      replace Y8 := Lib.hid (Y8.out.on hb)
      replace Y9 := Lib.hid (Y9.out.on hb)
      replace O2 := Lib.hid (O2.out.on hb)
      clear hb hH hbb HS2
      go_upto_region 8 with fail
      have q0 := Y8.out.bx.c 0 _ rfl
      have q1 := Y8.out.bx.c 1 _ rfl
      have q2 := Y8.out.bx.c 2 _ rfl
      have r0 := Y9.out.bx.c 0 _ rfl
      have r1 := Y9.out.bx.c 1 _ rfl
      have r2 := Y9.out.bx.c 2 _ rfl
      have p0 := Y11.out.c 0 _ rfl
      have k3 := K.out.bx.c 3 _ rfl
      have hs := O2.out.sl 3 (by rw [(gb2_len x y).1]; decide)
      rw [gb2_s] at hs
      have s0 := hs 0 _ rfl
      have s1 := hs 1 _ rfl
      have s2 := hs 2 _ rfl
      have s3 := hs 3 _ rfl
      have s4 := hs 4 _ rfl
      simp only [Nat.reduceMul, Nat.reduceAdd] at s0 s1 s2 s3 s4
      clear hs
      have heq1 : ∀ w, (Op.equalIn 10000 47 (.agg #[.int .i64 0, .int .u64 0, .int .i64 0]) (.agg #[.int .i64 0, .int .u64 0, .int .i64 0])).run Try.prog w = .ok true w := fun w => eq_reply 0 0 0 0 0 0 w
      have heq2 : ∀ w, (Op.equalIn 10000 39 (.agg #[.int .i64 3, .int .i64 1, .int .i64 y, .int .i64 x]) (.agg #[.int .i64 3, .int .i64 1, .int .i64 y, .int .i64 x])).run Try.prog w = .ok true w := fun w => by
        have h := eq24 ⟨3, 1, y, x⟩ ⟨3, 1, y, x⟩ w
        rw [show Cp.eq ⟨3, 1, y, x⟩ ⟨3, 1, y, x⟩ = true by simp [Cp.eq]] at h
        exact h
      go_wp2
      go_ret
      exact ⟨rfl, below_on HB7.out K.out.bx.old⟩
end Go.Proofs.Ytfoklgenpafciaa
