/-
  The walks of the reference's Cut, CapLess and Stamp. No condition.
-/
import Derived.Test.YtlhdpmkakmkknaaDoorCn
namespace Go.Proofs.YtlhdpmkakmkknaaDoor
open Go.RowKit

theorem rcgood_at {a b d f : Int} {z : Bool} (h : Cp.good ⟨a, b, d, f⟩ = z) (w : World) : Calls Tryd.prog 21 #[.agg #[.int .i64 a, .int .i64 b, .int .i64 d, .int .i64 f]] w fun e w' => e = .returned (.bool z) ∧ Below w.heap.size w w' := h ▸ rcgood_any ⟨a, b, d, f⟩ w
theorem rboth_at {x y : Int} {m : Nat} (h : land3 (held x) (held y) = m) (w : World) : Calls Tryd.prog 37 #[.int .i64 x, .int .i64 y] w fun e w' => e = .returned (.int .i64 (m : Int)) ∧ w = w' := h ▸ rboth_any x y w
theorem risin_at {x y : Int} {b : Bool} (h : (less3 (held x) (held y) == 0) = b) (w : World) : Calls Tryd.prog 38 #[.int .i64 x, .int .i64 y] w fun e w' => e = .returned (.bool b) ∧ w = w' := h ▸ risin_any x y w

set_option maxHeartbeats 2000000 in
theorem rcut_no {a b d f : Int} (h : Cp.good ⟨a, b, d, f⟩ = false) (r : Int) (w : World) : Calls Tryd.prog 22 #[.agg #[.int .i64 a, .int .i64 b, .int .i64 d, .int .i64 f], .int .i64 r] w fun e w' => e = .returned Cp.none.val ∧ Below w.heap.size w w' := by
  have HG := Lib.hid h
  have hK := (Fr.new w a b d f 39).alloc (.cells #[.int .i64 0, .int .i64 0, .int .i64 0, .int .i64 0] 39)
  have hJ := Fr.also (W := w) (w := w.alloc (.cells #[.int .i64 a, .int .i64 b, .int .i64 d, .int .i64 f] 39)) (below_alloc _ _) 0 0 0 0 39
  rw [show (w.alloc (.cells #[.int .i64 a, .int .i64 b, .int .i64 d, .int .i64 f] 39)).heap.size = w.heap.size + 1 by simp] at hJ
  clear h
  go_enter Tryd.func22, Tryd.ntmps22
  go_wp2_with fail
  generalize (w.alloc (.cells #[.int .i64 a, .int .i64 b, .int .i64 d, .int .i64 f] 39)).alloc (.cells #[.int .i64 0, .int .i64 0, .int .i64 0, .int .i64 0] 39) = w1 at hK hJ ⊢
  refine (rcgood_at HG.out w1).mono ?_
  rintro e w2 ⟨rfl, hb⟩
  have K2 := Lib.hid (hK.on hb)
  have J2 := Lib.hid (hJ.on hb)
  clear hK hJ hb
  have d0 := J2.out.c0
  have d1 := J2.out.c1
  have d2 := J2.out.c2
  have d3 := J2.out.c3
  have f0 := J2.out.free 0
  have f1 := J2.out.free 1
  have f2 := J2.out.free 2
  have f3 := J2.out.free 3
  go_wp2
  have q := J2.out.put 0 0 0 0
  have e0 := q.c0
  have e1 := q.c1
  have e2 := q.c2
  have e3 := q.c3
  unfold put4 at e0 e1 e2 e3
  refine bodyPost_ret (by simp [results, Tryd.results22, go_sem, e0, e1, e2, e3]; rfl) rfl ?_
  exact ⟨rfl, q.old⟩

set_option maxHeartbeats 2000000 in
theorem rcut_yes {a b d f : Int} {m : Nat} {r : Int} (h : Cp.good ⟨a, b, d, f⟩ = true) (hm : land3 (held d) (held r) = m) (w : World) :
    Calls Tryd.prog 22 #[.agg #[.int .i64 a, .int .i64 b, .int .i64 d, .int .i64 f], .int .i64 r] w fun e w' => e = .returned (Cp.val ⟨a, b, (m : Int), f⟩) ∧ Below w.heap.size w w' := by
  have HG := Lib.hid h
  have HM := Lib.hid hm
  have hK := (Fr.new w a b d f 39).alloc (.cells #[.int .i64 0, .int .i64 0, .int .i64 0, .int .i64 0] 39)
  have hJ := Fr.also (W := w) (w := w.alloc (.cells #[.int .i64 a, .int .i64 b, .int .i64 d, .int .i64 f] 39)) (below_alloc _ _) 0 0 0 0 39
  rw [show (w.alloc (.cells #[.int .i64 a, .int .i64 b, .int .i64 d, .int .i64 f] 39)).heap.size = w.heap.size + 1 by simp] at hJ
  clear h hm
  go_enter Tryd.func22, Tryd.ntmps22
  go_wp2_with fail
  generalize (w.alloc (.cells #[.int .i64 a, .int .i64 b, .int .i64 d, .int .i64 f] 39)).alloc (.cells #[.int .i64 0, .int .i64 0, .int .i64 0, .int .i64 0] 39) = w1 at hK hJ ⊢
  refine (rcgood_at HG.out w1).mono ?_
  rintro e w2 ⟨rfl, hb⟩
  have K2 := Lib.hid (hK.on hb)
  have J2 := Lib.hid (hJ.on hb)
  clear hK hJ hb
  have c2 := K2.out.c2
  have k2 := K2.out.free 2
  go_wp2_with fail
  refine (rboth_at HM.out w2).mono ?_
  rintro e w3 ⟨rfl, rfl⟩
  have k0 := K2.out.c0
  have k1 := K2.out.c1
  have k3 := K2.out.c3
  have d0 := J2.out.c0
  have d1 := J2.out.c1
  have d2 := J2.out.c2
  have d3 := J2.out.c3
  have f0 := J2.out.free 0
  have f1 := J2.out.free 1
  have f2 := J2.out.free 2
  have f3 := J2.out.free 3
  go_wp2
  have q := (J2.out.other (k := w.heap.size) (by omega) (Nat.le_refl _) 2 (.int .i64 (m : Int))).put a b m f
  have e0 := q.c0
  have e1 := q.c1
  have e2 := q.c2
  have e3 := q.c3
  unfold put4 at e0 e1 e2 e3
  refine bodyPost_ret (by simp [results, Tryd.results22, go_sem, e0, e1, e2, e3]; rfl) rfl ?_
  exact ⟨rfl, q.old⟩

theorem rcut_any (c : Cp) (r : Int) (w : World) : Calls Tryd.prog 22 #[c.val, .int .i64 r] w fun e w' => e = .returned (c.cut r).val ∧ Below w.heap.size w w' := by
  obtain ⟨a, b, d, f⟩ := c
  rcases h : Cp.good ⟨a, b, d, f⟩ with _ | _
  · have e : Cp.cut ⟨a, b, d, f⟩ r = .none := by rw [Cp.cut, h]; rfl
    rw [e]
    exact rcut_no h r w
  · have e : Cp.cut ⟨a, b, d, f⟩ r = ⟨a, b, ((land3 (held d) (held r) : Nat) : Int), f⟩ := by rw [Cp.cut, h]; rfl
    rw [e]
    exact rcut_yes h rfl w

theorem flip_eq (a b : Int) : (a == b) = (b == a) := Bool.beq_comm
set_option maxHeartbeats 2000000 in
theorem rcless_any (a b : Cp) (w : World) : Calls Tryd.prog 23 #[a.val, b.val] w fun e w' => e = .returned (.bool (a.less b)) ∧ Below w.heap.size w w' := by
  obtain ⟨a0, a1, a2, a3⟩ := a
  obtain ⟨b0, b1, b2, b3⟩ := b
  unfold Cp.val
  obtain ⟨x, hx⟩ : ∃ z, Cp.non ⟨a0, a1, a2, a3⟩ = z := ⟨_, rfl⟩
  obtain ⟨y, hy⟩ : ∃ z, (less3 (held a2) (held b2) == 0) = z := ⟨_, rfl⟩
  have hg : Cp.less ⟨a0, a1, a2, a3⟩ ⟨b0, b1, b2, b3⟩ = (x || (a0 == b0 && (a1 == b1 && (y && (b3 == 0 || b3 == a3))))) := by rw [Cp.less, hx, hy]
  rw [hg]
  have heq : ∀ w, (Op.equalIn 10000 39 (.agg #[.int .i64 a0, .int .i64 a1, .int .i64 a2, .int .i64 a3]) (.agg #[.int .i64 0, .int .i64 0, .int .i64 0, .int .i64 0])).run Tryd.prog w = .ok x w := fun w => hx ▸ eq39 ⟨a0, a1, a2, a3⟩ .none w
  have HY := Lib.hid hy
  clear hx hy hg
  show Calls Tryd.prog 23 #[.agg #[.int .i64 a0, .int .i64 a1, .int .i64 a2, .int .i64 a3], .agg #[.int .i64 b0, .int .i64 b1, .int .i64 b2, .int .i64 b3]] w _
  rcases x with _ | _
  · by_cases h1 : a0 = b0
    · subst h1
      by_cases h2 : a1 = b1
      · subst h2
        rcases y with _ | _
        · go_enter Tryd.func23, Tryd.ntmps23
          go_wp2_with (go_at_call 38; (with_reducible refine (risin_at HY.out _).mono ?_); rintro e w3 ⟨rfl, rfl⟩)
          go_ret
          exact ⟨by simp [], below_on (below_alloc _ _) (below_alloc _ _)⟩
        · by_cases h3 : b3 = 0
          · subst h3
            go_enter Tryd.func23, Tryd.ntmps23
            go_wp2_with (go_at_call 38; (with_reducible refine (risin_at HY.out _).mono ?_); rintro e w3 ⟨rfl, rfl⟩)
            go_ret
            exact ⟨by simp [], below_on (below_alloc _ _) (below_alloc _ _)⟩
          · go_enter Tryd.func23, Tryd.ntmps23
            go_wp2_with (go_at_call 38; (with_reducible refine (risin_at HY.out _).mono ?_); rintro e w3 ⟨rfl, rfl⟩)
            go_ret
            exact ⟨by simp [flip_eq a3 b3], below_on (below_alloc _ _) (below_alloc _ _)⟩
      · go_enter Tryd.func23, Tryd.ntmps23
        go_wp2
        go_ret
        exact ⟨by simp [h2], below_on (below_alloc _ _) (below_alloc _ _)⟩
    · go_enter Tryd.func23, Tryd.ntmps23
      go_wp2
      go_ret
      exact ⟨by simp [h1], below_on (below_alloc _ _) (below_alloc _ _)⟩
  · go_enter Tryd.func23, Tryd.ntmps23
    go_wp2
    go_ret
    exact ⟨by simp [], below_on (below_alloc _ _) (below_alloc _ _)⟩

theorem stamp_no1 {c : Cp} {n : Int} (h : c.good = false) : c.stamp n = (.none, 1) := by rw [Cp.stamp, if_neg (fun q => by rw [h] at q; cases q.1)]
theorem stamp_no2 {c : Cp} {n : Int} (h : n < 1 ∨ 65535 < n) : c.stamp n = (.none, 1) := by
  rw [Cp.stamp, if_neg]
  rintro ⟨_, h2, h3⟩
  unfold inr at h2
  simp only [Bool.and_eq_true, decide_eq_true_eq] at h2
  omega
theorem stamp_ok {c : Cp} {n : Int} (h : c.good = true) (h1 : ¬ n < 1) (h2 : ¬ 65535 < n) : c.stamp n = if c.badged = true then (if c.ba = 0 then (⟨c.ty, c.th, c.ri, n⟩, 0) else (.none, 5)) else (.none, 7) := by
  rw [Cp.stamp, if_pos]
  refine ⟨h, ?_, by omega⟩
  unfold inr
  simp only [Bool.and_eq_true, decide_eq_true_eq]
  omega

set_option maxHeartbeats 4000000 in
theorem rstamp_any (c : Cp) (n : Int) (w : World) : Calls Tryd.prog 20 #[c.val, .int .i64 n] w fun e w' => e = .returned (stV (c.stamp n)) ∧ Below w.heap.size w w' := by
  obtain ⟨a, b, d, f⟩ := c
  obtain ⟨x, hx⟩ : ∃ x, Cp.good ⟨a, b, d, f⟩ = x := ⟨_, rfl⟩
  have HX := Lib.hid hx
  have hK := (Fr.new w a b d f 39).alloc (.cells #[.int .i64 0, .int .i64 0, .int .i64 0, .int .i64 0] 39)
  have hJ := Fr.also (W := w) (w := w.alloc (.cells #[.int .i64 a, .int .i64 b, .int .i64 d, .int .i64 f] 39)) (below_alloc _ _) 0 0 0 0 39
  rw [show (w.alloc (.cells #[.int .i64 a, .int .i64 b, .int .i64 d, .int .i64 f] 39)).heap.size = w.heap.size + 1 by simp] at hJ
  clear hx
  obtain ⟨r, hr⟩ : ∃ r, Cp.stamp ⟨a, b, d, f⟩ n = r := ⟨_, rfl⟩
  rw [hr]
  have HR := Lib.hid hr
  clear hr
  show Calls Tryd.prog 20 #[.agg #[.int .i64 a, .int .i64 b, .int .i64 d, .int .i64 f], .int .i64 n] w _
  go_enter Tryd.func20, Tryd.ntmps20
  go_wp2_with fail
  generalize (w.alloc (.cells #[.int .i64 a, .int .i64 b, .int .i64 d, .int .i64 f] 39)).alloc (.cells #[.int .i64 0, .int .i64 0, .int .i64 0, .int .i64 0] 39) = w1 at hK hJ ⊢
  refine (rcgood_at HX.out w1).mono ?_
  rintro e w2 ⟨rfl, hb⟩
  have K3 := Lib.hid (hK.on hb)
  have J3 := Lib.hid (hJ.on hb)
  clear hK hJ hb
  have c0 := K3.out.c0
  have c1 := K3.out.c1
  have c2 := K3.out.c2
  have c3 := K3.out.c3
  have k3 := K3.out.free 3
  have d0 := J3.out.c0
  have d1 := J3.out.c1
  have d2 := J3.out.c2
  have d3 := J3.out.c3
  have f0 := J3.out.free 0
  have f1 := J3.out.free 1
  have f2 := J3.out.free 2
  have f3 := J3.out.free 3
  rcases x with _ | _
  · have hr := HR.out.symm.trans (stamp_no1 HX.out)
    go_wp2
    have q := J3.out.put 0 0 0 0
    have e0 := q.c0
    have e1 := q.c1
    have e2 := q.c2
    have e3 := q.c3
    unfold put4 at e0 e1 e2 e3
    subst hr
    refine bodyPost_ret (by simp [results, Tryd.results20, go_sem, e0, e1, e2, e3]; rfl) rfl ?_
    exact ⟨rfl, q.old⟩
  by_cases hn : n < 1
  · have hr := HR.out.symm.trans (stamp_no2 (.inl hn))
    go_wp2
    have q := J3.out.put 0 0 0 0
    have e0 := q.c0
    have e1 := q.c1
    have e2 := q.c2
    have e3 := q.c3
    unfold put4 at e0 e1 e2 e3
    subst hr
    refine bodyPost_ret (by simp [results, Tryd.results20, go_sem, e0, e1, e2, e3]; rfl) rfl ?_
    exact ⟨rfl, q.old⟩
  by_cases hm : 65535 < n
  · have hr := HR.out.symm.trans (stamp_no2 (.inr hm))
    go_wp2
    have q := J3.out.put 0 0 0 0
    have e0 := q.c0
    have e1 := q.c1
    have e2 := q.c2
    have e3 := q.c3
    unfold put4 at e0 e1 e2 e3
    subst hr
    refine bodyPost_ret (by simp [results, Tryd.results20, go_sem, e0, e1, e2, e3]; rfl) rfl ?_
    exact ⟨rfl, q.old⟩
  have hr := HR.out.symm.trans (stamp_ok HX.out hn hm)
  have B : Cp.badged ⟨a, b, d, f⟩ = (a == 3 || a == 4) := rfl
  rw [B] at hr
  have HR2 := Lib.hid hr
  clear B hr
  by_cases h3 : a = 3
  · subst h3
    by_cases hf : f = 0
    · subst hf
      have hr : r = ((⟨3, b, d, n⟩ : Cp), 0) := HR2.out.trans (by simp)
      go_wp2
      have q := (J3.out.other (k := w.heap.size) (by omega) (Nat.le_refl _) 3 (.int .i64 n)).put 3 b d n
      have e0 := q.c0
      have e1 := q.c1
      have e2 := q.c2
      have e3 := q.c3
      unfold put4 at e0 e1 e2 e3
      subst hr
      refine bodyPost_ret (by simp [results, Tryd.results20, go_sem, e0, e1, e2, e3]; rfl) rfl ?_
      exact ⟨rfl, q.old⟩
    · have hr : r = (.none, 5) := HR2.out.trans (by simp [hf])
      go_wp2
      have q := J3.out.put 0 0 0 0
      have e0 := q.c0
      have e1 := q.c1
      have e2 := q.c2
      have e3 := q.c3
      unfold put4 at e0 e1 e2 e3
      subst hr
      refine bodyPost_ret (by simp [results, Tryd.results20, go_sem, e0, e1, e2, e3]; rfl) rfl ?_
      exact ⟨rfl, q.old⟩
  by_cases h4 : a = 4
  · subst h4
    by_cases hf : f = 0
    · subst hf
      have hr : r = ((⟨4, b, d, n⟩ : Cp), 0) := HR2.out.trans (by simp)
      go_wp2
      have q := (J3.out.other (k := w.heap.size) (by omega) (Nat.le_refl _) 3 (.int .i64 n)).put 4 b d n
      have e0 := q.c0
      have e1 := q.c1
      have e2 := q.c2
      have e3 := q.c3
      unfold put4 at e0 e1 e2 e3
      subst hr
      refine bodyPost_ret (by simp [results, Tryd.results20, go_sem, e0, e1, e2, e3]; rfl) rfl ?_
      exact ⟨rfl, q.old⟩
    · have hr : r = (.none, 5) := HR2.out.trans (by simp [hf])
      go_wp2
      have q := J3.out.put 0 0 0 0
      have e0 := q.c0
      have e1 := q.c1
      have e2 := q.c2
      have e3 := q.c3
      unfold put4 at e0 e1 e2 e3
      subst hr
      refine bodyPost_ret (by simp [results, Tryd.results20, go_sem, e0, e1, e2, e3]; rfl) rfl ?_
      exact ⟨rfl, q.old⟩
  have hr : r = (.none, 7) := HR2.out.trans (by simp [h3, h4])
  have n3 : (a != 3) = true := by simpa using h3
  have n4 : (a != 4) = true := by simpa using h4
  go_wp2
  have q := J3.out.put 0 0 0 0
  have e0 := q.c0
  have e1 := q.c1
  have e2 := q.c2
  have e3 := q.c3
  unfold put4 at e0 e1 e2 e3
  subst hr
  refine bodyPost_ret (by simp [results, Tryd.results20, go_sem, e0, e1, e2, e3]; rfl) rfl ?_
  exact ⟨rfl, q.old⟩
end Go.Proofs.YtlhdpmkakmkknaaDoor
