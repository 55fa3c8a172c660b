/-
  The walk of the law CapLess: it answers true. No condition.
-/
import Derived.Test.YtlhdpmkakmkknaaDoorCg
namespace Go.Proofs.YtlhdpmkakmkknaaDoor
open Go.RowKit

theorem less3_self : ∀ x < 8, less3 x x = 0 := by decide +kernel
theorem less3_cut : ∀ x < 8, ∀ y < 8, less3 (land3 x y) x = 0 := by decide +kernel
theorem less3_on : ∀ x < 8, ∀ y < 8, ∀ z < 8, less3 x y = 0 → less3 y z = 0 → less3 x z = 0 := by decide +kernel
theorem less3_same : ∀ x < 8, ∀ y < 8, less3 x y = 0 → less3 y x = 0 → x = y := by decide +kernel

theorem less_iff {a b : Cp} : a.less b = true ↔ a.non = true ∨ (a.ty = b.ty ∧ a.th = b.th ∧ less3 (held a.ri) (held b.ri) = 0 ∧ (b.ba = 0 ∨ b.ba = a.ba)) := by
  simp only [Cp.less, Bool.or_eq_true, Bool.and_eq_true, beq_iff_eq]
theorem less_refl (a : Cp) : a.less a = true := less_iff.2 (.inr ⟨rfl, rfl, less3_self _ (held_lt _), .inr rfl⟩)
theorem less_cut {a b d f : Int} {m : Nat} {r : Int} (hm : land3 (held d) (held r) = m) : Cp.less ⟨a, b, (m : Int), f⟩ ⟨a, b, d, f⟩ = true := by
  have h8 : m < 8 := hm ▸ land3_lt _ (held_lt d) _ (held_lt r)
  refine less_iff.2 (.inr ⟨rfl, rfl, ?_, .inr rfl⟩)
  rw [held_self h8, ← hm]
  exact less3_cut _ (held_lt d) _ (held_lt r)
theorem zero_non {a : Cp} (h : a.good = true) (h0 : a.ty = 0) : a.non = true := by
  obtain ⟨t, n, r, g⟩ := a
  rcases good_iff_all.1 h with ⟨rfl, rfl, rfl, rfl⟩ | ⟨h1, _⟩
  · rfl
  · simp only at h0; omega
theorem non_ty {a : Cp} (h : a.non = true) : a.ty = 0 := by rw [non_eq h]; rfl
theorem less_stamp {a : Cp} {n : Int} {s : Cp} (h : a.stamp n = (s, 0)) : s.less a = true ∧ a.less s = false := by
  unfold Cp.stamp at h
  split at h
  · next h1 =>
    split at h
    · next h2 =>
      split at h
      · next h3 =>
        injection h with h4
        subst h4
        have hn : a.non = false := by
          rcases hn : a.non with _ | _
          · rfl
          · have := non_ty hn
            simp only [Cp.badged, Bool.or_eq_true, beq_iff_eq] at h2
            omega
        refine ⟨less_iff.2 (.inr ⟨rfl, rfl, less3_self _ (held_lt _), .inl h3⟩), ?_⟩
        rcases hl : a.less ⟨a.ty, a.th, a.ri, n⟩ with _ | _
        · rfl
        · rcases less_iff.1 hl with q | ⟨_, _, _, q⟩
          · rw [hn] at q; cases q
          · simp only at q
            have := h1.2.2
            omega
      · injection h with h4 h5; cases h5
    · injection h with h4 h5; cases h5
  · injection h with h4 h5; cases h5
theorem less_on {a b c : Cp} (ha : a.good = true) (h1 : a.less b = true) (h2 : b.less c = true) : a.less c = true := by
  rcases less_iff.1 h1 with h | ⟨e1, e2, e3, e4⟩
  · exact less_iff.2 (.inl h)
  · rcases less_iff.1 h2 with h | ⟨f1, f2, f3, f4⟩
    · exact less_iff.2 (.inl (zero_non ha (e1.trans (non_ty h))))
    · exact less_iff.2 (.inr ⟨e1.trans f1, e2.trans f2, less3_on _ (held_lt _) _ (held_lt _) _ (held_lt _) e3 f3, by omega⟩)
theorem held_back {a b d f : Int} (h : Cp.good ⟨a, b, d, f⟩ = true) : ((held d : Nat) : Int) = d := by
  have : inr d 7 = true := by
    unfold inr
    simp only [Bool.and_eq_true, decide_eq_true_eq]
    rcases good_iff_all.1 h with ⟨_, _, h3, _⟩ | ⟨_, _, _, _, h5, h6, _⟩ <;> omega
  exact held_yes this
theorem less_both {a b : Cp} (ha : a.good = true) (hb : b.good = true) (h1 : a.less b = true) (h2 : b.less a = true) : a.eq b = true := by
  have key : a = b := by
    rcases less_iff.1 h1 with h | ⟨e1, e2, e3, e4⟩
    · rcases less_iff.1 h2 with k | ⟨f1, _⟩
      · rw [non_eq h, non_eq k]
      · rw [non_eq h, non_eq (zero_non hb (f1.trans (non_ty h)))]
    · rcases less_iff.1 h2 with k | ⟨f1, f2, f3, f4⟩
      · rw [non_eq k, non_eq (zero_non ha (e1.trans (non_ty k)))]
      · obtain ⟨a0, a1, a2, a3⟩ := a
        obtain ⟨b0, b1, b2, b3⟩ := b
        have r := less3_same _ (held_lt _) _ (held_lt _) e3 f3
        have ra := held_back ha
        have rb := held_back hb
        simp only at *
        subst e1 e2
        congr 1 <;> omega
  subst key
  simp [Cp.eq]

theorem less_at {a0 a1 a2 a3 b0 b1 b2 b3 : Int} {z : Bool} (h : Cp.less ⟨a0, a1, a2, a3⟩ ⟨b0, b1, b2, b3⟩ = z) (w : World) :
    Calls Tryd.prog 16 #[.agg #[.int .i64 a0, .int .i64 a1, .int .i64 a2, .int .i64 a3], .agg #[.int .i64 b0, .int .i64 b1, .int .i64 b2, .int .i64 b3]] w fun e w' => e = .returned (.bool z) ∧ Below w.heap.size w w' := h ▸ cless_any ⟨a0, a1, a2, a3⟩ ⟨b0, b1, b2, b3⟩ w
theorem cut_to {a b d f : Int} {m : Nat} {r : Int} (h : Cp.good ⟨a, b, d, f⟩ = true) (hm : land3 (held d) (held r) = m) (w : World) :
    Calls Tryd.prog 13 #[.agg #[.int .i64 a, .int .i64 b, .int .i64 d, .int .i64 f], .int .i64 r] w fun e w' => e = .returned (.agg #[.int .i64 a, .int .i64 b, .int .i64 (m : Int), .int .i64 f]) ∧ Below w.heap.size w w' := cut_yes h hm w
theorem stamp_at {a0 a1 a2 a3 n s0 s1 s2 s3 e : Int} (h : Cp.stamp ⟨a0, a1, a2, a3⟩ n = (⟨s0, s1, s2, s3⟩, e)) (w : World) :
    Calls Tryd.prog 10 #[.agg #[.int .i64 a0, .int .i64 a1, .int .i64 a2, .int .i64 a3], .int .i64 n] w fun v w' => v = .returned (.tuple #[.agg #[.int .i64 s0, .int .i64 s1, .int .i64 s2, .int .i64 s3], .int .i64 e]) ∧ Below w.heap.size w w' := by
  have := stamp_any ⟨a0, a1, a2, a3⟩ n w
  rw [h] at this
  exact this

/-- three capabilities in the call's first blocks -/
structure Tri (W w : World) (a0 a1 a2 a3 b0 b1 b2 b3 c0 c1 c2 c3 : Int) : Prop where
  a : Fr W w W.heap.size a0 a1 a2 a3
  b : Fr W w (W.heap.size + 1) b0 b1 b2 b3
  c : Fr W w (W.heap.size + 1 + 1) c0 c1 c2 c3
/-- and a fourth one -/
structure Quad (W w : World) (p : Nat) (a0 a1 a2 a3 b0 b1 b2 b3 c0 c1 c2 c3 s0 s1 s2 s3 : Int) : Prop where
  t : Tri W w a0 a1 a2 a3 b0 b1 b2 b3 c0 c1 c2 c3
  s : Fr W w p s0 s1 s2 s3
section
variable {W w w' : World} {p N : Nat} {a0 a1 a2 a3 b0 b1 b2 b3 c0 c1 c2 c3 s0 s1 s2 s3 : Int}
theorem Tri.new (w : World) (a0 a1 a2 a3 b0 b1 b2 b3 c0 c1 c2 c3 : Int) : Tri w (((w.alloc (.cells #[.int .i64 a0, .int .i64 a1, .int .i64 a2, .int .i64 a3] 24)).alloc (.cells #[.int .i64 b0, .int .i64 b1, .int .i64 b2, .int .i64 b3] 24)).alloc (.cells #[.int .i64 c0, .int .i64 c1, .int .i64 c2, .int .i64 c3] 24)) a0 a1 a2 a3 b0 b1 b2 b3 c0 c1 c2 c3 := by
  have h1 := Fr.new w a0 a1 a2 a3 24
  have h2 := Fr.also (W := w) h1.old b0 b1 b2 b3 24
  have h3 := Fr.also (W := w) h2.old c0 c1 c2 c3 24
  refine ⟨(h1.alloc _).alloc _, ?_, ?_⟩
  · have := h2.alloc (.cells #[.int .i64 c0, .int .i64 c1, .int .i64 c2, .int .i64 c3] 24)
    simpa using this
  · simpa using h3
theorem Tri.on (h : Tri W w a0 a1 a2 a3 b0 b1 b2 b3 c0 c1 c2 c3) (hb : Below w.heap.size w w') : Tri W w' a0 a1 a2 a3 b0 b1 b2 b3 c0 c1 c2 c3 := ⟨h.a.on hb, h.b.on hb, h.c.on hb⟩
theorem Quad.on (h : Quad W w p a0 a1 a2 a3 b0 b1 b2 b3 c0 c1 c2 c3 s0 s1 s2 s3) (hb : Below w.heap.size w w') : Quad W w' p a0 a1 a2 a3 b0 b1 b2 b3 c0 c1 c2 c3 s0 s1 s2 s3 := ⟨h.t.on hb, h.s.on hb⟩
theorem Quad.drew (h : Quad W w p a0 a1 a2 a3 b0 b1 b2 b3 c0 c1 c2 c3 s0 s1 s2 s3) : Quad W w.drew p a0 a1 a2 a3 b0 b1 b2 b3 c0 c1 c2 c3 s0 s1 s2 s3 := h.on (below_self _).drew
theorem quad_use {xs : Array Value} {r : Value} (h : Quad W w p a0 a1 a2 a3 b0 b1 b2 b3 c0 c1 c2 c3 s0 s1 s2 s3) (hc : Calls Tryd.prog N xs w fun e w' => e = .returned r ∧ Below w.heap.size w w') :
    Calls Tryd.prog N xs w fun e w' => e = .returned r ∧ w'.cell? ⟨W.heap.size, 0, none⟩ = some (.int .i64 a0) ∧ w'.cell? ⟨W.heap.size, 1, none⟩ = some (.int .i64 a1) ∧ w'.cell? ⟨W.heap.size, 2, none⟩ = some (.int .i64 a2) ∧ w'.cell? ⟨W.heap.size, 3, none⟩ = some (.int .i64 a3) ∧
      w'.cell? ⟨p, 0, none⟩ = some (.int .i64 s0) ∧ w'.cell? ⟨p, 1, none⟩ = some (.int .i64 s1) ∧ w'.cell? ⟨p, 2, none⟩ = some (.int .i64 s2) ∧ w'.cell? ⟨p, 3, none⟩ = some (.int .i64 s3) ∧ Quad W w' p a0 a1 a2 a3 b0 b1 b2 b3 c0 c1 c2 c3 s0 s1 s2 s3 := by
  refine hc.mono ?_
  rintro e w' ⟨rfl, hb⟩
  have k := h.on hb
  exact ⟨rfl, k.t.a.c0, k.t.a.c1, k.t.a.c2, k.t.a.c3, k.s.c0, k.s.c1, k.s.c2, k.s.c3, k⟩
theorem tri_use {xs : Array Value} {r : Value} (h : Tri W w a0 a1 a2 a3 b0 b1 b2 b3 c0 c1 c2 c3) (hc : Calls Tryd.prog N xs w fun e w' => e = .returned r ∧ Below w.heap.size w w') :
    Calls Tryd.prog N xs w fun e w' => e = .returned r ∧ w'.cell? ⟨W.heap.size, 0, none⟩ = some (.int .i64 a0) ∧ w'.cell? ⟨W.heap.size, 1, none⟩ = some (.int .i64 a1) ∧ w'.cell? ⟨W.heap.size, 2, none⟩ = some (.int .i64 a2) ∧ w'.cell? ⟨W.heap.size, 3, none⟩ = some (.int .i64 a3) ∧
      w'.cell? ⟨W.heap.size + 1, 0, none⟩ = some (.int .i64 b0) ∧ w'.cell? ⟨W.heap.size + 1, 1, none⟩ = some (.int .i64 b1) ∧ w'.cell? ⟨W.heap.size + 1, 2, none⟩ = some (.int .i64 b2) ∧ w'.cell? ⟨W.heap.size + 1, 3, none⟩ = some (.int .i64 b3) ∧
      w'.cell? ⟨W.heap.size + 1 + 1, 0, none⟩ = some (.int .i64 c0) ∧ w'.cell? ⟨W.heap.size + 1 + 1, 1, none⟩ = some (.int .i64 c1) ∧ w'.cell? ⟨W.heap.size + 1 + 1, 2, none⟩ = some (.int .i64 c2) ∧ w'.cell? ⟨W.heap.size + 1 + 1, 3, none⟩ = some (.int .i64 c3) ∧
      Tri W w' a0 a1 a2 a3 b0 b1 b2 b3 c0 c1 c2 c3 := by
  refine hc.mono ?_
  rintro e w' ⟨rfl, hb⟩
  have k := h.on hb
  exact ⟨rfl, k.a.c0, k.a.c1, k.a.c2, k.a.c3, k.b.c0, k.b.c1, k.b.c2, k.b.c3, k.c.c0, k.c.c1, k.c.c2, k.c.c3, k⟩
end

set_option maxHeartbeats 16000000 in
theorem less_walk (a b c : Cp) (r n : Int) (w : World) : Calls Tryd.prog 5 #[a.val, b.val, c.val, .int .i64 r, .int .i64 n] w fun e w' => e = .returned (.bool true) ∧ Below w.heap.size w w' := by
  obtain ⟨a0, a1, a2, a3⟩ := a
  obtain ⟨b0, b1, b2, b3⟩ := b
  obtain ⟨c0, c1, c2, c3⟩ := c
  have hK := Tri.new w a0 a1 a2 a3 b0 b1 b2 b3 c0 c1 c2 c3
  show Calls Tryd.prog 5 #[.agg #[.int .i64 a0, .int .i64 a1, .int .i64 a2, .int .i64 a3], .agg #[.int .i64 b0, .int .i64 b1, .int .i64 b2, .int .i64 b3], .agg #[.int .i64 c0, .int .i64 c1, .int .i64 c2, .int .i64 c3], .int .i64 r, .int .i64 n] w _
  go_enter Tryd.func5, Tryd.ntmps5
  go_wp2_with fail
  generalize ((w.alloc (.cells #[.int .i64 a0, .int .i64 a1, .int .i64 a2, .int .i64 a3] 24)).alloc (.cells #[.int .i64 b0, .int .i64 b1, .int .i64 b2, .int .i64 b3] 24)).alloc (.cells #[.int .i64 c0, .int .i64 c1, .int .i64 c2, .int .i64 c3] 24) = w1 at hK ⊢
  refine (awake_any w1).mono ?_
  rintro e w2 ⟨rfl, hb⟩
  have K := Lib.hid (hK.on hb)
  clear hK hb
  have k0 := K.out.a.c0
  have k1 := K.out.a.c1
  have k2 := K.out.a.c2
  have k3 := K.out.a.c3
  go_wp2_with fail
  clear k0 k1 k2 k3
  rcases ha : Cp.good ⟨a0, a1, a2, a3⟩ with _ | _
  · refine (cgood_at ha w2).mono ?_
    rintro e w3 ⟨rfl, hb⟩
    go_wp2
    go_ret
    exact ⟨rfl, (K.out.on hb).a.old⟩
  refine (cgood_at ha w2).mono ?_
  rintro e w3 ⟨rfl, hb⟩
  replace K := Lib.hid (K.out.on hb)
  clear hb
  have k0 := K.out.b.c0
  have k1 := K.out.b.c1
  have k2 := K.out.b.c2
  have k3 := K.out.b.c3
  go_wp2_with fail
  clear k0 k1 k2 k3
  rcases hb : Cp.good ⟨b0, b1, b2, b3⟩ with _ | _
  · refine (cgood_at hb w3).mono ?_
    rintro e w4 ⟨rfl, hb⟩
    go_wp2
    go_ret
    exact ⟨rfl, (K.out.on hb).a.old⟩
  refine (cgood_at hb w3).mono ?_
  rintro e w4 ⟨rfl, hb⟩
  replace K := Lib.hid (K.out.on hb)
  clear hb
  have k0 := K.out.c.c0
  have k1 := K.out.c.c1
  have k2 := K.out.c.c2
  have k3 := K.out.c.c3
  go_wp2_with fail
  clear k0 k1 k2 k3
  rcases hc : Cp.good ⟨c0, c1, c2, c3⟩ with _ | _
  · refine (cgood_at hc w4).mono ?_
    rintro e w5 ⟨rfl, hb⟩
    go_wp2
    go_ret
    exact ⟨rfl, (K.out.on hb).a.old⟩
  refine (cgood_at hc w4).mono ?_
  rintro e w5 ⟨rfl, hb⟩
  replace K := Lib.hid (K.out.on hb)
  clear hb
  have k0 := K.out.a.c0
  have k1 := K.out.a.c1
  have k2 := K.out.a.c2
  have k3 := K.out.a.c3
  go_wp2_with fail
  clear k0 k1 k2 k3
  obtain ⟨⟨⟨s0, s1, s2, s3⟩, z⟩, hs⟩ : ∃ s, Cp.stamp ⟨a0, a1, a2, a3⟩ n = s := ⟨_, rfl⟩
  refine (stamp_at hs w5).mono ?_
  rintro e w6 ⟨rfl, hb⟩
  replace K := Lib.hid (K.out.on hb)
  clear hb
  have hQ : Quad w (w6.alloc (.cells #[.int .i64 s0, .int .i64 s1, .int .i64 s2, .int .i64 s3] 24)) w6.heap.size a0 a1 a2 a3 b0 b1 b2 b3 c0 c1 c2 c3 s0 s1 s2 s3 := ⟨K.out.on (below_alloc _ _), Fr.also (W := w) K.out.a.old s0 s1 s2 s3 24⟩
  have HQ := Lib.hid hQ
  clear hQ
  go_wp2_with fail
  obtain ⟨p, hp⟩ : ∃ p, w6.heap.size = p := ⟨_, rfl⟩
  rw [hp] at HQ ⊢
  clear K hp
  generalize w6.alloc (.cells #[.int .i64 s0, .int .i64 s1, .int .i64 s2, .int .i64 s3] 24) = w7 at *
  have hQ := HQ.out.drew
  have k0 := hQ.t.a.c0
  have k1 := hQ.t.a.c1
  have k2 := hQ.t.a.c2
  have k3 := hQ.t.a.c3
  have l0 := hQ.s.c0
  have l1 := hQ.s.c1
  have l2 := hQ.s.c2
  have l3 := hQ.s.c3
  obtain ⟨m, hm⟩ : ∃ m, land3 (held a2) (held r) = m := ⟨_, rfl⟩
  have HA := Lib.hid ha
  have HM := Lib.hid hm
  have HC := Lib.hid (less_cut (a := a0) (b := a1) (f := a3) hm)
  have HR := Lib.hid (less_refl ⟨a0, a1, a2, a3⟩)
  obtain ⟨x, hx⟩ : ∃ x, Cp.less ⟨a0, a1, a2, a3⟩ ⟨b0, b1, b2, b3⟩ = x := ⟨_, rfl⟩
  obtain ⟨y, hy⟩ : ∃ x, Cp.less ⟨b0, b1, b2, b3⟩ ⟨c0, c1, c2, c3⟩ = x := ⟨_, rfl⟩
  obtain ⟨u, hu⟩ : ∃ x, Cp.less ⟨b0, b1, b2, b3⟩ ⟨a0, a1, a2, a3⟩ = x := ⟨_, rfl⟩
  have HX := Lib.hid hx
  have HY := Lib.hid hy
  have HU := Lib.hid hu
  have HON : Hid (x = true → y = true → Cp.less ⟨a0, a1, a2, a3⟩ ⟨c0, c1, c2, c3⟩ = true) := Lib.hid fun h1 h2 => less_on ha (hx.trans h1) (hy.trans h2)
  have HBO : Hid (x = true → u = true → Cp.eq ⟨a0, a1, a2, a3⟩ ⟨b0, b1, b2, b3⟩ = true) := Lib.hid fun h1 h2 => less_both ha hb (hx.trans h1) (hu.trans h2)
  have HS := Lib.hid hs
  clear ha hb hc hm hx hy hu HQ hs
  by_cases hz : z = 0
  · subst hz
    obtain ⟨hl1, hl2⟩ := less_stamp HS.out
    have HL1 := Lib.hid hl1
    have HL2 := Lib.hid hl2
    clear hl1 hl2
    go_region_held3 (fun w' => w'.cell? ⟨w.heap.size, 0, none⟩ = some (.int .i64 a0) ∧ w'.cell? ⟨w.heap.size, 1, none⟩ = some (.int .i64 a1) ∧ w'.cell? ⟨w.heap.size, 2, none⟩ = some (.int .i64 a2) ∧ w'.cell? ⟨w.heap.size, 3, none⟩ = some (.int .i64 a3) ∧
      w'.cell? ⟨p, 0, none⟩ = some (.int .i64 s0) ∧ w'.cell? ⟨p, 1, none⟩ = some (.int .i64 s1) ∧ w'.cell? ⟨p, 2, none⟩ = some (.int .i64 s2) ∧ w'.cell? ⟨p, 3, none⟩ = some (.int .i64 s3) ∧ Quad w w' p a0 a1 a2 a3 b0 b1 b2 b3 c0 c1 c2 c3 s0 s1 s2 s3)
    (first | exact ⟨by with_reducible assumption, by with_reducible assumption, by with_reducible assumption, by with_reducible assumption, by with_reducible assumption, by with_reducible assumption, by with_reducible assumption, by with_reducible assumption, by with_reducible assumption⟩ | fail)
    (first
      | (go_at_call 13; ((with_reducible refine (quad_use (by with_reducible assumption) (cut_to HA.out HM.out _)).mono ?_); rintro e w' ⟨rfl, y0, y1, y2, y3, y4, y5, y6, y7, y8⟩))
      | (go_at_call 16; ((with_reducible refine (quad_use (by with_reducible assumption) (less_at HC.out _)).mono ?_); rintro e w' ⟨rfl, y0, y1, y2, y3, y4, y5, y6, y7, y8⟩))
      | (go_at_call 16; ((with_reducible refine (quad_use (by with_reducible assumption) (less_at HL1.out _)).mono ?_); rintro e w' ⟨rfl, y0, y1, y2, y3, y4, y5, y6, y7, y8⟩))
      | (go_at_call 16; ((with_reducible refine (quad_use (by with_reducible assumption) (less_at HL2.out _)).mono ?_); rintro e w' ⟨rfl, y0, y1, y2, y3, y4, y5, y6, y7, y8⟩))
      | (go_at_call 16; ((with_reducible refine (quad_use (by with_reducible assumption) (less_at HR.out _)).mono ?_); rintro e w' ⟨rfl, y0, y1, y2, y3, y4, y5, y6, y7, y8⟩)))
    have T := y8.t
    have ua0 := T.a.c0
    have ua1 := T.a.c1
    have ua2 := T.a.c2
    have ua3 := T.a.c3
    have ub0 := T.b.c0
    have ub1 := T.b.c1
    have ub2 := T.b.c2
    have ub3 := T.b.c3
    have uc0 := T.c.c0
    have uc1 := T.c.c1
    have uc2 := T.c.c2
    have uc3 := T.c.c3
    rcases x with _ | _
    · go_wp2_with (first | (go_at_call 16; (with_reducible refine (tri_use (by with_reducible assumption) (less_at HX.out _)).mono ?_); rintro e w' ⟨rfl, q0, q1, q2, q3, q4, q5, q6, q7, q8, q9, q10, q11, T⟩))
      go_ret
      exact ⟨by simp, T.a.old⟩
    · rcases y with _ | _
      · rcases u with _ | _
        · go_wp2_with (first | (go_at_call 16; (with_reducible refine (tri_use (by with_reducible assumption) (less_at HX.out _)).mono ?_); rintro e w' ⟨rfl, q0, q1, q2, q3, q4, q5, q6, q7, q8, q9, q10, q11, T⟩)  | (go_at_call 16; (with_reducible refine (tri_use (by with_reducible assumption) (less_at HY.out _)).mono ?_); rintro e w' ⟨rfl, q0, q1, q2, q3, q4, q5, q6, q7, q8, q9, q10, q11, T⟩)  | (go_at_call 16; (with_reducible refine (tri_use (by with_reducible assumption) (less_at HU.out _)).mono ?_); rintro e w' ⟨rfl, q0, q1, q2, q3, q4, q5, q6, q7, q8, q9, q10, q11, T⟩))
          go_ret
          exact ⟨by simp, T.a.old⟩
        · have heq : ∀ w, (Op.equalIn 10000 24 (.agg #[.int .i64 a0, .int .i64 a1, .int .i64 a2, .int .i64 a3]) (.agg #[.int .i64 b0, .int .i64 b1, .int .i64 b2, .int .i64 b3])).run Tryd.prog w = .ok true w := fun w => by have := eq24 ⟨a0, a1, a2, a3⟩ ⟨b0, b1, b2, b3⟩ w; rwa [HBO.out rfl rfl] at this
          go_wp2_with (first | (go_at_call 16; (with_reducible refine (tri_use (by with_reducible assumption) (less_at HX.out _)).mono ?_); rintro e w' ⟨rfl, q0, q1, q2, q3, q4, q5, q6, q7, q8, q9, q10, q11, T⟩)  | (go_at_call 16; (with_reducible refine (tri_use (by with_reducible assumption) (less_at HY.out _)).mono ?_); rintro e w' ⟨rfl, q0, q1, q2, q3, q4, q5, q6, q7, q8, q9, q10, q11, T⟩)  | (go_at_call 16; (with_reducible refine (tri_use (by with_reducible assumption) (less_at HU.out _)).mono ?_); rintro e w' ⟨rfl, q0, q1, q2, q3, q4, q5, q6, q7, q8, q9, q10, q11, T⟩))
          go_ret
          exact ⟨by simp, T.a.old⟩
      · have HAC := Lib.hid (HON.out rfl rfl)
        rcases u with _ | _
        · go_wp2_with (first | (go_at_call 16; (with_reducible refine (tri_use (by with_reducible assumption) (less_at HX.out _)).mono ?_); rintro e w' ⟨rfl, q0, q1, q2, q3, q4, q5, q6, q7, q8, q9, q10, q11, T⟩)  | (go_at_call 16; (with_reducible refine (tri_use (by with_reducible assumption) (less_at HY.out _)).mono ?_); rintro e w' ⟨rfl, q0, q1, q2, q3, q4, q5, q6, q7, q8, q9, q10, q11, T⟩)  | (go_at_call 16; (with_reducible refine (tri_use (by with_reducible assumption) (less_at HAC.out _)).mono ?_); rintro e w' ⟨rfl, q0, q1, q2, q3, q4, q5, q6, q7, q8, q9, q10, q11, T⟩)  | (go_at_call 16; (with_reducible refine (tri_use (by with_reducible assumption) (less_at HU.out _)).mono ?_); rintro e w' ⟨rfl, q0, q1, q2, q3, q4, q5, q6, q7, q8, q9, q10, q11, T⟩))
          go_ret
          exact ⟨by simp, T.a.old⟩
        · have heq : ∀ w, (Op.equalIn 10000 24 (.agg #[.int .i64 a0, .int .i64 a1, .int .i64 a2, .int .i64 a3]) (.agg #[.int .i64 b0, .int .i64 b1, .int .i64 b2, .int .i64 b3])).run Tryd.prog w = .ok true w := fun w => by have := eq24 ⟨a0, a1, a2, a3⟩ ⟨b0, b1, b2, b3⟩ w; rwa [HBO.out rfl rfl] at this
          go_wp2_with (first | (go_at_call 16; (with_reducible refine (tri_use (by with_reducible assumption) (less_at HX.out _)).mono ?_); rintro e w' ⟨rfl, q0, q1, q2, q3, q4, q5, q6, q7, q8, q9, q10, q11, T⟩)  | (go_at_call 16; (with_reducible refine (tri_use (by with_reducible assumption) (less_at HY.out _)).mono ?_); rintro e w' ⟨rfl, q0, q1, q2, q3, q4, q5, q6, q7, q8, q9, q10, q11, T⟩)  | (go_at_call 16; (with_reducible refine (tri_use (by with_reducible assumption) (less_at HAC.out _)).mono ?_); rintro e w' ⟨rfl, q0, q1, q2, q3, q4, q5, q6, q7, q8, q9, q10, q11, T⟩)  | (go_at_call 16; (with_reducible refine (tri_use (by with_reducible assumption) (less_at HU.out _)).mono ?_); rintro e w' ⟨rfl, q0, q1, q2, q3, q4, q5, q6, q7, q8, q9, q10, q11, T⟩))
          go_ret
          exact ⟨by simp, T.a.old⟩
  · have hzz : (z == 0) = false := by simpa using hz
    refine wp_region_held_drew (S := (fun w' => w'.cell? ⟨w.heap.size, 0, none⟩ = some (.int .i64 a0) ∧ w'.cell? ⟨w.heap.size, 1, none⟩ = some (.int .i64 a1) ∧ w'.cell? ⟨w.heap.size, 2, none⟩ = some (.int .i64 a2) ∧ w'.cell? ⟨w.heap.size, 3, none⟩ = some (.int .i64 a3) ∧ w'.cell? ⟨p, 0, none⟩ = some (.int .i64 s0) ∧ w'.cell? ⟨p, 1, none⟩ = some (.int .i64 s1) ∧ w'.cell? ⟨p, 2, none⟩ = some (.int .i64 s2) ∧ w'.cell? ⟨p, 3, none⟩ = some (.int .i64 s3) ∧ Quad w w' p a0 a1 a2 a3 b0 b1 b2 b3 c0 c1 c2 c3 s0 s1 s2 s3)) (by kernel_rfl) ⟨k0, k1, k2, k3, l0, l1, l2, l3, hQ⟩ (fun hHeld => ?_)
    refine wpAnyH_take (i := 0) (v := ?_) rfl (by kernel_rfl) (by kernel_rfl) (by kernel_rfl) (fun _ _ _ h => h) (Or.inl ⟨by rfl, ?_⟩) (by assumption) ?_
    rotate_left
    · intro w hSw; go_split_ands; go_simp; try with_reducible rfl
    simp only [Act.put, List.setIfInBounds_toArray, List.set_cons_zero, List.set_cons_succ, List.getElem_toArray, List.getElem_cons_zero]
    refine wpAnyH_take (i := 1) (v := ?_) rfl (by kernel_rfl) (by kernel_rfl) (by kernel_rfl) (fun _ _ _ h => h) (Or.inl ⟨by rfl, ?_⟩) (by assumption) ?_
    rotate_left
    · intro w hSw; go_split_ands; go_simp; try with_reducible rfl
    simp only [Act.put, List.setIfInBounds_toArray, List.set_cons_zero, List.set_cons_succ, List.getElem_toArray, List.getElem_cons_zero, List.getElem_cons_succ]
    refine wpAnyH_take (i := 3) (v := ?_) rfl (by kernel_rfl) (by kernel_rfl) (by kernel_rfl) (fun _ _ _ h => h) (Or.inl ⟨by rfl, ?_⟩) (by assumption) ?_
    rotate_left
    · intro w hSw; go_split_ands; go_simp; try with_reducible rfl
    simp only [Act.put, List.setIfInBounds_toArray, List.set_cons_zero, List.set_cons_succ, List.getElem_toArray, List.getElem_cons_zero, List.getElem_cons_succ]
    refine wpAnyH_ready (rs := [2]) (by kernel_rfl) (by simp) ?_
    refine AllReadyH.cons rfl (fun K hK => ?_) AllReadyH.nil
    go_simp
    refine (quad_use hQ (cut_to HA.out HM.out _)).mono ?_
    rintro e w' ⟨rfl, y0, y1, y2, y3, y4, y5, y6, y7, y8⟩
    refine hK.out _ _ ⟨y0, y1, y2, y3, y4, y5, y6, y7, y8⟩ (fun hHeld => ?_)
    clear hK K
    try simp only [Act.put, List.setIfInBounds_toArray, List.set_cons_zero, List.set_cons_succ]
    refine wpAnyH_ready (rs := [4]) (by kernel_rfl) (by simp) ?_
    refine AllReadyH.cons rfl (fun K hK => ?_) AllReadyH.nil
    go_simp
    refine (quad_use y8 (less_at HC.out _)).mono ?_
    rintro e w' ⟨rfl, y0, y1, y2, y3, y4, y5, y6, y7, y8⟩
    refine hK.out _ _ ⟨y0, y1, y2, y3, y4, y5, y6, y7, y8⟩ (fun hHeld => ?_)
    clear hK K
    try simp only [Act.put, List.setIfInBounds_toArray, List.set_cons_zero, List.set_cons_succ]
    refine wpAnyH_take (i := 5) (v := ?_) rfl (by kernel_rfl) (by kernel_rfl) (by kernel_rfl) (fun _ _ _ h => h) (Or.inl ⟨by rfl, ?_⟩) (by assumption) ?_
    rotate_left
    · intro w hSw; go_split_ands; go_simp; try with_reducible rfl
    simp only [Act.put, List.setIfInBounds_toArray, List.set_cons_zero, List.set_cons_succ, List.getElem_toArray, List.getElem_cons_zero, List.getElem_cons_succ]
    refine wpAnyH_take (i := 6) (v := ?_) rfl (by kernel_rfl) (by kernel_rfl) (by kernel_rfl) (fun _ _ _ h => h) (Or.inl ⟨by rfl, ?_⟩) (by assumption) ?_
    rotate_left
    · intro w hSw; go_split_ands; go_simp; try with_reducible rfl
    simp only [Act.put, List.setIfInBounds_toArray, List.set_cons_zero, List.set_cons_succ, List.getElem_toArray, List.getElem_cons_zero, List.getElem_cons_succ]
    refine wpAnyH_take (i := 7) (v := ?_) rfl (by kernel_rfl) (by kernel_rfl) (by kernel_rfl) (fun _ _ _ h => h) (Or.inl ⟨by rfl, ?_⟩) (by assumption) ?_
    rotate_left
    · intro w hSw; go_split_ands; go_simp; try with_reducible rfl
    simp only [Act.put, List.setIfInBounds_toArray, List.set_cons_zero, List.set_cons_succ, List.getElem_toArray, List.getElem_cons_zero, List.getElem_cons_succ]
    refine wpAnyH_take (i := 8) (v := ?_) rfl (by kernel_rfl) (by kernel_rfl) (by kernel_rfl) (fun _ _ _ h => h) (Or.inl ⟨by rfl, ?_⟩) (by assumption) ?_
    rotate_left
    · intro w hSw; go_split_ands; go_simp; try with_reducible rfl
    simp only [Act.put, List.setIfInBounds_toArray, List.set_cons_zero, List.set_cons_succ, List.getElem_toArray, List.getElem_cons_zero, List.getElem_cons_succ]
    refine wpAnyH_take (i := 9) (v := ?_) rfl (by kernel_rfl) (by kernel_rfl) (by kernel_rfl) (fun _ _ _ h => h) (Or.inl ⟨by rfl, ?_⟩) (by assumption) ?_
    rotate_left
    · intro w hSw; go_split_ands; go_simp; try with_reducible rfl
    simp only [Act.put, List.setIfInBounds_toArray, List.set_cons_zero, List.set_cons_succ, List.getElem_toArray, List.getElem_cons_zero, List.getElem_cons_succ]
    refine wpAnyH_take (i := 10) rfl (by kernel_rfl) (by kernel_rfl) (by kernel_rfl) (fun _ _ _ h => h) (Or.inr ⟨by rfl, rfl⟩) (by assumption) ?_
    simp only [Act.put, List.setIfInBounds_toArray, List.set_cons_zero, List.set_cons_succ, List.getElem_toArray, List.getElem_cons_zero, List.getElem_cons_succ]
    refine wpAnyH_take (i := 11) rfl (by kernel_rfl) (by kernel_rfl) (by kernel_rfl) (fun _ _ _ h => h) (Or.inr ⟨by rfl, rfl⟩) (by assumption) ?_
    simp only [Act.put, List.setIfInBounds_toArray, List.set_cons_zero, List.set_cons_succ, List.getElem_toArray, List.getElem_cons_zero, List.getElem_cons_succ]
    refine wpAnyH_take (i := 12) rfl (by kernel_rfl) (by kernel_rfl) (by kernel_rfl) (fun _ _ _ h => h) (Or.inr ⟨by rfl, rfl⟩) (by assumption) ?_
    simp only [Act.put, List.setIfInBounds_toArray, List.set_cons_zero, List.set_cons_succ, List.getElem_toArray, List.getElem_cons_zero, List.getElem_cons_succ]
    refine wpAnyH_take (i := 13) rfl (by kernel_rfl) (by kernel_rfl) (by kernel_rfl) (fun _ _ _ h => h) (Or.inr ⟨by rfl, rfl⟩) (by assumption) ?_
    simp only [Act.put, List.setIfInBounds_toArray, List.set_cons_zero, List.set_cons_succ, List.getElem_toArray, List.getElem_cons_zero, List.getElem_cons_succ]
    refine wpAnyH_take (i := 14) rfl (by kernel_rfl) (by kernel_rfl) (by kernel_rfl) (fun _ _ _ h => h) (Or.inr ⟨by rfl, rfl⟩) (by assumption) ?_
    simp only [Act.put, List.setIfInBounds_toArray, List.set_cons_zero, List.set_cons_succ, List.getElem_toArray, List.getElem_cons_zero, List.getElem_cons_succ]
    refine wpAnyH_take (i := 15) rfl (by kernel_rfl) (by kernel_rfl) (by kernel_rfl) (fun _ _ _ h => h) (Or.inr ⟨by rfl, rfl⟩) (by assumption) ?_
    simp only [Act.put, List.setIfInBounds_toArray, List.set_cons_zero, List.set_cons_succ, List.getElem_toArray, List.getElem_cons_zero, List.getElem_cons_succ]
    refine wpAnyH_take (i := 16) rfl (by kernel_rfl) (by kernel_rfl) (by kernel_rfl) (fun _ _ _ h => h) (Or.inr ⟨by rfl, rfl⟩) (by assumption) ?_
    simp only [Act.put, List.setIfInBounds_toArray, List.set_cons_zero, List.set_cons_succ, List.getElem_toArray, List.getElem_cons_zero, List.getElem_cons_succ]
    refine wpAnyH_take (i := 17) rfl (by kernel_rfl) (by kernel_rfl) (by kernel_rfl) (fun _ _ _ h => h) (Or.inr ⟨by rfl, rfl⟩) (by assumption) ?_
    simp only [Act.put, List.setIfInBounds_toArray, List.set_cons_zero, List.set_cons_succ, List.getElem_toArray, List.getElem_cons_zero, List.getElem_cons_succ]
    refine wpAnyH_take (i := 18) rfl (by kernel_rfl) (by kernel_rfl) (by kernel_rfl) (fun _ _ _ h => h) (Or.inr ⟨by rfl, rfl⟩) (by assumption) ?_
    simp only [Act.put, List.setIfInBounds_toArray, List.set_cons_zero, List.set_cons_succ, List.getElem_toArray, List.getElem_cons_zero, List.getElem_cons_succ]
    refine wpAnyH_take (i := 19) (v := ?_) rfl (by kernel_rfl) (by kernel_rfl) (by kernel_rfl) (fun _ _ _ h => h) (Or.inl ⟨by rfl, ?_⟩) (by assumption) ?_
    rotate_left
    · intro w hSw; go_split_ands; go_simp; try with_reducible rfl
    simp only [Act.put, List.setIfInBounds_toArray, List.set_cons_zero, List.set_cons_succ, List.getElem_toArray, List.getElem_cons_zero, List.getElem_cons_succ]
    refine wpAnyH_take (i := 20) (v := ?_) rfl (by kernel_rfl) (by kernel_rfl) (by kernel_rfl) (fun _ _ _ h => h) (Or.inl ⟨by rfl, ?_⟩) (by assumption) ?_
    rotate_left
    · intro w hSw; go_split_ands; go_simp; try with_reducible rfl
    simp only [Act.put, List.setIfInBounds_toArray, List.set_cons_zero, List.set_cons_succ, List.getElem_toArray, List.getElem_cons_zero, List.getElem_cons_succ]
    refine wpAnyH_take (i := 21) (v := ?_) rfl (by kernel_rfl) (by kernel_rfl) (by kernel_rfl) (fun _ _ _ h => h) (Or.inl ⟨by rfl, ?_⟩) (by assumption) ?_
    rotate_left
    · intro w hSw; go_split_ands; go_simp; try with_reducible rfl
    simp only [Act.put, List.setIfInBounds_toArray, List.set_cons_zero, List.set_cons_succ, List.getElem_toArray, List.getElem_cons_zero, List.getElem_cons_succ]
    refine wpAnyH_take (i := 22) (v := ?_) rfl (by kernel_rfl) (by kernel_rfl) (by kernel_rfl) (fun _ _ _ h => h) (Or.inl ⟨by rfl, ?_⟩) (by assumption) ?_
    rotate_left
    · intro w hSw; go_split_ands; go_simp; try with_reducible rfl
    simp only [Act.put, List.setIfInBounds_toArray, List.set_cons_zero, List.set_cons_succ, List.getElem_toArray, List.getElem_cons_zero, List.getElem_cons_succ]
    refine wpAnyH_take (i := 23) (v := ?_) rfl (by kernel_rfl) (by kernel_rfl) (by kernel_rfl) (fun _ _ _ h => h) (Or.inl ⟨by rfl, ?_⟩) (by assumption) ?_
    rotate_left
    · intro w hSw; go_split_ands; go_simp; try with_reducible rfl
    simp only [Act.put, List.setIfInBounds_toArray, List.set_cons_zero, List.set_cons_succ, List.getElem_toArray, List.getElem_cons_zero, List.getElem_cons_succ]
    refine wpAnyH_ready (rs := [24]) (by kernel_rfl) (by simp) ?_
    refine AllReadyH.cons rfl (fun K hK => ?_) AllReadyH.nil
    go_simp
    refine (quad_use y8 (less_at HR.out _)).mono ?_
    rintro e w' ⟨rfl, y0, y1, y2, y3, y4, y5, y6, y7, y8⟩
    refine hK.out _ _ ⟨y0, y1, y2, y3, y4, y5, y6, y7, y8⟩ (fun hHeld => ?_)
    clear hK K
    try simp only [Act.put, List.setIfInBounds_toArray, List.set_cons_zero, List.set_cons_succ]
    refine wpAnyH_take (i := 25) (v := ?_) rfl (by kernel_rfl) (by kernel_rfl) (by kernel_rfl) (fun _ _ _ h => h) (Or.inl ⟨by rfl, ?_⟩) (by assumption) ?_
    rotate_left
    · intro w hSw; go_split_ands; go_simp; try with_reducible rfl
    simp only [Act.put, List.setIfInBounds_toArray, List.set_cons_zero, List.set_cons_succ, List.getElem_toArray, List.getElem_cons_zero, List.getElem_cons_succ]
    refine wpAnyH_take (i := 26) (v := ?_) rfl (by kernel_rfl) (by kernel_rfl) (by kernel_rfl) (fun _ _ _ h => h) (Or.inl ⟨by rfl, ?_⟩) (by assumption) ?_
    rotate_left
    · intro w hSw; go_split_ands; go_simp; try with_reducible rfl
    simp only [Act.put, List.setIfInBounds_toArray, List.set_cons_zero, List.set_cons_succ, List.getElem_toArray, List.getElem_cons_zero, List.getElem_cons_succ]
    refine wpAnyH_done (by kernel_rfl) ?_ _
    have T := y8.t
    have ua0 := T.a.c0
    have ua1 := T.a.c1
    have ua2 := T.a.c2
    have ua3 := T.a.c3
    have ub0 := T.b.c0
    have ub1 := T.b.c1
    have ub2 := T.b.c2
    have ub3 := T.b.c3
    have uc0 := T.c.c0
    have uc1 := T.c.c1
    have uc2 := T.c.c2
    have uc3 := T.c.c3
    rcases x with _ | _
    · go_wp2_with (first | (go_at_call 16; (with_reducible refine (tri_use (by with_reducible assumption) (less_at HX.out _)).mono ?_); rintro e w' ⟨rfl, q0, q1, q2, q3, q4, q5, q6, q7, q8, q9, q10, q11, T⟩))
      go_ret
      exact ⟨by simp, T.a.old⟩
    · rcases y with _ | _
      · rcases u with _ | _
        · go_wp2_with (first | (go_at_call 16; (with_reducible refine (tri_use (by with_reducible assumption) (less_at HX.out _)).mono ?_); rintro e w' ⟨rfl, q0, q1, q2, q3, q4, q5, q6, q7, q8, q9, q10, q11, T⟩)  | (go_at_call 16; (with_reducible refine (tri_use (by with_reducible assumption) (less_at HY.out _)).mono ?_); rintro e w' ⟨rfl, q0, q1, q2, q3, q4, q5, q6, q7, q8, q9, q10, q11, T⟩)  | (go_at_call 16; (with_reducible refine (tri_use (by with_reducible assumption) (less_at HU.out _)).mono ?_); rintro e w' ⟨rfl, q0, q1, q2, q3, q4, q5, q6, q7, q8, q9, q10, q11, T⟩))
          go_ret
          exact ⟨by simp, T.a.old⟩
        · have heq : ∀ w, (Op.equalIn 10000 24 (.agg #[.int .i64 a0, .int .i64 a1, .int .i64 a2, .int .i64 a3]) (.agg #[.int .i64 b0, .int .i64 b1, .int .i64 b2, .int .i64 b3])).run Tryd.prog w = .ok true w := fun w => by have := eq24 ⟨a0, a1, a2, a3⟩ ⟨b0, b1, b2, b3⟩ w; rwa [HBO.out rfl rfl] at this
          go_wp2_with (first | (go_at_call 16; (with_reducible refine (tri_use (by with_reducible assumption) (less_at HX.out _)).mono ?_); rintro e w' ⟨rfl, q0, q1, q2, q3, q4, q5, q6, q7, q8, q9, q10, q11, T⟩)  | (go_at_call 16; (with_reducible refine (tri_use (by with_reducible assumption) (less_at HY.out _)).mono ?_); rintro e w' ⟨rfl, q0, q1, q2, q3, q4, q5, q6, q7, q8, q9, q10, q11, T⟩)  | (go_at_call 16; (with_reducible refine (tri_use (by with_reducible assumption) (less_at HU.out _)).mono ?_); rintro e w' ⟨rfl, q0, q1, q2, q3, q4, q5, q6, q7, q8, q9, q10, q11, T⟩))
          go_ret
          exact ⟨by simp, T.a.old⟩
      · have HAC := Lib.hid (HON.out rfl rfl)
        rcases u with _ | _
        · go_wp2_with (first | (go_at_call 16; (with_reducible refine (tri_use (by with_reducible assumption) (less_at HX.out _)).mono ?_); rintro e w' ⟨rfl, q0, q1, q2, q3, q4, q5, q6, q7, q8, q9, q10, q11, T⟩)  | (go_at_call 16; (with_reducible refine (tri_use (by with_reducible assumption) (less_at HY.out _)).mono ?_); rintro e w' ⟨rfl, q0, q1, q2, q3, q4, q5, q6, q7, q8, q9, q10, q11, T⟩)  | (go_at_call 16; (with_reducible refine (tri_use (by with_reducible assumption) (less_at HAC.out _)).mono ?_); rintro e w' ⟨rfl, q0, q1, q2, q3, q4, q5, q6, q7, q8, q9, q10, q11, T⟩)  | (go_at_call 16; (with_reducible refine (tri_use (by with_reducible assumption) (less_at HU.out _)).mono ?_); rintro e w' ⟨rfl, q0, q1, q2, q3, q4, q5, q6, q7, q8, q9, q10, q11, T⟩))
          go_ret
          exact ⟨by simp, T.a.old⟩
        · have heq : ∀ w, (Op.equalIn 10000 24 (.agg #[.int .i64 a0, .int .i64 a1, .int .i64 a2, .int .i64 a3]) (.agg #[.int .i64 b0, .int .i64 b1, .int .i64 b2, .int .i64 b3])).run Tryd.prog w = .ok true w := fun w => by have := eq24 ⟨a0, a1, a2, a3⟩ ⟨b0, b1, b2, b3⟩ w; rwa [HBO.out rfl rfl] at this
          go_wp2_with (first | (go_at_call 16; (with_reducible refine (tri_use (by with_reducible assumption) (less_at HX.out _)).mono ?_); rintro e w' ⟨rfl, q0, q1, q2, q3, q4, q5, q6, q7, q8, q9, q10, q11, T⟩)  | (go_at_call 16; (with_reducible refine (tri_use (by with_reducible assumption) (less_at HY.out _)).mono ?_); rintro e w' ⟨rfl, q0, q1, q2, q3, q4, q5, q6, q7, q8, q9, q10, q11, T⟩)  | (go_at_call 16; (with_reducible refine (tri_use (by with_reducible assumption) (less_at HAC.out _)).mono ?_); rintro e w' ⟨rfl, q0, q1, q2, q3, q4, q5, q6, q7, q8, q9, q10, q11, T⟩)  | (go_at_call 16; (with_reducible refine (tri_use (by with_reducible assumption) (less_at HU.out _)).mono ?_); rintro e w' ⟨rfl, q0, q1, q2, q3, q4, q5, q6, q7, q8, q9, q10, q11, T⟩))
          go_ret
          exact ⟨by simp, T.a.old⟩
end Go.Proofs.YtlhdpmkakmkknaaDoor
