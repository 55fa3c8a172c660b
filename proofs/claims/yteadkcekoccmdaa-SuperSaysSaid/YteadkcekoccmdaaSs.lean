/-
  The walk of the law SuperSays: it answers true. Condition: a boot's number is a word, the list lies in memory and its words are words.
-/
import Derived.Test.YteadkcekoccmdaaSr
namespace Go.Proofs.Yteadkcekoccmdaa
open Go.RowKit

/-- the law's superblocks: s in p, what Get and GetSuper told in a and b, what both Finds told in c and d; lists that were made; what was before stands -/
structure Kq (W : World) (p a b c d : Nat) (s x y : Sp) (vs : List (Value × List Int)) (w : World) : Prop where
  hp : Bs w p s
  ha : Bs w a x
  hb : Bs w b x
  hc : Bs w c y
  hd : Bs w d y
  lists : ∀ v l, (v, l) ∈ vs → Words w v l
  old : Below W.heap.size W w
section
variable {W w w' : World} {p a b c d : Nat} {s x y : Sp} {vs : List (Value × List Int)}
theorem Kq.on (h : Kq W p a b c d s x y vs w) (hb : Below w.heap.size w w') : Kq W p a b c d s x y vs w' :=
  ⟨h.hp.on hb, h.ha.on hb, h.hb.on hb, h.hc.on hb, h.hd.on hb, fun v l hv => (h.lists v l hv).below hb, below_on h.old hb⟩
theorem Kq.drew (h : Kq W p a b c d s x y vs w) : Kq W p a b c d s x y vs w.drew :=
  ⟨h.hp.drew, h.ha.drew, h.hb.drew, h.hc.drew, h.hd.drew, fun v l hv => by
    obtain ⟨A, cap, e, hc, hL⟩ := h.lists v l hv
    exact ⟨A, cap, e, hc, hL⟩, h.old.drew⟩
theorem Kq.more {v : Value} {l : List Int} (h : Kq W p a b c d s x y vs w) (hv : Words w v l) : Kq W p a b c d s x y ((v, l) :: vs) w :=
  ⟨h.hp, h.ha, h.hb, h.hc, h.hd, fun v' l' hm => by
    rcases List.mem_cons.1 hm with q | q
    · injection q with q1 q2
      rw [q1, q2]; exact hv
    · exact h.lists v' l' q, h.old⟩
variable {t s' k u t1 s1 k1 u1 t2 s2 k2 u2 : Int}
/-- a call that makes memory alone: the cells that the law's last line reads stand -/
theorem kq_use {N : Nat} {xs : Array Value} {r : Value} (hk : Kq W p a b c d ⟨⟨t, s', k⟩, u⟩ ⟨⟨t1, s1, k1⟩, u1⟩ ⟨⟨t2, s2, k2⟩, u2⟩ vs w) (h : Calls Try.prog N xs w fun e w' => e = .returned r ∧ Below w.heap.size w w') :
    Calls Try.prog N xs w fun e w' => e = .returned r ∧ w'.cell? ⟨p, 0, none⟩ = some (.int .i64 t) ∧ w'.cell? ⟨p, 1, none⟩ = some (.int .i64 s') ∧ w'.cell? ⟨p, 2, none⟩ = some (.int .i64 k) ∧ w'.cell? ⟨p, 3, none⟩ = some (.int .u64 u) ∧ w'.cell? ⟨a, 0, none⟩ = some (.int .i64 t1) ∧ w'.cell? ⟨a, 1, none⟩ = some (.int .i64 s1) ∧ w'.cell? ⟨a, 2, none⟩ = some (.int .i64 k1) ∧ w'.cell? ⟨a, 3, none⟩ = some (.int .u64 u1) ∧ w'.cell? ⟨b, 0, none⟩ = some (.int .i64 t1) ∧ w'.cell? ⟨b, 1, none⟩ = some (.int .i64 s1) ∧ w'.cell? ⟨b, 2, none⟩ = some (.int .i64 k1) ∧ w'.cell? ⟨b, 3, none⟩ = some (.int .u64 u1) ∧ w'.cell? ⟨c, 0, none⟩ = some (.int .i64 t2) ∧ w'.cell? ⟨c, 1, none⟩ = some (.int .i64 s2) ∧ w'.cell? ⟨c, 2, none⟩ = some (.int .i64 k2) ∧ w'.cell? ⟨c, 3, none⟩ = some (.int .u64 u2) ∧ w'.cell? ⟨d, 0, none⟩ = some (.int .i64 t2) ∧ w'.cell? ⟨d, 1, none⟩ = some (.int .i64 s2) ∧ w'.cell? ⟨d, 2, none⟩ = some (.int .i64 k2) ∧ w'.cell? ⟨d, 3, none⟩ = some (.int .u64 u2) ∧ Kq W p a b c d ⟨⟨t, s', k⟩, u⟩ ⟨⟨t1, s1, k1⟩, u1⟩ ⟨⟨t2, s2, k2⟩, u2⟩ vs w' := by
  refine h.mono ?_
  rintro e w' ⟨rfl, hb⟩
  have h := hk.on hb
  exact ⟨rfl, h.hp.t, h.hp.s, h.hp.k, h.hp.u, h.ha.t, h.ha.s, h.ha.k, h.ha.u, h.hb.t, h.hb.s, h.hb.k, h.hb.u, h.hc.t, h.hc.s, h.hc.k, h.hc.u, h.hd.t, h.hd.s, h.hd.k, h.hd.u, h⟩
theorem kq_list {N : Nat} {xs : Array Value} {l : List Int} (hk : Kq W p a b c d ⟨⟨t, s', k⟩, u⟩ ⟨⟨t1, s1, k1⟩, u1⟩ ⟨⟨t2, s2, k2⟩, u2⟩ vs w) (h : Calls Try.prog N xs w fun e w' => ∃ v, e = .returned v ∧ Words w' v l ∧ Below w.heap.size w w') :
    Calls Try.prog N xs w fun e w' => ∃ v, e = .returned v ∧ w'.cell? ⟨p, 0, none⟩ = some (.int .i64 t) ∧ w'.cell? ⟨p, 1, none⟩ = some (.int .i64 s') ∧ w'.cell? ⟨p, 2, none⟩ = some (.int .i64 k) ∧ w'.cell? ⟨p, 3, none⟩ = some (.int .u64 u) ∧ w'.cell? ⟨a, 0, none⟩ = some (.int .i64 t1) ∧ w'.cell? ⟨a, 1, none⟩ = some (.int .i64 s1) ∧ w'.cell? ⟨a, 2, none⟩ = some (.int .i64 k1) ∧ w'.cell? ⟨a, 3, none⟩ = some (.int .u64 u1) ∧ w'.cell? ⟨b, 0, none⟩ = some (.int .i64 t1) ∧ w'.cell? ⟨b, 1, none⟩ = some (.int .i64 s1) ∧ w'.cell? ⟨b, 2, none⟩ = some (.int .i64 k1) ∧ w'.cell? ⟨b, 3, none⟩ = some (.int .u64 u1) ∧ w'.cell? ⟨c, 0, none⟩ = some (.int .i64 t2) ∧ w'.cell? ⟨c, 1, none⟩ = some (.int .i64 s2) ∧ w'.cell? ⟨c, 2, none⟩ = some (.int .i64 k2) ∧ w'.cell? ⟨c, 3, none⟩ = some (.int .u64 u2) ∧ w'.cell? ⟨d, 0, none⟩ = some (.int .i64 t2) ∧ w'.cell? ⟨d, 1, none⟩ = some (.int .i64 s2) ∧ w'.cell? ⟨d, 2, none⟩ = some (.int .i64 k2) ∧ w'.cell? ⟨d, 3, none⟩ = some (.int .u64 u2) ∧ Kq W p a b c d ⟨⟨t, s', k⟩, u⟩ ⟨⟨t1, s1, k1⟩, u1⟩ ⟨⟨t2, s2, k2⟩, u2⟩ ((v, l) :: vs) w' := by
  refine h.mono ?_
  rintro e w' ⟨v, rfl, hv, hb⟩
  have h := (hk.on hb).more hv
  exact ⟨v, rfl, h.hp.t, h.hp.s, h.hp.k, h.hp.u, h.ha.t, h.ha.s, h.ha.k, h.ha.u, h.hb.t, h.hb.s, h.hb.k, h.hb.u, h.hc.t, h.hc.s, h.hc.k, h.hc.u, h.hd.t, h.hd.s, h.hd.k, h.hd.u, h⟩
end
theorem own_to (t s k b : Int) (w : World) : Calls Try.prog 17 #[.agg #[.int .i64 t, .int .i64 s, .int .i64 k, .int .u64 b]] w fun e w' => e = .returned (.agg #[.int .i64 t, .int .i64 s, .int .i64 k, .int .u64 b]) ∧ Below w.heap.size w w' := own_any ⟨⟨t, s, k⟩, b⟩ w
theorem rput_to (t s k b : Int) (hb : 0 ≤ b ∧ b < 18446744073709551616) (w : World) : Calls Try.prog 16 #[.agg #[.int .i64 t, .int .i64 s, .int .i64 k, .int .u64 b]] w fun e w' => ∃ v, e = .returned v ∧ Words w' v (Sp.put ⟨⟨t, s, k⟩, b⟩) ∧ Below w.heap.size w w' := rput_any ⟨⟨t, s, k⟩, b⟩ w hb
theorem put_to' (t s k b : Int) (hb : 0 ≤ b ∧ b < 18446744073709551616) (w : World) : Calls Try.prog 8 #[.agg #[.int .i64 t, .int .i64 s, .int .i64 k, .int .u64 b]] w fun e w' => ∃ v, e = .returned v ∧ Words w' v (Sp.put ⟨⟨t, s, k⟩, b⟩) ∧ Below w.heap.size w w' := put_any ⟨⟨t, s, k⟩, b⟩ w hb
theorem put_length (s : Sp) : s.put.length ≤ 1000000 := by unfold Sp.put; split <;> simp [Sp.full]
theorem words_two {W w : World} {p a b c d : Nat} {s x y : Sp} {vs : List (Value × List Int)} {v1 v2 : Value} {l : List Int} (hk : Kq W p a b c d s x y ((v2, l) :: (v1, l) :: vs) w) (hl : l.length ≤ 1000000) :
    Calls Try.prog 15 #[v1, v2] w fun e w' => e = .returned (.bool true) ∧ Below w.heap.size w w' :=
  words_at (hk.lists v1 l (by simp)) (hk.lists v2 l (by simp)) hl (by simp)

set_option maxRecDepth 100000 in
set_option maxHeartbeats 4000000 in
theorem says_in (t s k b : Int) (A : Option Addr) (cap : Nat) (l : List Int) (w : World) (hb : 0 ≤ b ∧ b < 18446744073709551616) (hl : l.length ≤ 40000) (hcap : l.length ≤ cap) (hL : WordsAt w w.heap.size A l) (hW : Wds l) :
    Calls Try.prog 4 #[.agg #[.int .i64 t, .int .i64 s, .int .i64 k, .int .u64 b], .slice A l.length cap] w fun e w' => e = .returned (.bool true) ∧ Below w.heap.size w w' := by
  obtain ⟨x, hx⟩ : ∃ x, get l = x := ⟨_, rfl⟩
  obtain ⟨y, hy⟩ : ∃ y, find l = y := ⟨_, rfl⟩
  obtain ⟨r, hr⟩ : ∃ r, got l = r := ⟨_, rfl⟩
  obtain ⟨p, hp⟩ : ∃ p, first l = p := ⟨_, rfl⟩
  obtain ⟨q, hq⟩ : ∃ q, back l = q := ⟨_, rfl⟩
  obtain ⟨⟨t1, s1, k1⟩, b1⟩ := x
  obtain ⟨⟨t2, s2, k2⟩, b2⟩ := y
  have HX := Lib.hid hx
  have HY := Lib.hid hy
  have HR := Lib.hid hr
  have HP := Lib.hid hp
  have HQ := Lib.hid hq
  have HB := Lib.hid hb
  have HW := Lib.hid hW
  have HM : Hid (l.length ≤ maxLen) := Lib.hid (by unfold maxLen; omega)
  have B0 := Lib.hid (below_alloc w (.cells #[.int .i64 t, .int .i64 s, .int .i64 k, .int .u64 b] 30))
  have V0 : Hid (Bs (w.alloc (.cells #[.int .i64 t, .int .i64 s, .int .i64 k, .int .u64 b] 30)) w.heap.size ⟨⟨t, s, k⟩, b⟩) := Lib.hid (Bs.new w ⟨⟨t, s, k⟩, b⟩ 30)
  have HL : Hid (Words w (.slice A l.length cap) l) := Lib.hid ⟨A, cap, rfl, hcap, hL⟩
  have hl2 : decide ((40000 : Int) < (l.length : Int)) = false := decide_eq_false (by omega)
  have hl3 : (l.length : Int) ≤ 40000 := by omega
  clear hx hy hr hp hq hb hW hl hcap hL
  generalize hn : l.length = n at *
  have HN := Lib.hid hn
  clear hn
  go_enter Try.func4, Try.ntmps4
  go_wp2_with fail
  refine (awake_any _).mono ?_
  rintro e w1 ⟨rfl, hb⟩
  have V1 := Lib.hid (V0.out.on hb)
  have B1 := Lib.hid (below_on B0.out hb)
  have L1 := Lib.hid (HL.out.below B1.out)
  clear hb V0 B0 HL
  go_wp2_with fail
  refine (get_to L1.out HW.out HX.out HR.out).mono ?_
  rintro e w2 ⟨rfl, hb⟩
  have V2 := Lib.hid ((V1.out.on hb).on (below_alloc w2 (.cells #[.int .i64 t1, .int .i64 s1, .int .i64 k1, .int .u64 b1] 30)))
  have A2 : Hid (Bs (w2.alloc (.cells #[.int .i64 t1, .int .i64 s1, .int .i64 k1, .int .u64 b1] 30)) w2.heap.size ⟨⟨t1, s1, k1⟩, b1⟩) := Lib.hid (Bs.new w2 ⟨⟨t1, s1, k1⟩, b1⟩ 30)
  have B2 := Lib.hid (below_on (below_on B1.out hb) (below_alloc w2 (.cells #[.int .i64 t1, .int .i64 s1, .int .i64 k1, .int .u64 b1] 30)))
  have L2 := Lib.hid ((L1.out.below hb).below (below_alloc w2 (.cells #[.int .i64 t1, .int .i64 s1, .int .i64 k1, .int .u64 b1] 30)))
  clear hb V1 B1 L1
  go_wp2_with fail
  refine (rget_to L2.out HW.out HX.out HR.out).mono ?_
  rintro e w3 ⟨rfl, hb⟩
  have V3 := Lib.hid ((V2.out.on hb).on (below_alloc w3 (.cells #[.int .i64 t1, .int .i64 s1, .int .i64 k1, .int .u64 b1] 38)))
  have A3 := Lib.hid ((A2.out.on hb).on (below_alloc w3 (.cells #[.int .i64 t1, .int .i64 s1, .int .i64 k1, .int .u64 b1] 38)))
  have C3 : Hid (Bs (w3.alloc (.cells #[.int .i64 t1, .int .i64 s1, .int .i64 k1, .int .u64 b1] 38)) w3.heap.size ⟨⟨t1, s1, k1⟩, b1⟩) := Lib.hid (Bs.new w3 ⟨⟨t1, s1, k1⟩, b1⟩ 38)
  have B3 := Lib.hid (below_on (below_on B2.out hb) (below_alloc w3 (.cells #[.int .i64 t1, .int .i64 s1, .int .i64 k1, .int .u64 b1] 38)))
  have L3 := Lib.hid ((L2.out.below hb).below (below_alloc w3 (.cells #[.int .i64 t1, .int .i64 s1, .int .i64 k1, .int .u64 b1] 38)))
  clear hb V2 A2 B2 L2
  go_wp2_with fail
  refine (find_to L3.out (by rw [HN.out]; exact HM.out) HW.out HY.out HP.out HQ.out).mono ?_
  rintro e w4 ⟨rfl, hb⟩
  have V4 := Lib.hid ((V3.out.on hb).on (below_alloc w4 (.cells #[.int .i64 t2, .int .i64 s2, .int .i64 k2, .int .u64 b2] 30)))
  have A4 := Lib.hid ((A3.out.on hb).on (below_alloc w4 (.cells #[.int .i64 t2, .int .i64 s2, .int .i64 k2, .int .u64 b2] 30)))
  have C4 := Lib.hid ((C3.out.on hb).on (below_alloc w4 (.cells #[.int .i64 t2, .int .i64 s2, .int .i64 k2, .int .u64 b2] 30)))
  have D4 : Hid (Bs (w4.alloc (.cells #[.int .i64 t2, .int .i64 s2, .int .i64 k2, .int .u64 b2] 30)) w4.heap.size ⟨⟨t2, s2, k2⟩, b2⟩) := Lib.hid (Bs.new w4 ⟨⟨t2, s2, k2⟩, b2⟩ 30)
  have B4 := Lib.hid (below_on (below_on B3.out hb) (below_alloc w4 (.cells #[.int .i64 t2, .int .i64 s2, .int .i64 k2, .int .u64 b2] 30)))
  have L4 := Lib.hid ((L3.out.below hb).below (below_alloc w4 (.cells #[.int .i64 t2, .int .i64 s2, .int .i64 k2, .int .u64 b2] 30)))
  clear hb V3 A3 C3 B3 L3
  go_wp2_with fail
  refine (rfind_to L4.out (by rw [HN.out]; exact HM.out) HW.out HY.out HP.out HQ.out).mono ?_
  rintro e w5 ⟨rfl, hb⟩
  have V5 := Lib.hid ((V4.out.on hb).on (below_alloc w5 (.cells #[.int .i64 t2, .int .i64 s2, .int .i64 k2, .int .u64 b2] 38)))
  have A5 := Lib.hid ((A4.out.on hb).on (below_alloc w5 (.cells #[.int .i64 t2, .int .i64 s2, .int .i64 k2, .int .u64 b2] 38)))
  have C5 := Lib.hid ((C4.out.on hb).on (below_alloc w5 (.cells #[.int .i64 t2, .int .i64 s2, .int .i64 k2, .int .u64 b2] 38)))
  have D5 := Lib.hid ((D4.out.on hb).on (below_alloc w5 (.cells #[.int .i64 t2, .int .i64 s2, .int .i64 k2, .int .u64 b2] 38)))
  have E5 : Hid (Bs (w5.alloc (.cells #[.int .i64 t2, .int .i64 s2, .int .i64 k2, .int .u64 b2] 38)) w5.heap.size ⟨⟨t2, s2, k2⟩, b2⟩) := Lib.hid (Bs.new w5 ⟨⟨t2, s2, k2⟩, b2⟩ 38)
  have B5 := Lib.hid (below_on (below_on B4.out hb) (below_alloc w5 (.cells #[.int .i64 t2, .int .i64 s2, .int .i64 k2, .int .u64 b2] 38)))
  have L5 := Lib.hid ((L4.out.below hb).below (below_alloc w5 (.cells #[.int .i64 t2, .int .i64 s2, .int .i64 k2, .int .u64 b2] 38)))
  clear hb V4 A4 C4 D4 B4 L4
  have hK : Kq w w.heap.size w2.heap.size w3.heap.size w4.heap.size w5.heap.size ⟨⟨t, s, k⟩, b⟩ ⟨⟨t1, s1, k1⟩, b1⟩ ⟨⟨t2, s2, k2⟩, b2⟩ [] (w5.alloc (.cells #[.int .i64 t2, .int .i64 s2, .int .i64 k2, .int .u64 b2] 38)) := ⟨V5.out, A5.out, C5.out, D5.out, E5.out, (fun v l hv => by cases hv), B5.out⟩
  clear V5 A5 C5 D5 E5 B5 L5 hl2 hl3
  go_upto_region 9 with fail
  obtain ⟨w6, hw6⟩ : ∃ w6, w6 = w5.alloc (.cells #[.int .i64 t2, .int .i64 s2, .int .i64 k2, .int .u64 b2] 38) := ⟨_, rfl⟩
  change Code.wp _ _ _ _ (w5.alloc (.cells #[.int .i64 t2, .int .i64 s2, .int .i64 k2, .int .u64 b2] 38))
  rw [← hw6] at hK ⊢
  obtain ⟨b0, e0⟩ : ∃ a, a = w.heap.size := ⟨_, rfl⟩
  obtain ⟨b2', e2⟩ : ∃ a, a = w2.heap.size := ⟨_, rfl⟩
  obtain ⟨b3, e3⟩ : ∃ a, a = w3.heap.size := ⟨_, rfl⟩
  obtain ⟨b4, e4⟩ : ∃ a, a = w4.heap.size := ⟨_, rfl⟩
  obtain ⟨b5, e5⟩ : ∃ a, a = w5.heap.size := ⟨_, rfl⟩
  rw [← e0, ← e2, ← e3, ← e4, ← e5] at hK ⊢
  clear hw6 e0 e2 e3 e4 e5
  have hd := hK.drew
  have p0 : w6.drew.cell? ⟨b0, 0, none⟩ = some (.int .i64 t) := hd.hp.t
  have p1 : w6.drew.cell? ⟨b0, 1, none⟩ = some (.int .i64 s) := hd.hp.s
  have p2 : w6.drew.cell? ⟨b0, 2, none⟩ = some (.int .i64 k) := hd.hp.k
  have p3 : w6.drew.cell? ⟨b0, 3, none⟩ = some (.int .u64 b) := hd.hp.u
  have x0 : w6.drew.cell? ⟨b2', 0, none⟩ = some (.int .i64 t1) := hd.ha.t
  have x1 : w6.drew.cell? ⟨b2', 1, none⟩ = some (.int .i64 s1) := hd.ha.s
  have x2 : w6.drew.cell? ⟨b2', 2, none⟩ = some (.int .i64 k1) := hd.ha.k
  have x3 : w6.drew.cell? ⟨b2', 3, none⟩ = some (.int .u64 b1) := hd.ha.u
  have z0 : w6.drew.cell? ⟨b3, 0, none⟩ = some (.int .i64 t1) := hd.hb.t
  have z1 : w6.drew.cell? ⟨b3, 1, none⟩ = some (.int .i64 s1) := hd.hb.s
  have z2 : w6.drew.cell? ⟨b3, 2, none⟩ = some (.int .i64 k1) := hd.hb.k
  have z3 : w6.drew.cell? ⟨b3, 3, none⟩ = some (.int .u64 b1) := hd.hb.u
  have y0 : w6.drew.cell? ⟨b4, 0, none⟩ = some (.int .i64 t2) := hd.hc.t
  have y1 : w6.drew.cell? ⟨b4, 1, none⟩ = some (.int .i64 s2) := hd.hc.s
  have y2 : w6.drew.cell? ⟨b4, 2, none⟩ = some (.int .i64 k2) := hd.hc.k
  have y3 : w6.drew.cell? ⟨b4, 3, none⟩ = some (.int .u64 b2) := hd.hc.u
  have v0 : w6.drew.cell? ⟨b5, 0, none⟩ = some (.int .i64 t2) := hd.hd.t
  have v1 : w6.drew.cell? ⟨b5, 1, none⟩ = some (.int .i64 s2) := hd.hd.s
  have v2 : w6.drew.cell? ⟨b5, 2, none⟩ = some (.int .i64 k2) := hd.hd.k
  have v3 : w6.drew.cell? ⟨b5, 3, none⟩ = some (.int .u64 b2) := hd.hd.u
  clear hK
  go_region_held3 (fun w' => w'.cell? ⟨b0, 0, none⟩ = some (.int .i64 t) ∧ w'.cell? ⟨b0, 1, none⟩ = some (.int .i64 s) ∧ w'.cell? ⟨b0, 2, none⟩ = some (.int .i64 k) ∧ w'.cell? ⟨b0, 3, none⟩ = some (.int .u64 b) ∧ w'.cell? ⟨b2', 0, none⟩ = some (.int .i64 t1) ∧ w'.cell? ⟨b2', 1, none⟩ = some (.int .i64 s1) ∧ w'.cell? ⟨b2', 2, none⟩ = some (.int .i64 k1) ∧ w'.cell? ⟨b2', 3, none⟩ = some (.int .u64 b1) ∧ w'.cell? ⟨b3, 0, none⟩ = some (.int .i64 t1) ∧ w'.cell? ⟨b3, 1, none⟩ = some (.int .i64 s1) ∧ w'.cell? ⟨b3, 2, none⟩ = some (.int .i64 k1) ∧ w'.cell? ⟨b3, 3, none⟩ = some (.int .u64 b1) ∧ w'.cell? ⟨b4, 0, none⟩ = some (.int .i64 t2) ∧ w'.cell? ⟨b4, 1, none⟩ = some (.int .i64 s2) ∧ w'.cell? ⟨b4, 2, none⟩ = some (.int .i64 k2) ∧ w'.cell? ⟨b4, 3, none⟩ = some (.int .u64 b2) ∧ w'.cell? ⟨b5, 0, none⟩ = some (.int .i64 t2) ∧ w'.cell? ⟨b5, 1, none⟩ = some (.int .i64 s2) ∧ w'.cell? ⟨b5, 2, none⟩ = some (.int .i64 k2) ∧ w'.cell? ⟨b5, 3, none⟩ = some (.int .u64 b2))
    (first | exact ⟨by with_reducible assumption, by with_reducible assumption, by with_reducible assumption, by with_reducible assumption, by with_reducible assumption, by with_reducible assumption, by with_reducible assumption, by with_reducible assumption, by with_reducible assumption, by with_reducible assumption, by with_reducible assumption, by with_reducible assumption, by with_reducible assumption, by with_reducible assumption, by with_reducible assumption, by with_reducible assumption, by with_reducible assumption, by with_reducible assumption, by with_reducible assumption, by with_reducible assumption⟩)
    (first
      | (go_at_call 8; ((with_reducible refine (kq_list (by with_reducible assumption) (put_to' t s k b HB.out _)).mono ?_); rintro e w' ⟨v1, rfl, g0, g1, g2, g3, g4, g5, g6, g7, g8, g9, g10, g11, g12, g13, g14, g15, g16, g17, g18, g19, g20⟩))
      | (go_at_call 16; ((with_reducible refine (kq_list (by with_reducible assumption) (rput_to t s k b HB.out _)).mono ?_); rintro e w' ⟨v2, rfl, g0, g1, g2, g3, g4, g5, g6, g7, g8, g9, g10, g11, g12, g13, g14, g15, g16, g17, g18, g19, g20⟩))
      | (go_at_call 17; ((with_reducible refine (kq_use (by with_reducible assumption) (own_to _ _ _ _ _)).mono ?_); rintro e w' ⟨rfl, g0, g1, g2, g3, g4, g5, g6, g7, g8, g9, g10, g11, g12, g13, g14, g15, g16, g17, g18, g19, g20⟩))
      | (go_at_call 15; ((with_reducible refine (kq_use (by with_reducible assumption) (words_two (by with_reducible assumption) (put_length _))).mono ?_); rintro e w' ⟨rfl, g0, g1, g2, g3, g4, g5, g6, g7, g8, g9, g10, g11, g12, g13, g14, g15, g16, g17, g18, g19, g20⟩)))
  have HK := Lib.hid g20
  clear p0 p1 p2 p3 x0 x1 x2 x3 y0 y1 y2 y3 z0 z1 z2 z3 hd
  go_wp2
  go_ret
  exact ⟨rfl, HK.out.old⟩

set_option maxHeartbeats 1000000 in
theorem says_out (t s k b : Int) (A : Option Addr) (cap n : Nat) (w : World) (hl : 40000 < n) :
    Calls Try.prog 4 #[.agg #[.int .i64 t, .int .i64 s, .int .i64 k, .int .u64 b], .slice A n cap] w fun e w' => e = .returned (.bool true) ∧ Below w.heap.size w w' := by
  have B0 := Lib.hid (below_alloc w (.cells #[.int .i64 t, .int .i64 s, .int .i64 k, .int .u64 b] 30))
  have d1 : decide ((40000 : Int) < (n : Int)) = true := decide_eq_true (by omega)
  clear hl
  go_enter Try.func4, Try.ntmps4
  go_wp2_with (go_at_call 7; refine (awake_any _).mono ?_; rintro e w1 ⟨rfl, hb⟩; have B1 := Lib.hid (below_on B0.out hb); clear hb)
  go_ret
  exact ⟨rfl, B1.out⟩

/-- SuperSays. -/
theorem says_walk (s : Sp) (A : Option Addr) (cap : Nat) (l : List Int) (w : World) (hb : 0 ≤ s.b ∧ s.b < 18446744073709551616) (hcap : l.length ≤ cap) (hL : WordsAt w w.heap.size A l) (hW : Wds l) :
    Calls Try.prog 4 #[.agg #[.int .i64 s.g.t, .int .i64 s.g.s, .int .i64 s.g.k, .int .u64 s.b], .slice A l.length cap] w fun e w' => e = .returned (.bool true) ∧ Below w.heap.size w w' := by
  by_cases h : l.length ≤ 40000
  · exact says_in s.g.t s.g.s s.g.k s.b A cap l w hb h hcap hL hW
  · exact says_out s.g.t s.g.s s.g.k s.b A cap l.length w (by omega)
end Go.Proofs.Yteadkcekoccmdaa
