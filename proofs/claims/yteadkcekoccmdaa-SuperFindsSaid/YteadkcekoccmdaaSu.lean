/-
  The walk of the law SuperFinds: it answers true. Condition: a boot's number is a word, the list lies in memory and its words are words.
-/
import Derived.Test.YteadkcekoccmdaaSt
namespace Go.Proofs.Yteadkcekoccmdaa
open Go.RowKit

theorem put_to' (t s k b : Int) (hb : 0 ≤ b ∧ b < 18446744073709551616) (w : World) : Calls Try.prog 8 #[.agg #[.int .i64 t, .int .i64 s, .int .i64 k, .int .u64 b]] w fun e w' => ∃ v, e = .returned v ∧ Words w' v (Sp.put ⟨⟨t, s, k⟩, b⟩) ∧ Below w.heap.size w w' := put_any ⟨⟨t, s, k⟩, b⟩ w hb

set_option maxRecDepth 100000 in
set_option maxHeartbeats 4000000 in
theorem finds_bad (t s k u t1 s1 k1 u1 q : Int) (A : Option Addr) (cap n : Nat) (w : World) (hu : 0 ≤ u ∧ u < 18446744073709551616) (hu1 : 0 ≤ u1 ∧ u1 < 18446744073709551616) (hg : Gd.ok ⟨t, s, k⟩ = false) :
    Calls Try.prog 6 #[.agg #[.int .i64 t, .int .i64 s, .int .i64 k, .int .u64 u], .agg #[.int .i64 t1, .int .i64 s1, .int .i64 k1, .int .u64 u1], .int .i64 q, .slice A n cap] w fun e w' => e = .returned (.bool true) ∧ Below w.heap.size w w' := by
  have HG := Lib.hid hg
  have HU := Lib.hid hu
  have HU1 := Lib.hid hu1
  have hX := Bs.new w ⟨⟨t, s, k⟩, u⟩ 30
  have hY := Bs.new (w.alloc (.cells #[.int .i64 t, .int .i64 s, .int .i64 k, .int .u64 u] 30)) ⟨⟨t1, s1, k1⟩, u1⟩ 30
  rw [show (w.alloc (.cells #[.int .i64 t, .int .i64 s, .int .i64 k, .int .u64 u] 30)).heap.size = w.heap.size + 1 by simp] at hY
  have K0 : Hid (Kb w w.heap.size (w.heap.size + 1) ⟨⟨t, s, k⟩, u⟩ ⟨⟨t1, s1, k1⟩, u1⟩ [] ((w.alloc (.cells #[.int .i64 t, .int .i64 s, .int .i64 k, .int .u64 u] 30)).alloc (.cells #[.int .i64 t1, .int .i64 s1, .int .i64 k1, .int .u64 u1] 30))) :=
    Lib.hid ⟨hX.on (below_alloc _ _), hY, (fun v l hv => by cases hv), below_on (below_alloc _ _) (below_alloc _ _)⟩
  clear hg hu hu1 hX hY
  go_enter Try.func6, Try.ntmps6
  go_wp2_with fail
  refine (awake_any _).mono ?_
  rintro e w1 ⟨rfl, hb⟩
  have hk := K0.out.on hb
  have a0 : w1.cell? ⟨w.heap.size, 0, none⟩ = some (.int .i64 t) := hk.hp.t
  have a1 : w1.cell? ⟨w.heap.size, 1, none⟩ = some (.int .i64 s) := hk.hp.s
  have a2 : w1.cell? ⟨w.heap.size, 2, none⟩ = some (.int .i64 k) := hk.hp.k
  have b0 : w1.cell? ⟨w.heap.size + 1, 0, none⟩ = some (.int .i64 t1) := hk.hq.t
  have b1 : w1.cell? ⟨w.heap.size + 1, 1, none⟩ = some (.int .i64 s1) := hk.hq.s
  have b2 : w1.cell? ⟨w.heap.size + 1, 2, none⟩ = some (.int .i64 k1) := hk.hq.k
  have f0 := hk.hq.free 0
  have f1 := hk.hq.free 1
  have f2 := hk.hq.free 2
  have K1 := Lib.hid hk
  clear hb hk K0
  go_upto_region 4 with fail
  change Code.wp _ _ _ _ (put3 w1 (w.heap.size + 1) ⟨t, s, k⟩)
  have K2 : Hid (Kb w w.heap.size (w.heap.size + 1) ⟨⟨t, s, k⟩, u⟩ ⟨⟨t, s, k⟩, u1⟩ [] (put3 w1 (w.heap.size + 1) ⟨t, s, k⟩)) :=
    Lib.hid ⟨K1.out.hp.put3_other _ (by omega), K1.out.hq.put3 ⟨t, s, k⟩, (fun v l hv => by cases hv), put3_below K1.out.old (by omega)⟩
  clear a0 a1 a2 b0 b1 b2 f0 f1 f2 K1
  generalize put3 w1 (w.heap.size + 1) ⟨t, s, k⟩ = w2 at *
  have hd := K2.out.drew
  have a0 : w2.drew.cell? ⟨w.heap.size, 0, none⟩ = some (.int .i64 t) := hd.hp.t
  have a1 : w2.drew.cell? ⟨w.heap.size, 1, none⟩ = some (.int .i64 s) := hd.hp.s
  have a2 : w2.drew.cell? ⟨w.heap.size, 2, none⟩ = some (.int .i64 k) := hd.hp.k
  have a3 : w2.drew.cell? ⟨w.heap.size, 3, none⟩ = some (.int .u64 u) := hd.hp.u
  have b0 : w2.drew.cell? ⟨w.heap.size + 1, 0, none⟩ = some (.int .i64 t) := hd.hq.t
  have b1 : w2.drew.cell? ⟨w.heap.size + 1, 1, none⟩ = some (.int .i64 s) := hd.hq.s
  have b2 : w2.drew.cell? ⟨w.heap.size + 1, 2, none⟩ = some (.int .i64 k) := hd.hq.k
  have b3 : w2.drew.cell? ⟨w.heap.size + 1, 3, none⟩ = some (.int .u64 u1) := hd.hq.u
  clear K2
  go_region_held3 (fun w' => w'.cell? ⟨w.heap.size, 0, none⟩ = some (.int .i64 t) ∧ w'.cell? ⟨w.heap.size, 1, none⟩ = some (.int .i64 s) ∧ w'.cell? ⟨w.heap.size, 2, none⟩ = some (.int .i64 k) ∧ w'.cell? ⟨w.heap.size, 3, none⟩ = some (.int .u64 u) ∧
      w'.cell? ⟨w.heap.size + 1, 0, none⟩ = some (.int .i64 t) ∧ w'.cell? ⟨w.heap.size + 1, 1, none⟩ = some (.int .i64 s) ∧ w'.cell? ⟨w.heap.size + 1, 2, none⟩ = some (.int .i64 k) ∧ w'.cell? ⟨w.heap.size + 1, 3, none⟩ = some (.int .u64 u1))
    (first | exact ⟨by with_reducible assumption, by with_reducible assumption, by with_reducible assumption, by with_reducible assumption, by with_reducible assumption, by with_reducible assumption, by with_reducible assumption, by with_reducible assumption⟩)
    (first
      | (go_at_call 8; first
        | ((with_reducible refine (kb_list (by with_reducible assumption) (put_to' t s k u HU.out _)).mono ?_); rintro e w' ⟨v1, rfl, g0, g1, g2, g3, g4, g5, g6, g7, g8⟩)
        | ((with_reducible refine (kb_list (by with_reducible assumption) (put_to' t s k u1 HU1.out _)).mono ?_); rintro e w' ⟨v2, rfl, g0, g1, g2, g3, g4, g5, g6, g7, g8⟩)))
  have l1 := g8.lists v1 (Sp.put ⟨⟨t, s, k⟩, u⟩) (by simp)
  have l2 := g8.lists v2 (Sp.put ⟨⟨t, s, k⟩, u1⟩) (by simp)
  rw [Sp.put_no HG.out] at l1 l2
  obtain ⟨A1, cap1, rfl, -, -⟩ := l1
  obtain ⟨A2, cap2, rfl, -, -⟩ := l2
  rw [List.length_nil]
  have K3 := Lib.hid g8
  have HR : Hid (Gd.rows ⟨t, s, k⟩ = 0) := Lib.hid (by unfold Gd.rows; rw [HG.out]; rfl)
  clear g3 g4 g5 g6 g7 g8 a0 a1 a2 a3 b0 b1 b2 b3 hd
  go_wp2_with fail
  refine (rows_to HR.out _).mono ?_
  rintro e w3 ⟨rfl, hb⟩
  have hk := K3.out.on hb
  have a0 : w3.cell? ⟨w.heap.size, 0, none⟩ = some (.int .i64 t) := hk.hp.t
  have a1 : w3.cell? ⟨w.heap.size, 1, none⟩ = some (.int .i64 s) := hk.hp.s
  have a2 : w3.cell? ⟨w.heap.size, 2, none⟩ = some (.int .i64 k) := hk.hp.k
  have B3 := Lib.hid hk.old
  clear hb hk K3 g0 g1 g2
  go_wp2_with fail
  refine (good_to HG.out _).mono ?_
  rintro e w4 ⟨rfl, hb⟩
  have B4 := Lib.hid (below_on B3.out hb)
  clear hb
  go_wp2
  go_ret
  exact ⟨rfl, B4.out⟩

def FRel1 (W : World) (G N : Nat) (l : List Int) (k : Nat) (p : Value) (wr : World) : Prop := ∃ i : Nat, k + i = N + 8 ∧ 8 ≤ i ∧ i ≤ N - 8 ∧ p = .int .i64 i ∧ Mf W G N (mid l i) wr
def FRel2 (W : World) (G N : Nat) (c d : Bool) (X Y l : List Int) (m k : Nat) (p : Value) (wr : World) : Prop := ∃ i : Nat, k + i = 8 ∧ p = .int .i64 i ∧ Mf W G N (ends c d X Y l m N i) wr

set_option maxRecDepth 100000 in
set_option maxHeartbeats 4000000 in
theorem finds_good (t s k u t1 s1 k1 u1 q : Int) (c d : Bool) (A : Option Addr) (cap : Nat) (l : List Int) (w : World) (hu : 0 ≤ u ∧ u < 18446744073709551616) (hu1 : 0 ≤ u1 ∧ u1 < 18446744073709551616) (hg : Gd.ok ⟨t, s, k⟩ = true) (hc : (bits .and .i64 q 1 == 1) = c) (hd : (bits .and .i64 q 2 == 2) = d) (hL : WordsAt w w.heap.size A l) (hW : Wds l) (hl : l.length ≤ maxLen) :
    Calls Try.prog 6 #[.agg #[.int .i64 t, .int .i64 s, .int .i64 k, .int .u64 u], .agg #[.int .i64 t1, .int .i64 s1, .int .i64 k1, .int .u64 u1], .int .i64 q, .slice A l.length cap] w fun e w' => e = .returned (.bool true) ∧ Below w.heap.size w w' := by
  have HG := Lib.hid hg
  have HU := Lib.hid hu
  have HU1 := Lib.hid hu1
  have hX := Bs.new w ⟨⟨t, s, k⟩, u⟩ 30
  have hY := Bs.new (w.alloc (.cells #[.int .i64 t, .int .i64 s, .int .i64 k, .int .u64 u] 30)) ⟨⟨t1, s1, k1⟩, u1⟩ 30
  rw [show (w.alloc (.cells #[.int .i64 t, .int .i64 s, .int .i64 k, .int .u64 u] 30)).heap.size = w.heap.size + 1 by simp] at hY
  have K0 : Hid (Kb w w.heap.size (w.heap.size + 1) ⟨⟨t, s, k⟩, u⟩ ⟨⟨t1, s1, k1⟩, u1⟩ [] ((w.alloc (.cells #[.int .i64 t, .int .i64 s, .int .i64 k, .int .u64 u] 30)).alloc (.cells #[.int .i64 t1, .int .i64 s1, .int .i64 k1, .int .u64 u1] 30))) :=
    Lib.hid ⟨hX.on (below_alloc _ _), hY, (fun v l hv => by cases hv), below_on (below_alloc _ _) (below_alloc _ _)⟩
  have HC := Lib.hid hc
  have HD := Lib.hid hd
  have HL := Lib.hid hL
  have HW := Lib.hid hW
  obtain ⟨n, hn⟩ : ∃ n, n = l.length := ⟨_, rfl⟩
  have HN := Lib.hid hn
  rw [← hn] at hl ⊢
  unfold maxLen at hl
  clear hg hu hu1 hX hY hc hd hL hW hn
  go_enter Try.func6, Try.ntmps6
  go_wp2_with fail
  refine (awake_any _).mono ?_
  rintro e w1 ⟨rfl, hb⟩
  have hk := K0.out.on hb
  have a0 : w1.cell? ⟨w.heap.size, 0, none⟩ = some (.int .i64 t) := hk.hp.t
  have a1 : w1.cell? ⟨w.heap.size, 1, none⟩ = some (.int .i64 s) := hk.hp.s
  have a2 : w1.cell? ⟨w.heap.size, 2, none⟩ = some (.int .i64 k) := hk.hp.k
  have b0 : w1.cell? ⟨w.heap.size + 1, 0, none⟩ = some (.int .i64 t1) := hk.hq.t
  have b1 : w1.cell? ⟨w.heap.size + 1, 1, none⟩ = some (.int .i64 s1) := hk.hq.s
  have b2 : w1.cell? ⟨w.heap.size + 1, 2, none⟩ = some (.int .i64 k1) := hk.hq.k
  have f0 := hk.hq.free 0
  have f1 := hk.hq.free 1
  have f2 := hk.hq.free 2
  have K1 := Lib.hid hk
  clear hb hk K0
  go_upto_region 4 with fail
  change Code.wp _ _ _ _ (put3 w1 (w.heap.size + 1) ⟨t, s, k⟩)
  have K2 : Hid (Kb w w.heap.size (w.heap.size + 1) ⟨⟨t, s, k⟩, u⟩ ⟨⟨t, s, k⟩, u1⟩ [] (put3 w1 (w.heap.size + 1) ⟨t, s, k⟩)) :=
    Lib.hid ⟨K1.out.hp.put3_other _ (by omega), K1.out.hq.put3 ⟨t, s, k⟩, (fun v l hv => by cases hv), put3_below K1.out.old (by omega)⟩
  clear a0 a1 a2 b0 b1 b2 f0 f1 f2 K1
  generalize put3 w1 (w.heap.size + 1) ⟨t, s, k⟩ = w2 at *
  have hd := K2.out.drew
  have a0 : w2.drew.cell? ⟨w.heap.size, 0, none⟩ = some (.int .i64 t) := hd.hp.t
  have a1 : w2.drew.cell? ⟨w.heap.size, 1, none⟩ = some (.int .i64 s) := hd.hp.s
  have a2 : w2.drew.cell? ⟨w.heap.size, 2, none⟩ = some (.int .i64 k) := hd.hp.k
  have a3 : w2.drew.cell? ⟨w.heap.size, 3, none⟩ = some (.int .u64 u) := hd.hp.u
  have b0 : w2.drew.cell? ⟨w.heap.size + 1, 0, none⟩ = some (.int .i64 t) := hd.hq.t
  have b1 : w2.drew.cell? ⟨w.heap.size + 1, 1, none⟩ = some (.int .i64 s) := hd.hq.s
  have b2 : w2.drew.cell? ⟨w.heap.size + 1, 2, none⟩ = some (.int .i64 k) := hd.hq.k
  have b3 : w2.drew.cell? ⟨w.heap.size + 1, 3, none⟩ = some (.int .u64 u1) := hd.hq.u
  clear K2
  go_region_held3 (fun w' => w'.cell? ⟨w.heap.size, 0, none⟩ = some (.int .i64 t) ∧ w'.cell? ⟨w.heap.size, 1, none⟩ = some (.int .i64 s) ∧ w'.cell? ⟨w.heap.size, 2, none⟩ = some (.int .i64 k) ∧ w'.cell? ⟨w.heap.size, 3, none⟩ = some (.int .u64 u) ∧
      w'.cell? ⟨w.heap.size + 1, 0, none⟩ = some (.int .i64 t) ∧ w'.cell? ⟨w.heap.size + 1, 1, none⟩ = some (.int .i64 s) ∧ w'.cell? ⟨w.heap.size + 1, 2, none⟩ = some (.int .i64 k) ∧ w'.cell? ⟨w.heap.size + 1, 3, none⟩ = some (.int .u64 u1))
    (first | exact ⟨by with_reducible assumption, by with_reducible assumption, by with_reducible assumption, by with_reducible assumption, by with_reducible assumption, by with_reducible assumption, by with_reducible assumption, by with_reducible assumption⟩)
    (first
      | (go_at_call 8; first
        | ((with_reducible refine (kb_list (by with_reducible assumption) (put_to' t s k u HU.out _)).mono ?_); rintro e w' ⟨v1, rfl, g0, g1, g2, g3, g4, g5, g6, g7, g8⟩)
        | ((with_reducible refine (kb_list (by with_reducible assumption) (put_to' t s k u1 HU1.out _)).mono ?_); rintro e w' ⟨v2, rfl, g0, g1, g2, g3, g4, g5, g6, g7, g8⟩)))
  have l1 := g8.lists v1 (Sp.put ⟨⟨t, s, k⟩, u⟩) (by simp)
  have l2 := g8.lists v2 (Sp.put ⟨⟨t, s, k⟩, u1⟩) (by simp)
  rw [Sp.put_yes HG.out] at l1 l2
  obtain ⟨p1, o1, cap1, rfl, -, hl1, hc1⟩ := l1.eight rfl
  obtain ⟨p2, o2, cap2, rfl, -, hl2, hc2⟩ := l2.eight rfl
  obtain ⟨r, hr, hr2, hr3⟩ := rows_good HG.out
  obtain ⟨N, hN⟩ : ∃ N, N = 8 * r := ⟨_, rfl⟩
  have hNe : 8 * (r : Int) = (N : Int) := by omega
  have n1 : 16 ≤ (N : Int) := by omega
  have n2 : (N : Int) ≤ 32768 := by omega
  have HR := Lib.hid hr
  have HNN := Lib.hid hN
  have HN16 : Hid (16 ≤ N) := Lib.hid (by omega)
  have K3 := Lib.hid g8
  have HC1 := Lib.hid hc1
  have HC2 := Lib.hid hc2
  have HL1 := Lib.hid hl1
  have HL2 := Lib.hid hl2
  clear g3 g4 g5 g6 g7 g8 a0 a1 a2 a3 b0 b1 b2 b3 hd hc1 hc2 l1 l2 hr hr2 hr3 hN hl1 hl2
  go_wp2_with fail
  refine (rows_to HR.out _).mono ?_
  rintro e w3 ⟨rfl, hb⟩
  have K4 := Lib.hid (K3.out.on hb)
  have HB3 := Lib.hid hb
  have hmk := make_words N (by omega)
  clear hb K3 g0 g1 g2
  have M4 : Hid (Mf w3 w3.heap.size N (mid l 8) (w3.alloc (.cells (madeCells #[.int .u64 0] N) 28))) := Lib.hid ((Mf.new w3 N).same fun j _ => mid_zero l j)
  go_wp2_with fail
  clear hmk
  obtain ⟨G, hG⟩ : ∃ G, G = w3.heap.size := ⟨_, rfl⟩
  rw [← hG] at M4 ⊢
  have HGG := Lib.hid hG
  clear hG
  go_loopg [13] N (fun k p wr => FRel1 w3 G N l k p wr)
  case atStart => exact ⟨8, by omega, Nat.le_refl _, by have := HN16.out; omega, rfl, M4.out⟩
  case round =>
    obtain ⟨i, hk, h8, hm, rfl, hmf⟩ := hrel
    have HK := Lib.hid hk
    have H8 := Lib.hid h8
    have HM := Lib.hid hm
    have MF := Lib.hid hmf
    clear hk hm hmf M4
    have e1 : (N : Int) - 8 = ((N - 8 : Nat) : Int) := by have := HN16.out; omega
    have e2 : (i : Int) - 8 = ((i - 8 : Nat) : Int) := by omega
    have b1 : (i : Int) ≤ 32768 := by have := HM.out; omega
    obtain ⟨z, hz⟩ : ∃ z, decide (i < N - 8 ∧ i - 8 < n ∧ i < 3000) = z := ⟨_, rfl⟩
    have HZ := Lib.hid hz
    clear hz
    go_upto_region 10 with fail
    go_cut [68] from 54 to 68 (fun s68 wc => s68 = .bool z ∧ wr = wc)
    case first =>
      by_cases q1 : i < N - 8
      · have r1 : (i : Int) < ((N - 8 : Nat) : Int) := by omega
        by_cases q2 : i - 8 < n
        · have r2 : ((i - 8 : Nat) : Int) < (n : Int) := by omega
          by_cases q3 : i < 3000
          · have r3 : (i : Int) < 3000 := by omega
            go_wp2_with fail
            go_meet
            exact ⟨by rw [← HZ.out, decide_eq_true ⟨q1, q2, q3⟩], rfl⟩
          · have r3 : decide ((i : Int) < 3000) = false := decide_eq_false (by omega)
            go_wp2_with fail
            go_meet
            exact ⟨by rw [← HZ.out, decide_eq_false fun h => q3 h.2.2], rfl⟩
        · have r2 : decide (((i - 8 : Nat) : Int) < (n : Int)) = false := decide_eq_false (by omega)
          go_wp2_with fail
          go_meet
          exact ⟨by rw [← HZ.out, decide_eq_false fun h => q2 h.2.1], rfl⟩
      · have r1 : decide ((i : Int) < ((N - 8 : Nat) : Int)) = false := decide_eq_false (by omega)
        go_wp2_with fail
        go_meet
        exact ⟨by rw [← HZ.out, decide_eq_false fun h => q1 h.1], rfl⟩
    case rest =>
    obtain ⟨rfl, rfl⟩ := hcut
    rcases z with _ | _
    · have MF2 := Lib.hid MF.out
      have HM2 := Lib.hid HM.out
      clear HZ HK H8 HM MF h8 e1 e2 b1
      generalize i = m at *
      have M5 : Hid (Mf w3 G N (ends c d (Sp.full ⟨⟨t, s, k⟩, u⟩) (Sp.full ⟨⟨t, s, k⟩, u1⟩) l m N 0) wr) := Lib.hid (MF2.out.same fun j _ => ends_zero j)
      clear MF2
      go_wp2_with fail
      go_loopg [14] 8 (fun k' p wr => FRel2 w3 G N c d (Sp.full ⟨⟨t, s, k⟩, u⟩) (Sp.full ⟨⟨t, s, k⟩, u1⟩) l m k' p wr)
      case atStart => exact ⟨0, by omega, rfl, M5.out⟩
      case round =>
        obtain ⟨i, hk, rfl, hmf⟩ := hrel
        have HK := Lib.hid hk
        have MF := Lib.hid hmf
        clear hk hmf M5
        by_cases hlt : i < 8
        · have HLT := Lib.hid hlt
          have hlt2 : (i : Int) < 8 := by omega
          obtain ⟨M, hM⟩ : ∃ M, M = N - 8 + i := ⟨_, rfl⟩
          have e1 : (N : Int) - 8 = ((N - 8 : Nat) : Int) := by have := HN16.out; omega
          have e3 : ((N - 8 : Nat) : Int) + (i : Int) = (M : Int) := by omega
          have e4 : (M : Int) < (N : Int) := by omega
          have e5 : i < M := by have := HN16.out; omega
          have HMM := Lib.hid hM
          have hWW : Below w'.heap.size w' wr := below_on HB3.out MF.out.old
          have k1 : wr.cell? ⟨p1, o1 + i, none⟩ = some (.int .u64 ((Sp.full ⟨⟨t, s, k⟩, u⟩).getD i 0)) := by rw [hWW.cell (p := ⟨p1, _, none⟩) HL1.out]; exact HC1.out i _ (full_at hlt)
          have k2 : wr.cell? ⟨p2, o2 + i, none⟩ = some (.int .u64 ((Sp.full ⟨⟨t, s, k⟩, u1⟩).getD i 0)) := by rw [hWW.cell (p := ⟨p2, _, none⟩) HL2.out]; exact HC2.out i _ (full_at hlt)
          have hb3 := HB3.out.size
          have np1 : G ≠ p1 := by have := HL1.out; have := HGG.out; omega
          have np2 : G ≠ p2 := by have := HL2.out; have := HGG.out; omega
          have hiN : i < N := by omega
          have hMN : M < N := by omega
          have m1 := MF.out.cell i hiN
          have m2 := MF.out.cell M hMN
          have f1 := MF.out.free i
          have f2 := MF.out.free M
          have HIN := Lib.hid hiN
          have HMN := Lib.hid hMN
          have HSUC := Lib.hid (fun j => ends_succ (c := c) (d := d) (X := Sp.full ⟨⟨t, s, k⟩, u⟩) (Y := Sp.full ⟨⟨t, s, k⟩, u1⟩) (R := l) (m := m) HLT.out HN16.out j)
          generalize (Sp.full ⟨⟨t, s, k⟩, u⟩).getD i 0 = x at k1 HSUC
          generalize (Sp.full ⟨⟨t, s, k⟩, u1⟩).getD i 0 = y at k2 HSUC
          have hcc := HC.out
          have hdd := HD.out
          clear hWW hlt hb3 hiN hMN hM HC HD
          rcases c with _ | _
          · rcases d with _ | _
            · go_wp2_with fail
              have hm2 : Mf w3 G N (ends false false (Sp.full ⟨⟨t, s, k⟩, u⟩) (Sp.full ⟨⟨t, s, k⟩, u1⟩) l m N (i + 1)) (wr) := MF.out.same fun j _ => by rw [← HSUC.out j]; simp
              have HM3 := Lib.hid hm2
              clear hm2 hcc hdd k1 k2 m1 m2 f1 f2 np1 np2 e1 e3 e4 e5
              go_roundg (8 - (i + 1))
              case measure => have := HK.out; have := HLT.out; omega
              case rel => exact ⟨i + 1, by have := HK.out; have := HLT.out; omega, by go_num, HM3.out⟩
            · go_wp2_with fail
              have hm2 : Mf w3 G N (ends false true (Sp.full ⟨⟨t, s, k⟩, u⟩) (Sp.full ⟨⟨t, s, k⟩, u1⟩) l m N (i + 1)) (wr.setCell ⟨G, M, none⟩ (.int .u64 y)) := (MF.out.set HMN.out y).same fun j _ => by rw [← HSUC.out j]; simp [HMM.out]
              have HM3 := Lib.hid hm2
              clear hm2 hcc hdd k1 k2 m1 m2 f1 f2 np1 np2 e1 e3 e4 e5
              go_roundg (8 - (i + 1))
              case measure => have := HK.out; have := HLT.out; omega
              case rel => exact ⟨i + 1, by have := HK.out; have := HLT.out; omega, by go_num, HM3.out⟩
          · rcases d with _ | _
            · go_wp2_with fail
              have hm2 : Mf w3 G N (ends true false (Sp.full ⟨⟨t, s, k⟩, u⟩) (Sp.full ⟨⟨t, s, k⟩, u1⟩) l m N (i + 1)) (wr.setCell ⟨G, i, none⟩ (.int .u64 x)) := (MF.out.set HIN.out x).same fun j _ => by rw [← HSUC.out j]; simp
              have HM3 := Lib.hid hm2
              clear hm2 hcc hdd k1 k2 m1 m2 f1 f2 np1 np2 e1 e3 e4 e5
              go_roundg (8 - (i + 1))
              case measure => have := HK.out; have := HLT.out; omega
              case rel => exact ⟨i + 1, by have := HK.out; have := HLT.out; omega, by go_num, HM3.out⟩
            · go_wp2_with fail
              have hm2 : Mf w3 G N (ends true true (Sp.full ⟨⟨t, s, k⟩, u⟩) (Sp.full ⟨⟨t, s, k⟩, u1⟩) l m N (i + 1)) ((wr.setCell ⟨G, i, none⟩ (.int .u64 x)).setCell ⟨G, M, none⟩ (.int .u64 y)) := ((MF.out.set HIN.out x).set HMN.out y).same fun j _ => by rw [← HSUC.out j]; simp [HMM.out]
              have HM3 := Lib.hid hm2
              clear hm2 hcc hdd k1 k2 m1 m2 f1 f2 np1 np2 e1 e3 e4 e5
              go_roundg (8 - (i + 1))
              case measure => have := HK.out; have := HLT.out; omega
              case rel => exact ⟨i + 1, by have := HK.out; have := HLT.out; omega, by go_num, HM3.out⟩
        · have hi : i = 8 := by have := HK.out; omega
          have M8 : Hid (Mf w3 G N (ends c d (Sp.full ⟨⟨t, s, k⟩, u⟩) (Sp.full ⟨⟨t, s, k⟩, u1⟩) l m N 8) wr) := Lib.hid (by have := MF.out; rw [hi] at this; exact this)
          have hf := ends_found (c := c) (d := d) (x := ⟨⟨t, s, k⟩, u⟩) (y := ⟨⟨t, s, k⟩, u1⟩) (R := l) (m := m) (N := N) (r := r) HG.out HG.out HR.out HR.out HNN.out HN16.out HM2.out
          have KW := Lib.hid (K4.out.on MF.out.old)
          have hwl : Wds (ls N (ends c d (Sp.full ⟨⟨t, s, k⟩, u⟩) (Sp.full ⟨⟨t, s, k⟩, u1⟩) l m N 8)) := ls_words fun j _ => ends_wd (full_words HG.out HU.out) (full_words HG.out HU1.out) HW.out 8 j
          have hll : (ls N (ends c d (Sp.full ⟨⟨t, s, k⟩, u⟩) (Sp.full ⟨⟨t, s, k⟩, u1⟩) l m N 8)).length ≤ maxLen := by rw [ls_length]; unfold maxLen; omega
          have hmw := M8.out.words (m := N) (cap := N) (Nat.le_refl _) (Nat.le_refl _)
          have HF := Lib.hid hf
          have HWL := Lib.hid hwl
          have HLL := Lib.hid hll
          have HMW := Lib.hid hmw
          have hcc := HC.out
          have hdd := HD.out
          clear hi hf hwl hll hmw MF HK M8 HC HD
          rcases c with _ | _
          · rcases d with _ | _
            · go_wp2_with fail
              refine (find_to (t := 0) (s := 0) (k := 0) (b := 0) HMW.out HLL.out HWL.out HF.out.1 HF.out.2.1 HF.out.2.2).mono ?_
              rintro e w6 ⟨rfl, hb⟩
              have hk := KW.out.on hb
              have a0 : w6.cell? ⟨w.heap.size, 0, none⟩ = some (.int .i64 t) := hk.hp.t
              have a1 : w6.cell? ⟨w.heap.size, 1, none⟩ = some (.int .i64 s) := hk.hp.s
              have a2 : w6.cell? ⟨w.heap.size, 2, none⟩ = some (.int .i64 k) := hk.hp.k
              have a3 : w6.cell? ⟨w.heap.size, 3, none⟩ = some (.int .u64 u) := hk.hp.u
              have b0 : w6.cell? ⟨w.heap.size + 1, 0, none⟩ = some (.int .i64 t) := hk.hq.t
              have b1 : w6.cell? ⟨w.heap.size + 1, 1, none⟩ = some (.int .i64 s) := hk.hq.s
              have b2 : w6.cell? ⟨w.heap.size + 1, 2, none⟩ = some (.int .i64 k) := hk.hq.k
              have b3 : w6.cell? ⟨w.heap.size + 1, 3, none⟩ = some (.int .u64 u1) := hk.hq.u
              have hz1 : w.heap.size < w6.heap.size := hk.hp.lt
              have hz2 : w.heap.size + 1 < w6.heap.size := hk.hq.lt
              have B6 : Hid (Below w.heap.size w ((w6.alloc (.cells #[.int .i64 0, .int .i64 0, .int .i64 0, .int .u64 0] 30)).alloc (.cells #[.int .i64 0, .int .i64 0, .int .i64 0, .int .u64 0] 30))) := Lib.hid (below_on (below_on hk.old (below_alloc _ _)) (below_alloc _ _))
              clear hb hk KW HF HWL HLL HMW
              go_wp2
              go_ret
              exact ⟨rfl, B6.out⟩
            · go_wp2_with fail
              refine (find_to (t := t) (s := s) (k := k) (b := u1) HMW.out HLL.out HWL.out HF.out.1 HF.out.2.1 HF.out.2.2).mono ?_
              rintro e w6 ⟨rfl, hb⟩
              have hk := KW.out.on hb
              have a0 : w6.cell? ⟨w.heap.size, 0, none⟩ = some (.int .i64 t) := hk.hp.t
              have a1 : w6.cell? ⟨w.heap.size, 1, none⟩ = some (.int .i64 s) := hk.hp.s
              have a2 : w6.cell? ⟨w.heap.size, 2, none⟩ = some (.int .i64 k) := hk.hp.k
              have a3 : w6.cell? ⟨w.heap.size, 3, none⟩ = some (.int .u64 u) := hk.hp.u
              have b0 : w6.cell? ⟨w.heap.size + 1, 0, none⟩ = some (.int .i64 t) := hk.hq.t
              have b1 : w6.cell? ⟨w.heap.size + 1, 1, none⟩ = some (.int .i64 s) := hk.hq.s
              have b2 : w6.cell? ⟨w.heap.size + 1, 2, none⟩ = some (.int .i64 k) := hk.hq.k
              have b3 : w6.cell? ⟨w.heap.size + 1, 3, none⟩ = some (.int .u64 u1) := hk.hq.u
              have hz1 : w.heap.size < w6.heap.size := hk.hp.lt
              have hz2 : w.heap.size + 1 < w6.heap.size := hk.hq.lt
              have B6 : Hid (Below w.heap.size w ((w6.alloc (.cells #[.int .i64 t, .int .i64 s, .int .i64 k, .int .u64 u1] 30)).alloc (.cells #[.int .i64 t, .int .i64 s, .int .i64 k, .int .u64 u1] 30))) := Lib.hid (below_on (below_on hk.old (below_alloc _ _)) (below_alloc _ _))
              clear hb hk KW HF HWL HLL HMW
              go_wp2
              go_ret
              exact ⟨rfl, B6.out⟩
          · rcases d with _ | _
            · go_wp2_with fail
              refine (find_to (t := t) (s := s) (k := k) (b := u) HMW.out HLL.out HWL.out HF.out.1 HF.out.2.1 HF.out.2.2).mono ?_
              rintro e w6 ⟨rfl, hb⟩
              have hk := KW.out.on hb
              have a0 : w6.cell? ⟨w.heap.size, 0, none⟩ = some (.int .i64 t) := hk.hp.t
              have a1 : w6.cell? ⟨w.heap.size, 1, none⟩ = some (.int .i64 s) := hk.hp.s
              have a2 : w6.cell? ⟨w.heap.size, 2, none⟩ = some (.int .i64 k) := hk.hp.k
              have a3 : w6.cell? ⟨w.heap.size, 3, none⟩ = some (.int .u64 u) := hk.hp.u
              have b0 : w6.cell? ⟨w.heap.size + 1, 0, none⟩ = some (.int .i64 t) := hk.hq.t
              have b1 : w6.cell? ⟨w.heap.size + 1, 1, none⟩ = some (.int .i64 s) := hk.hq.s
              have b2 : w6.cell? ⟨w.heap.size + 1, 2, none⟩ = some (.int .i64 k) := hk.hq.k
              have b3 : w6.cell? ⟨w.heap.size + 1, 3, none⟩ = some (.int .u64 u1) := hk.hq.u
              have hz1 : w.heap.size < w6.heap.size := hk.hp.lt
              have hz2 : w.heap.size + 1 < w6.heap.size := hk.hq.lt
              have B6 : Hid (Below w.heap.size w ((w6.alloc (.cells #[.int .i64 t, .int .i64 s, .int .i64 k, .int .u64 u] 30)).alloc (.cells #[.int .i64 t, .int .i64 s, .int .i64 k, .int .u64 u] 30))) := Lib.hid (below_on (below_on hk.old (below_alloc _ _)) (below_alloc _ _))
              clear hb hk KW HF HWL HLL HMW
              go_wp2
              go_ret
              exact ⟨rfl, B6.out⟩
            · go_wp2_with fail
              refine (find_to (t := t) (s := s) (k := k) (b := u) HMW.out HLL.out HWL.out HF.out.1 HF.out.2.1 HF.out.2.2).mono ?_
              rintro e w6 ⟨rfl, hb⟩
              have hk := KW.out.on hb
              have a0 : w6.cell? ⟨w.heap.size, 0, none⟩ = some (.int .i64 t) := hk.hp.t
              have a1 : w6.cell? ⟨w.heap.size, 1, none⟩ = some (.int .i64 s) := hk.hp.s
              have a2 : w6.cell? ⟨w.heap.size, 2, none⟩ = some (.int .i64 k) := hk.hp.k
              have a3 : w6.cell? ⟨w.heap.size, 3, none⟩ = some (.int .u64 u) := hk.hp.u
              have b0 : w6.cell? ⟨w.heap.size + 1, 0, none⟩ = some (.int .i64 t) := hk.hq.t
              have b1 : w6.cell? ⟨w.heap.size + 1, 1, none⟩ = some (.int .i64 s) := hk.hq.s
              have b2 : w6.cell? ⟨w.heap.size + 1, 2, none⟩ = some (.int .i64 k) := hk.hq.k
              have b3 : w6.cell? ⟨w.heap.size + 1, 3, none⟩ = some (.int .u64 u1) := hk.hq.u
              have hz1 : w.heap.size < w6.heap.size := hk.hp.lt
              have hz2 : w.heap.size + 1 < w6.heap.size := hk.hq.lt
              have B6 : Hid (Below w.heap.size w ((w6.alloc (.cells #[.int .i64 t, .int .i64 s, .int .i64 k, .int .u64 u] 30)).alloc (.cells #[.int .i64 t, .int .i64 s, .int .i64 k, .int .u64 u] 30))) := Lib.hid (below_on (below_on hk.old (below_alloc _ _)) (below_alloc _ _))
              clear hb hk KW HF HWL HLL HMW
              go_wp2
              go_ret
              exact ⟨rfl, B6.out⟩
    · obtain ⟨q1, q2, q3⟩ := of_decide_eq_true HZ.out
      have q1' : (i : Int) < ((N - 8 : Nat) : Int) := by omega
      have q2' : ((i - 8 : Nat) : Int) < (n : Int) := by omega
      obtain ⟨b, o, rfl, hlt, hcl⟩ := HL.out (by have := HN.out; omega)
      have hWW : Below w.heap.size w wr := below_on K4.out.old MF.out.old
      have hget : l[i - 8]? = some (l.getD (i - 8) 0) := by
        have : i - 8 < l.length := by have := HN.out; omega
        rw [List.getD, List.getElem?_eq_getElem this]
        rfl
      have c1 : wr.cell? ⟨b, o + (i - 8), none⟩ = some (.int .u64 (l.getD (i - 8) 0)) := by rw [hWW.cell (p := ⟨b, _, none⟩) hlt]; exact hcl _ _ hget
      have hiN : i < N := by omega
      have c2 := MF.out.cell i hiN
      have f2 := MF.out.free i
      have HQ1 := Lib.hid q1
      have HIN := Lib.hid hiN
      clear hcl hWW hget hlt hiN q1 q2 q3
      generalize hy : l.getD (i - 8) 0 = y at c1
      have HY := Lib.hid hy
      clear hy
      go_wp2_with fail
      have hm2 : Mf w3 G N (mid l (i + 1)) (wr.setCell ⟨G, i, none⟩ (.int .u64 y)) := (MF.out.set HIN.out y).same fun j _ => by rw [← mid_succ l H8.out j, HY.out]
      have HM2 := Lib.hid hm2
      clear hm2 c1 c2 f2
      go_roundg (N + 8 - (i + 1))
      case measure => have := HK.out; have := HQ1.out; omega
      case rel => exact ⟨i + 1, by have := HK.out; have := HQ1.out; omega, by have := H8.out; omega, by have := HQ1.out; omega, by go_num, HM2.out⟩

/-- SuperFinds. -/
theorem finds_walk (a b : Sp) (q : Int) (A : Option Addr) (cap : Nat) (l : List Int) (w : World) (ha : 0 ≤ a.b ∧ a.b < 18446744073709551616) (hb : 0 ≤ b.b ∧ b.b < 18446744073709551616) (hl : l.length ≤ maxLen) (hL : WordsAt w w.heap.size A l) (hW : Wds l) :
    Calls Try.prog 6 #[.agg #[.int .i64 a.g.t, .int .i64 a.g.s, .int .i64 a.g.k, .int .u64 a.b], .agg #[.int .i64 b.g.t, .int .i64 b.g.s, .int .i64 b.g.k, .int .u64 b.b], .int .i64 q, .slice A l.length cap] w fun e w' => e = .returned (.bool true) ∧ Below w.heap.size w w' := by
  obtain ⟨⟨t, s, k⟩, u⟩ := a
  obtain ⟨⟨t1, s1, k1⟩, u1⟩ := b
  rcases hg : Gd.ok ⟨t, s, k⟩ with _ | _
  · exact finds_bad t s k u t1 s1 k1 u1 q A cap l.length w ha hb hg
  · exact finds_good t s k u t1 s1 k1 u1 q _ _ A cap l w ha hb hg rfl rfl hL hW hl
end Go.Proofs.Yteadkcekoccmdaa
