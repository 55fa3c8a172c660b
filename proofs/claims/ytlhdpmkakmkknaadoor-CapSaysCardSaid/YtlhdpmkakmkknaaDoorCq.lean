/-
  The walks of the reference's CapWord and CapGet. Condition: a word is a word.
-/
import Derived.Test.YtlhdpmkakmkknaaDoorCo
namespace Go.Proofs.YtlhdpmkakmkknaaDoor
open Go.RowKit

theorem rword_no {a b d f : Int} (h : Cp.good ⟨a, b, d, f⟩ = false) (w : World) : Calls Tryd.prog 17 #[.agg #[.int .i64 a, .int .i64 b, .int .i64 d, .int .i64 f]] w fun e w' => e = .returned (.tuple #[.int .u64 0, .bool false]) ∧ Below w.heap.size w w' := by
  have HG := Lib.hid h
  have hK := Fr.new w a b d f 39
  clear h
  go_enter Tryd.func17, Tryd.ntmps17
  go_wp2_with fail
  generalize w.alloc (.cells #[.int .i64 a, .int .i64 b, .int .i64 d, .int .i64 f] 39) = w1 at hK ⊢
  refine (rcgood_at HG.out w1).mono ?_
  rintro e w2 ⟨rfl, hb⟩
  have K2 := Lib.hid (hK.on hb)
  clear hK hb
  go_wp2
  go_ret2
  exact ⟨rfl, K2.out.old⟩
set_option maxHeartbeats 2000000 in
theorem rword_yes {t n r g m : Nat} (h : Cp.good ⟨t, n, r, g⟩ = true) (ht : t ≤ 5) (hn : n < 48) (hr : r < 8) (hg : g < 65536) (hm : t + 256 * r + 65536 * g + 4294967296 * n = m) (w : World) :
    Calls Tryd.prog 17 #[.agg #[.int .i64 (t : Int), .int .i64 (n : Int), .int .i64 (r : Int), .int .i64 (g : Int)]] w fun e w' => e = .returned (.tuple #[.int .u64 (m : Int), .bool true]) ∧ Below w.heap.size w w' := by
  have HG := Lib.hid h
  have hK := Fr.new w t n r g 39
  have ut : IntKind.u64.wrap (t : Int) = t := u64_in (by omega) (by omega)
  have un : IntKind.u64.wrap (n : Int) = n := u64_in (by omega) (by omega)
  have ur : IntKind.u64.wrap (r : Int) = r := u64_in (by omega) (by omega)
  have ug : IntKind.u64.wrap (g : Int) = g := u64_in (by omega) (by omega)
  have wr : IntKind.u64.wrap ((r : Int) * 256) = (r : Int) * 256 := u64_in (by omega) (by omega)
  have wg : IntKind.u64.wrap ((g : Int) * 65536) = (g : Int) * 65536 := u64_in (by omega) (by omega)
  have wn : IntKind.u64.wrap ((n : Int) * 4294967296) = (n : Int) * 4294967296 := u64_in (by omega) (by omega)
  have s1 : IntKind.u64.wrap ((t : Int) + (r : Int) * 256) = (t : Int) + (r : Int) * 256 := u64_in (by omega) (by omega)
  have s2 : IntKind.u64.wrap ((t : Int) + (r : Int) * 256 + (g : Int) * 65536) = (t : Int) + (r : Int) * 256 + (g : Int) * 65536 := u64_in (by omega) (by omega)
  have s3 : IntKind.u64.wrap ((t : Int) + (r : Int) * 256 + (g : Int) * 65536 + (n : Int) * 4294967296) = (m : Int) := (u64_in (by omega) (by omega)).trans (by omega)
  clear h ht hn hr hg hm
  go_enter Tryd.func17, Tryd.ntmps17
  go_wp2_with fail
  generalize w.alloc (.cells #[.int .i64 (t : Int), .int .i64 (n : Int), .int .i64 (r : Int), .int .i64 (g : Int)] 39) = w1 at hK ⊢
  refine (rcgood_at HG.out w1).mono ?_
  rintro e w2 ⟨rfl, hb⟩
  have K2 := Lib.hid (hK.on hb)
  have c0 := K2.out.c0
  have c1 := K2.out.c1
  have c2 := K2.out.c2
  have c3 := K2.out.c3
  clear hK hb
  go_wp2
  go_ret2
  exact ⟨rfl, K2.out.old⟩
theorem rword_any (c : Cp) (w : World) : Calls Tryd.prog 17 #[c.val] w fun e w' => e = .returned (putV c.word) ∧ Below w.heap.size w w' := by
  obtain ⟨a, b, d, f⟩ := c
  rcases h : Cp.good ⟨a, b, d, f⟩ with _ | _
  · have e : Cp.word ⟨a, b, d, f⟩ = none := by rw [Cp.word, h]; rfl
    rw [e]
    exact rword_no h w
  · obtain ⟨t, n, r, g, rfl, rfl, rfl, rfl, h1, h2, h3, h4⟩ := good_nat h
    have e : Cp.word ⟨t, n, r, g⟩ = some (t + 256 * r + 65536 * g + 4294967296 * n) := by rw [Cp.word, h]; rfl
    rw [e]
    exact rword_yes h h1 h2 h3 h4 rfl w

theorem and_low (z : Nat) (hz : z ≤ top) (k : Nat) : bits .and .u64 ((z / k : Nat) : Int) 65535 = ((z / k % 65536 : Nat) : Int) ∧ bits .and .u64 ((z / k : Nat) : Int) 255 = ((z / k % 256 : Nat) : Int) := by
  have h : z / k ≤ top := Nat.le_trans (Nat.div_le_self _ _) hz
  unfold top at h
  constructor
  · rw [show (65535 : Int) = ((65535 : Nat) : Int) by rfl, bits_and_u64_nat _ _ (by omega) (by omega)]
    rw [show z / k &&& 65535 = z / k % 65536 from Nat.and_two_pow_sub_one_eq_mod _ 16]
  · rw [show (255 : Int) = ((255 : Nat) : Int) by rfl, bits_and_u64_nat _ _ (by omega) (by omega)]
    rw [show z / k &&& 255 = z / k % 256 from Nat.and_two_pow_sub_one_eq_mod _ 8]

theorem cast_div (z k : Nat) : (z : Int) / (k : Int) = ((z / k : Nat) : Int) := (Int.natCast_ediv z k).symm
theorem cast_mod (z t : Nat) (h : z % 256 = t) : (z : Int) % 256 = (t : Int) := by rw [← h]; exact (Int.natCast_emod z 256).symm
theorem part_n {z n : Nat} (hz : z ≤ top) (hn : z / 4294967296 % 65536 = n) : wrap64 (bits .and .u64 ((z : Int) / 4294967296) 65535) = (n : Int) := by
  rw [show (z : Int) / 4294967296 = ((z / 4294967296 : Nat) : Int) from cast_div z 4294967296, (and_low z hz _).1, hn]
  exact wrap_nat (hn ▸ Nat.mod_lt _ (by decide))
theorem part_r {z n : Nat} (hz : z ≤ top) (hn : z / 256 % 256 = n) : wrap64 (bits .and .u64 ((z : Int) / 256) 255) = (n : Int) := by
  rw [show (z : Int) / 256 = ((z / 256 : Nat) : Int) from cast_div z 256, (and_low z hz _).2, hn]
  exact wrap_nat (Nat.lt_trans (hn ▸ Nat.mod_lt _ (by decide) : n < 256) (by decide))
theorem part_g {z n : Nat} (hz : z ≤ top) (hn : z / 65536 % 65536 = n) : wrap64 (bits .and .u64 ((z : Int) / 65536) 65535) = (n : Int) := by
  rw [show (z : Int) / 65536 = ((z / 65536 : Nat) : Int) from cast_div z 65536, (and_low z hz _).1, hn]
  exact wrap_nat (hn ▸ Nat.mod_lt _ (by decide))

set_option maxHeartbeats 4000000 in
theorem rget_walk {z : Nat} {t n r g : Nat} {x : Bool} (hz : z ≤ top) (ht : z % 256 = t) (hn : z / 4294967296 % 65536 = n) (hr : z / 256 % 256 = r) (hg : z / 65536 % 65536 = g) (hx : Cp.good ⟨t, n, r, g⟩ = x) (w : World) :
    Calls Tryd.prog 19 #[.int .u64 (z : Int)] w fun e w' => e = .returned (gotV (if x = true ∧ t + 256 * r + 65536 * g + 4294967296 * n = z then some ⟨t, n, r, g⟩ else none)) ∧ Below w.heap.size w w' := by
  have q0 := cast_mod z t ht
  have q1 := part_n hz hn
  have q2 := part_r hz hr
  have q3 := part_g hz hg
  have hJ := (Fr.new w 0 0 0 0 39).alloc (.cells #[.int .i64 (t : Int), .int .i64 (n : Int), .int .i64 (r : Int), .int .i64 (g : Int)] 39)
  have hK := Fr.also (W := w) (w := w.alloc (.cells #[.int .i64 0, .int .i64 0, .int .i64 0, .int .i64 0] 39)) (below_alloc _ _) t n r g 39
  rw [show (w.alloc (.cells #[.int .i64 0, .int .i64 0, .int .i64 0, .int .i64 0] 39)).heap.size = w.heap.size + 1 by simp] at hK
  obtain ⟨y, hy⟩ : ∃ y, (if x = true ∧ t + 256 * r + 65536 * g + 4294967296 * n = z then some (⟨t, n, r, g⟩ : Cp) else none) = y := ⟨_, rfl⟩
  rw [hy]
  have HY := Lib.hid hy
  have HX := Lib.hid hx
  clear ht hn hr hg hz hx hy
  go_enter Tryd.func19, Tryd.ntmps19
  go_wp2_with fail
  generalize (w.alloc (.cells #[.int .i64 0, .int .i64 0, .int .i64 0, .int .i64 0] 39)).alloc (.cells #[.int .i64 (t : Int), .int .i64 (n : Int), .int .i64 (r : Int), .int .i64 (g : Int)] 39) = w1 at hK hJ ⊢
  clear q0 q1 q2 q3
  rcases x with _ | _
  · refine (rword_no HX.out w1).mono ?_
    rintro e w2 ⟨rfl, hb⟩
    have J3 := Lib.hid (hJ.on hb)
    have hy : y = none := HY.out.symm.trans (if_neg (fun q => by cases q.1))
    clear hK hJ hb HY
    have d0 := J3.out.c0
    have d1 := J3.out.c1
    have d2 := J3.out.c2
    have d3 := J3.out.c3
    have f0 := J3.out.free 0
    have f1 := J3.out.free 1
    have f2 := J3.out.free 2
    have f3 := J3.out.free 3
    go_wp2
    have q := J3.out.put 0 0 0 0
    have e0 := q.c0
    have e1 := q.c1
    have e2 := q.c2
    have e3 := q.c3
    unfold put4 at e0 e1 e2 e3
    subst hy
    refine bodyPost_ret (by simp [results, Tryd.results19, go_sem, e0, e1, e2, e3]; rfl) rfl ?_
    exact ⟨rfl, q.old⟩
  obtain ⟨t', n', r', g', e1, e2, e3, e4, k1, k2, k3, k4⟩ := good_nat HX.out
  obtain rfl : t = t' := by omega
  obtain rfl : n = n' := by omega
  obtain rfl : r = r' := by omega
  obtain rfl : g = g' := by omega
  obtain ⟨m, hm⟩ : ∃ m, t + 256 * r + 65536 * g + 4294967296 * n = m := ⟨_, rfl⟩
  refine (rword_yes HX.out k1 k2 k3 k4 hm w1).mono ?_
  rintro e w2 ⟨rfl, hb⟩
  have J3 := Lib.hid (hJ.on hb)
  have K3 := Lib.hid (hK.on hb)
  clear e1 e2 e3 e4 k1 k2 k3 k4 hK hJ hb
  by_cases he : m = z
  · have hy : y = some ⟨t, n, r, g⟩ := HY.out.symm.trans (if_pos ⟨rfl, hm.trans he⟩)
    have hne : ((m : Int) != (z : Int)) = false := by simp [he]
    clear HY hm he
    have c0 := K3.out.c0
    have c1 := K3.out.c1
    have c2 := K3.out.c2
    have c3 := K3.out.c3
    have d0 := J3.out.c0
    have d1 := J3.out.c1
    have d2 := J3.out.c2
    have d3 := J3.out.c3
    have f0 := J3.out.free 0
    have f1 := J3.out.free 1
    have f2 := J3.out.free 2
    have f3 := J3.out.free 3
    go_wp2
    have q := J3.out.put t n r g
    have e0 := q.c0
    have e1 := q.c1
    have e2 := q.c2
    have e3 := q.c3
    unfold put4 at e0 e1 e2 e3
    subst hy
    refine bodyPost_ret (by simp [results, Tryd.results19, go_sem, e0, e1, e2, e3]; rfl) rfl ?_
    exact ⟨rfl, q.old⟩
  · have hy : y = none := HY.out.symm.trans (if_neg (fun q => he (hm.symm.trans q.2)))
    have hne : ((m : Int) != (z : Int)) = true := by simp; omega
    clear HY hm he
    have d0 := J3.out.c0
    have d1 := J3.out.c1
    have d2 := J3.out.c2
    have d3 := J3.out.c3
    have f0 := J3.out.free 0
    have f1 := J3.out.free 1
    have f2 := J3.out.free 2
    have f3 := J3.out.free 3
    go_wp2
    have q := J3.out.put 0 0 0 0
    have e0 := q.c0
    have e1 := q.c1
    have e2 := q.c2
    have e3 := q.c3
    unfold put4 at e0 e1 e2 e3
    subst hy
    refine bodyPost_ret (by simp [results, Tryd.results19, go_sem, e0, e1, e2, e3]; rfl) rfl ?_
    exact ⟨rfl, q.old⟩
theorem rget_any (z : Nat) (hz : z ≤ top) (w : World) : Calls Tryd.prog 19 #[.int .u64 (z : Int)] w fun e w' => e = .returned (gotV (Cp.get z)) ∧ Below w.heap.size w w' := by
  have := rget_walk hz rfl rfl rfl rfl rfl w
  rwa [show (if Cp.good ⟨((z % 256 : Nat) : Int), ((z / 4294967296 % 65536 : Nat) : Int), ((z / 256 % 256 : Nat) : Int), ((z / 65536 % 65536 : Nat) : Int)⟩ = true ∧ z % 256 + 256 * (z / 256 % 256) + 65536 * (z / 65536 % 65536) + 4294967296 * (z / 4294967296 % 65536) = z then some (⟨((z % 256 : Nat) : Int), ((z / 4294967296 % 65536 : Nat) : Int), ((z / 256 % 256 : Nat) : Int), ((z / 65536 % 65536 : Nat) : Int)⟩ : Cp) else none) = Cp.get z from ?_] at this
  unfold Cp.get Cp.ofw
  by_cases h : z < 281474976710656
  · by_cases k : Cp.good ⟨((z % 256 : Nat) : Int), ((z / 4294967296 % 65536 : Nat) : Int), ((z / 256 % 256 : Nat) : Int), ((z / 65536 % 65536 : Nat) : Int)⟩ = true
    · rw [if_pos ⟨k, by omega⟩, if_pos ⟨h, k⟩]
    · rw [if_neg (fun q => k q.1), if_neg (fun q => k q.2)]
  · rw [if_neg (fun q => by omega), if_neg (fun q => h q.1)]
end Go.Proofs.YtlhdpmkakmkknaaDoor
