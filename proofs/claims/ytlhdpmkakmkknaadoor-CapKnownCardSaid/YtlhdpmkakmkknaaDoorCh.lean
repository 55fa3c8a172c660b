/-
  The walk of the law CapBack: it answers true. Condition: the word is a word.
-/
import Derived.Test.YtlhdpmkakmkknaaDoorCg
namespace Go.Proofs.YtlhdpmkakmkknaaDoor
open Go.RowKit

theorem get_no {z : Nat} (hz : z ≤ top) (h : Cp.get z = none) (w : World) : Calls Tryd.prog 14 #[.int .u64 (z : Int)] w fun e w' => e = .returned (.tuple #[.agg #[.int .i64 0, .int .i64 0, .int .i64 0, .int .i64 0], .bool false]) ∧ Below w.heap.size w w' := by
  have := cget_any z hz w
  rw [h] at this
  exact this
theorem get_to {z : Nat} {c : Cp} (hz : z ≤ top) (h : Cp.get z = some c) (w : World) : Calls Tryd.prog 14 #[.int .u64 (z : Int)] w fun e w' => e = .returned (.tuple #[.agg #[.int .i64 c.ty, .int .i64 c.th, .int .i64 c.ri, .int .i64 c.ba], .bool true]) ∧ Below w.heap.size w w' := by
  have := cget_any z hz w
  rw [h] at this
  exact this
theorem word_off {a b d f : Int} (h : Cp.word ⟨a, b, d, f⟩ = none) (w : World) : Calls Tryd.prog 9 #[.agg #[.int .i64 a, .int .i64 b, .int .i64 d, .int .i64 f]] w fun e w' => e = .returned (.tuple #[.int .u64 0, .bool false]) ∧ Below w.heap.size w w' := by
  have := word_any ⟨a, b, d, f⟩ w
  rw [h] at this
  exact this
theorem word_to {a b d f : Int} {m : Nat} (h : Cp.word ⟨a, b, d, f⟩ = some m) (w : World) : Calls Tryd.prog 9 #[.agg #[.int .i64 a, .int .i64 b, .int .i64 d, .int .i64 f]] w fun e w' => e = .returned (.tuple #[.int .u64 (m : Int), .bool true]) ∧ Below w.heap.size w w' := by
  have := word_any ⟨a, b, d, f⟩ w
  rw [h] at this
  exact this
theorem word_zero (w : World) : Calls Tryd.prog 9 #[.agg #[.int .i64 0, .int .i64 0, .int .i64 0, .int .i64 0]] w fun e w' => e = .returned (.tuple #[.int .u64 0, .bool true]) ∧ Below w.heap.size w w' := word_to (m := 0) rfl w
theorem get_zero (w : World) : Calls Tryd.prog 14 #[.int .u64 0] w fun e w' => e = .returned (.tuple #[.agg #[.int .i64 0, .int .i64 0, .int .i64 0, .int .i64 0], .bool true]) ∧ Below w.heap.size w w' := get_to (z := 0) (c := .none) (by decide) rfl w

/-- a word is read as what it was written of -/
theorem getw_word {t n r g : Nat} (h : Cp.good ⟨t, n, r, g⟩ = true) (h1 : t ≤ 5) (h2 : n < 48) (h3 : r < 8) (h4 : g < 65536) : Cp.get (t + 256 * r + 65536 * g + 4294967296 * n) = some ⟨t, n, r, g⟩ := by
  have e : Cp.ofw (t + 256 * r + 65536 * g + 4294967296 * n) = ⟨t, n, r, g⟩ := by
    unfold Cp.ofw
    congr 2 <;> omega
  rw [Cp.get, e, h, if_pos ⟨by omega, rfl⟩]
theorem word_get {z : Nat} {c : Cp} (h : Cp.get z = some c) : c.word = some z := by
  unfold Cp.get at h
  split at h
  · next q =>
    cases h
    rw [Cp.word, if_pos q.2]
    have := q.1
    simp only [Cp.num, Cp.ofw, Int.toNat_natCast]
    congr 1
    omega
  · cases h

set_option maxHeartbeats 8000000 in
theorem back_walk (c : Cp) (z : Nat) (hz : z ≤ top) (w : World) : Calls Tryd.prog 6 #[c.val, .int .u64 (z : Int)] w fun e w' => e = .returned (.bool true) ∧ Below w.heap.size w w' := by
  have HZ := Lib.hid hz
  obtain ⟨a, b, d, f⟩ := c
  have hK := Fr.new w a b d f 24
  clear hz
  show Calls Tryd.prog 6 #[.agg #[.int .i64 a, .int .i64 b, .int .i64 d, .int .i64 f], .int .u64 (z : Int)] w _
  go_enter Tryd.func6, Tryd.ntmps6
  go_wp2_with fail
  generalize w.alloc (.cells #[.int .i64 a, .int .i64 b, .int .i64 d, .int .i64 f] 24) = w1 at hK ⊢
  refine (awake_any w1).mono ?_
  rintro e w2 ⟨rfl, hb⟩
  have K := Lib.hid (hK.on hb)
  clear hK hb
  have c0 := K.out.c0
  have c1 := K.out.c1
  have c2 := K.out.c2
  have c3 := K.out.c3
  go_wp2_with fail
  clear c0 c1 c2 c3
  rcases hx : Cp.good ⟨a, b, d, f⟩ with _ | _
  · have HX := Lib.hid hx
    have HW : Hid (Cp.word ⟨a, b, d, f⟩ = none) := Lib.hid (by rw [Cp.word, hx]; rfl)
    clear hx
    refine (word_off HW.out w2).mono ?_
    rintro e w3 ⟨rfl, hb⟩
    replace K := Lib.hid (K.out.on hb)
    clear hb
    go_wp2_with fail
    refine (get_zero w3).mono ?_
    rintro e w4 ⟨rfl, hb⟩
    replace K := Lib.hid (K.out.on hb)
    clear hb
    have hJ := Fr.also (W := w) K.out.old 0 0 0 0 24
    have hI := K.out.alloc (.cells #[.int .i64 0, .int .i64 0, .int .i64 0, .int .i64 0] 24)
    have c0 := hI.c0
    have c1 := hI.c1
    have c2 := hI.c2
    have c3 := hI.c3
    have J := Lib.hid hJ
    replace K := Lib.hid hI
    clear hJ hI
    go_wp2_with fail
    clear c0 c1 c2 c3
    obtain ⟨p, hp⟩ : ∃ p, w4.heap.size = p := ⟨_, rfl⟩
    rw [hp] at J ⊢
    clear hp
    generalize w4.alloc (.cells #[.int .i64 0, .int .i64 0, .int .i64 0, .int .i64 0] 24) = w5 at *
    refine (cgood_at HX.out w5).mono ?_
    rintro e w6 ⟨rfl, hb⟩
    replace K := Lib.hid (K.out.on hb)
    replace J := Lib.hid (J.out.on hb)
    clear hb
    go_wp2_with fail
    clear J
    rcases hg : Cp.get z with _ | y
    · have HG := Lib.hid hg
      clear hg
      have heq : ∀ w, (Op.equalIn 10000 24 (.agg #[.int .i64 0, .int .i64 0, .int .i64 0, .int .i64 0]) (.agg #[.int .i64 0, .int .i64 0, .int .i64 0, .int .i64 0])).run Tryd.prog w = .ok true w := fun w => eq24 .none .none w
      go_wp2_with fail
      refine (get_no HZ.out HG.out w6).mono ?_
      rintro e v1 ⟨rfl, hb⟩
      replace K := Lib.hid (K.out.on hb)
      clear hb
      have hJ := Fr.also (W := w) K.out.old 0 0 0 0 24
      have c0 := hJ.c0
      have c1 := hJ.c1
      have c2 := hJ.c2
      have c3 := hJ.c3
      have J := Lib.hid hJ
      clear hJ
      go_wp2_with fail
      clear c0 c1 c2 c3
      obtain ⟨p, hp⟩ : ∃ p, v1.heap.size = p := ⟨_, rfl⟩
      rw [hp] at J ⊢
      clear K hp
      generalize v1.alloc (.cells #[.int .i64 0, .int .i64 0, .int .i64 0, .int .i64 0] 24) = v2 at *
      refine (word_zero v2).mono ?_
      rintro e v3 ⟨rfl, hb⟩
      replace J := Lib.hid (J.out.on hb)
      clear hb
      have c0 := J.out.c0
      have c1 := J.out.c1
      have c2 := J.out.c2
      have c3 := J.out.c3
      go_wp2
      go_ret
      exact ⟨rfl, J.out.old⟩
    · have HG := Lib.hid hg
      clear hg
      have HW := Lib.hid (word_get HG.out)
      have hzz : ((z : Int) == z) = true := by simp
      go_wp2_with fail
      refine (get_to HZ.out HG.out w6).mono ?_
      rintro e v1 ⟨rfl, hb⟩
      replace K := Lib.hid (K.out.on hb)
      clear hb
      have hJ := Fr.also (W := w) K.out.old y.ty y.th y.ri y.ba 24
      have c0 := hJ.c0
      have c1 := hJ.c1
      have c2 := hJ.c2
      have c3 := hJ.c3
      have J := Lib.hid hJ
      clear hJ
      go_wp2_with fail
      clear c0 c1 c2 c3
      obtain ⟨p, hp⟩ : ∃ p, v1.heap.size = p := ⟨_, rfl⟩
      rw [hp] at J ⊢
      clear K hp
      generalize v1.alloc (.cells #[.int .i64 y.ty, .int .i64 y.th, .int .i64 y.ri, .int .i64 y.ba] 24) = v2 at *
      refine (word_to HW.out v2).mono ?_
      rintro e v3 ⟨rfl, hb⟩
      replace J := Lib.hid (J.out.on hb)
      clear hb
      have c0 := J.out.c0
      have c1 := J.out.c1
      have c2 := J.out.c2
      have c3 := J.out.c3
      go_wp2
      go_ret
      exact ⟨by simp, J.out.old⟩
  · obtain ⟨t, n, r, g, rfl, rfl, rfl, rfl, h1, h2, h3, h4⟩ := good_nat hx
    obtain ⟨m, hm⟩ : ∃ m, t + 256 * r + 65536 * g + 4294967296 * n = m := ⟨_, rfl⟩
    have HW : Hid (Cp.word ⟨t, n, r, g⟩ = some m) := Lib.hid (by rw [← hm, Cp.word, hx]; rfl)
    have HR : Hid (Cp.get m = some ⟨t, n, r, g⟩) := Lib.hid (hm ▸ getw_word hx h1 h2 h3 h4)
    have HM : Hid (m ≤ top) := Lib.hid (by unfold top; omega)
    have HE : Hid (∀ w, (Op.equalIn 10000 24 (.agg #[.int .i64 (t : Int), .int .i64 (n : Int), .int .i64 (r : Int), .int .i64 (g : Int)]) (.agg #[.int .i64 (t : Int), .int .i64 (n : Int), .int .i64 (r : Int), .int .i64 (g : Int)])).run Tryd.prog w = .ok true w) :=
      Lib.hid fun w => by have := eq24 ⟨t, n, r, g⟩ ⟨t, n, r, g⟩ w; rwa [show Cp.eq ⟨t, n, r, g⟩ ⟨t, n, r, g⟩ = true by simp [Cp.eq]] at this
    have HX := Lib.hid hx
    clear hx h1 h2 h3 h4 hm
    refine (word_to HW.out w2).mono ?_
    rintro e w3 ⟨rfl, hb⟩
    replace K := Lib.hid (K.out.on hb)
    clear hb
    go_wp2_with fail
    refine (get_to HM.out HR.out w3).mono ?_
    rintro e w4 ⟨rfl, hb⟩
    replace K := Lib.hid (K.out.on hb)
    clear hb
    have hJ := Fr.also (W := w) K.out.old (t : Int) (n : Int) (r : Int) (g : Int) 24
    have hI := K.out.alloc (.cells #[.int .i64 (t : Int), .int .i64 (n : Int), .int .i64 (r : Int), .int .i64 (g : Int)] 24)
    have c0 := hI.c0
    have c1 := hI.c1
    have c2 := hI.c2
    have c3 := hI.c3
    have J := Lib.hid hJ
    replace K := Lib.hid hI
    clear hJ hI
    go_wp2_with fail
    clear c0 c1 c2 c3
    obtain ⟨p, hp⟩ : ∃ p, w4.heap.size = p := ⟨_, rfl⟩
    rw [hp] at J ⊢
    clear hp
    generalize w4.alloc (.cells #[.int .i64 (t : Int), .int .i64 (n : Int), .int .i64 (r : Int), .int .i64 (g : Int)] 24) = w5 at *
    refine (cgood_at HX.out w5).mono ?_
    rintro e w6 ⟨rfl, hb⟩
    replace K := Lib.hid (K.out.on hb)
    replace J := Lib.hid (J.out.on hb)
    clear hb
    have c0 := K.out.c0
    have c1 := K.out.c1
    have c2 := K.out.c2
    have c3 := K.out.c3
    have d0 := J.out.c0
    have d1 := J.out.c1
    have d2 := J.out.c2
    have d3 := J.out.c3
    have heq := HE.out
    go_wp2_with fail
    clear c0 c1 c2 c3 d0 d1 d2 d3 heq
    clear J
    rcases hg : Cp.get z with _ | y
    · have HG := Lib.hid hg
      clear hg
      have heq : ∀ w, (Op.equalIn 10000 24 (.agg #[.int .i64 0, .int .i64 0, .int .i64 0, .int .i64 0]) (.agg #[.int .i64 0, .int .i64 0, .int .i64 0, .int .i64 0])).run Tryd.prog w = .ok true w := fun w => eq24 .none .none w
      go_wp2_with fail
      refine (get_no HZ.out HG.out w6).mono ?_
      rintro e v1 ⟨rfl, hb⟩
      replace K := Lib.hid (K.out.on hb)
      clear hb
      have hJ := Fr.also (W := w) K.out.old 0 0 0 0 24
      have c0 := hJ.c0
      have c1 := hJ.c1
      have c2 := hJ.c2
      have c3 := hJ.c3
      have J := Lib.hid hJ
      clear hJ
      go_wp2_with fail
      clear c0 c1 c2 c3
      obtain ⟨p, hp⟩ : ∃ p, v1.heap.size = p := ⟨_, rfl⟩
      rw [hp] at J ⊢
      clear K hp
      generalize v1.alloc (.cells #[.int .i64 0, .int .i64 0, .int .i64 0, .int .i64 0] 24) = v2 at *
      refine (word_zero v2).mono ?_
      rintro e v3 ⟨rfl, hb⟩
      replace J := Lib.hid (J.out.on hb)
      clear hb
      have c0 := J.out.c0
      have c1 := J.out.c1
      have c2 := J.out.c2
      have c3 := J.out.c3
      go_wp2
      go_ret
      exact ⟨rfl, J.out.old⟩
    · have HG := Lib.hid hg
      clear hg
      have HW := Lib.hid (word_get HG.out)
      have hzz : ((z : Int) == z) = true := by simp
      go_wp2_with fail
      refine (get_to HZ.out HG.out w6).mono ?_
      rintro e v1 ⟨rfl, hb⟩
      replace K := Lib.hid (K.out.on hb)
      clear hb
      have hJ := Fr.also (W := w) K.out.old y.ty y.th y.ri y.ba 24
      have c0 := hJ.c0
      have c1 := hJ.c1
      have c2 := hJ.c2
      have c3 := hJ.c3
      have J := Lib.hid hJ
      clear hJ
      go_wp2_with fail
      clear c0 c1 c2 c3
      obtain ⟨p, hp⟩ : ∃ p, v1.heap.size = p := ⟨_, rfl⟩
      rw [hp] at J ⊢
      clear K hp
      generalize v1.alloc (.cells #[.int .i64 y.ty, .int .i64 y.th, .int .i64 y.ri, .int .i64 y.ba] 24) = v2 at *
      refine (word_to HW.out v2).mono ?_
      rintro e v3 ⟨rfl, hb⟩
      replace J := Lib.hid (J.out.on hb)
      clear hb
      have c0 := J.out.c0
      have c1 := J.out.c1
      have c2 := J.out.c2
      have c3 := J.out.c3
      go_wp2
      go_ret
      exact ⟨by simp, J.out.old⟩
end Go.Proofs.YtlhdpmkakmkknaaDoor
