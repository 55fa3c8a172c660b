/-
  The walk of package cap's Get. Condition: the word is a word.
-/
import Derived.Test.YtlhdpmkakmkknaaDoorCc
namespace Go.Proofs.YtlhdpmkakmkknaaDoor
open Go.RowKit

/-- what a word's parts tell -/
def Cp.ofw (z : Nat) : Cp := ⟨((z % 256 : Nat) : Int), ((z / 4294967296 % 65536 : Nat) : Int), ((z / 256 % 256 : Nat) : Int), ((z / 65536 % 65536 : Nat) : Int)⟩
def Cp.get (z : Nat) : Option Cp := if z < 281474976710656 ∧ (Cp.ofw z).good = true then some (Cp.ofw z) else Option.none
def gotV (r : Option Cp) : Value := .tuple #[(r.getD .none).val, .bool r.isSome]

theorem rest_ne {z : Nat} (hz : z ≤ top) (h : ¬ z < 281474976710656) : ((((rest z four : Nat) : Int)) != 0) = true := by
  rw [four_rest hz]
  simp
  omega
theorem rest_eq {z : Nat} (hz : z ≤ top) (h : z < 281474976710656) : rest z four = 0 := by
  rw [four_rest hz]
  omega

set_option maxHeartbeats 2000000 in
theorem get_wide {z : Nat} (hz : z ≤ top) (h : ¬ z < 281474976710656) (w : World) : Calls Tryd.prog 14 #[.int .u64 (z : Int)] w fun e w' => e = .returned (gotV none) ∧ Below w.heap.size w w' := by
  have HZ := Lib.hid hz
  have hne := rest_ne hz h
  have hK := Fr.new w 0 0 0 0 24
  obtain ⟨r, hr⟩ : ∃ r, rest z four = r := ⟨_, rfl⟩
  rw [hr] at hne
  have HR := Lib.hid hr
  clear hz h hr
  go_enter Tryd.func14, Tryd.ntmps14
  go_wp2_with fail
  generalize w.alloc (.cells #[.int .i64 0, .int .i64 0, .int .i64 0, .int .i64 0] 24) = w1 at hK ⊢
  refine (fields_any w1).mono ?_
  rintro e w2 ⟨A, cap, rfl, hf, hb⟩
  have K2 := Lib.hid (hK.on hb)
  have HF := Lib.hid hf
  clear hK hb hf
  go_wp2_with fail
  refine (rest_at HZ.out four_len small4 HF.out HR.out).mono ?_
  rintro e w3 ⟨rfl, hb⟩
  have K3 := Lib.hid (K2.out.on hb)
  clear K2 HF hb
  have c0 := K3.out.c0
  have c1 := K3.out.c1
  have c2 := K3.out.c2
  have c3 := K3.out.c3
  have f0 := K3.out.free 0
  have f1 := K3.out.free 1
  have f2 := K3.out.free 2
  have f3 := K3.out.free 3
  go_wp2
  have q := K3.out.put 0 0 0 0
  have e0 := q.c0
  have e1 := q.c1
  have e2 := q.c2
  have e3 := q.c3
  unfold put4 at e0 e1 e2 e3
  refine bodyPost_ret (by simp [results, Tryd.results14, go_sem, e0, e1, e2, e3]; rfl) rfl ?_
  exact ⟨rfl, q.old⟩

theorem wrap_nat {n : Nat} (h : n < 65536) : wrap64 (n : Int) = n := by unfold wrap64; omega

set_option maxHeartbeats 4000000 in
theorem get_near {z : Nat} {x : Bool} {t n r g : Nat} (h : z < 281474976710656) (ht : z % 256 = t) (hn : z / 4294967296 % 65536 = n) (hr : z / 256 % 256 = r) (hg : z / 65536 % 65536 = g) (hx : Cp.good ⟨t, n, r, g⟩ = x) (w : World) :
    Calls Tryd.prog 14 #[.int .u64 (z : Int)] w fun e w' => e = .returned (.tuple #[if x = true then Cp.val ⟨t, n, r, g⟩ else Cp.val .none, .bool x]) ∧ Below w.heap.size w w' := by
  have hz : z ≤ top := by unfold top; omega
  have HZ := Lib.hid hz
  have HR := Lib.hid (rest_eq hz h)
  have HG : Hid (gotten z four = [t, r, g, n]) := Lib.hid (by rw [four_get, ht, hr, hg, hn])
  have HX := Lib.hid hx
  have ut := wrap_nat (n := t) (by omega)
  have un := wrap_nat (n := n) (by omega)
  have ur := wrap_nat (n := r) (by omega)
  have ug := wrap_nat (n := g) (by omega)
  have hK := Fr.new w 0 0 0 0 24
  clear hz h hx ht hn hr hg
  go_enter Tryd.func14, Tryd.ntmps14
  go_wp2_with fail
  generalize w.alloc (.cells #[.int .i64 0, .int .i64 0, .int .i64 0, .int .i64 0] 24) = w1 at hK ⊢
  refine (fields_any w1).mono ?_
  rintro e w2 ⟨A, cap, rfl, hf, hb⟩
  have K2 := Lib.hid (hK.on hb)
  have HF := Lib.hid hf
  clear hK hb hf
  go_wp2_with fail
  refine (rest_at HZ.out four_len small4 HF.out HR.out).mono ?_
  rintro e w3 ⟨rfl, hb⟩
  have K3 := Lib.hid (K2.out.on hb)
  clear K2 HF hb
  go_wp2_with fail
  refine (fields_any w3).mono ?_
  rintro e w4 ⟨A2, cap2, rfl, hf, hb⟩
  have K4 := Lib.hid (K3.out.on hb)
  have HF := Lib.hid hf
  clear K3 hb hf
  go_wp2_with fail
  refine (get_at HZ.out four_len small4 HF.out HG.out).mono ?_
  rintro e w5 ⟨v, rfl, ⟨A3, cap3, rfl, hw⟩, hb⟩
  have K5 := Lib.hid (K4.out.on hb)
  obtain ⟨b, o, rfl, hlt, hc⟩ := hw (by simp)
  have k0 : w5.cell? ⟨b, o, none⟩ = some (.int .u64 (t : Int)) := hc 0 _ rfl
  have k1 := hc 1 _ rfl
  have k2 := hc 2 _ rfl
  have k3 := hc 3 _ rfl
  have b0 : (0 : Int) < (4 : Int) := by decide
  have b1 : (1 : Int) < (4 : Int) := by decide
  have b2 : (2 : Int) < (4 : Int) := by decide
  have b3 : (3 : Int) < (4 : Int) := by decide
  clear K4 HF hb hw hc
  go_wp2_with fail
  go_region
  have hK6 := Fr.also (W := w) K5.out.old t n r g 24
  have hJ6 := K5.out.alloc (.cells #[.int .i64 (t : Int), .int .i64 (n : Int), .int .i64 (r : Int), .int .i64 (g : Int)] 24)
  have K6 := Lib.hid hK6.drew
  have J6 := Lib.hid hJ6.drew
  obtain ⟨p, hp⟩ : ∃ p, w5.heap.size = p := ⟨_, rfl⟩
  rw [hp] at K6 ⊢
  clear hK6 hJ6 K5 k0 k1 k2 k3 hlt hp
  generalize (w5.alloc (.cells #[.int .i64 (t : Int), .int .i64 (n : Int), .int .i64 (r : Int), .int .i64 (g : Int)] 24)).drew = w6 at K6 J6 ⊢
  have c0 := K6.out.c0
  have c1 := K6.out.c1
  have c2 := K6.out.c2
  have c3 := K6.out.c3
  go_wp2_with fail
  refine (cgood_at HX.out w6).mono ?_
  rintro e w7 ⟨rfl, hb⟩
  have K7 := Lib.hid (K6.out.on hb)
  have J7 := Lib.hid (J6.out.on hb)
  clear K6 J6 hb c0 c1 c2 c3
  rcases x with _ | _
  · have c0 := K7.out.c0
    have d0 := J7.out.c0
    have d1 := J7.out.c1
    have d2 := J7.out.c2
    have d3 := J7.out.c3
    have f0 := J7.out.free 0
    have f1 := J7.out.free 1
    have f2 := J7.out.free 2
    have f3 := J7.out.free 3
    go_wp2
    have q := J7.out.put 0 0 0 0
    have e0 := q.c0
    have e1 := q.c1
    have e2 := q.c2
    have e3 := q.c3
    unfold put4 at e0 e1 e2 e3
    refine bodyPost_ret (by simp [results, Tryd.results14, go_sem, e0, e1, e2, e3]; rfl) rfl ?_
    exact ⟨rfl, q.old⟩
  · have c0 := K7.out.c0
    have c1 := K7.out.c1
    have c2 := K7.out.c2
    have c3 := K7.out.c3
    have d0 := J7.out.c0
    have d1 := J7.out.c1
    have d2 := J7.out.c2
    have d3 := J7.out.c3
    have f0 := J7.out.free 0
    have f1 := J7.out.free 1
    have f2 := J7.out.free 2
    have f3 := J7.out.free 3
    go_wp2
    have q := J7.out.put t n r g
    have e0 := q.c0
    have e1 := q.c1
    have e2 := q.c2
    have e3 := q.c3
    unfold put4 at e0 e1 e2 e3
    refine bodyPost_ret (by simp [results, Tryd.results14, go_sem, e0, e1, e2, e3]; rfl) rfl ?_
    exact ⟨rfl, q.old⟩

theorem cget_any (z : Nat) (hz : z ≤ top) (w : World) : Calls Tryd.prog 14 #[.int .u64 (z : Int)] w fun e w' => e = .returned (gotV (Cp.get z)) ∧ Below w.heap.size w w' := by
  by_cases h : z < 281474976710656
  · have := get_near h rfl rfl rfl rfl rfl w
    rcases hx : (Cp.ofw z).good with _ | _
    · have e : Cp.get z = none := by rw [Cp.get, hx]; simp
      unfold Cp.ofw at hx
      rw [hx] at this
      rw [e]
      exact this
    · have e : Cp.get z = some (Cp.ofw z) := by rw [Cp.get, hx]; simp [h]
      unfold Cp.ofw at hx
      rw [hx] at this
      rw [e]
      exact this
  · have e : Cp.get z = none := by rw [Cp.get, if_neg (fun q => h q.1)]
    rw [e]
    exact get_wide hz h w
end Go.Proofs.YtlhdpmkakmkknaaDoor
