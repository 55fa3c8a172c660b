/-
  The walk of the law GeoApart: it answers true. No condition.
-/
import Derived.Test.YtibdmceanddeaaaGh
namespace Go.Proofs.Ytibdmceanddeaaa
open Go.RowKit

/-- a Geo that is Good, in Nats -/
theorem good_nat {g : Gd} (h : g.ok = true) : ∃ T S K : Nat, g = ⟨(T : Int), (S : Int), (K : Int)⟩ ∧ 1 ≤ T ∧ T ≤ 4 ∧ 8 * T ≤ S ∧ S ≤ 96 ∧ S % 8 = 0 ∧ T + 2 ≤ K ∧ K ≤ 48 := by
  obtain ⟨t, s, k⟩ := g
  obtain ⟨h1, h2, h3, h4, h5, h6, h7⟩ := Gd.ok_iff.1 h
  simp only at h1 h2 h3 h4 h5 h6 h7
  obtain ⟨T, rfl⟩ := Int.eq_ofNat_of_zero_le (show 0 ≤ t by omega)
  obtain ⟨S, rfl⟩ := Int.eq_ofNat_of_zero_le (show 0 ≤ s by omega)
  obtain ⟨K, rfl⟩ := Int.eq_ofNat_of_zero_le (show 0 ≤ k by omega)
  exact ⟨T, S, K, rfl, by omega, by omega, by omega, by omega, by omega, by omega, by omega⟩
def ngd (T S K : Nat) : Gd := ⟨(T : Int), (S : Int), (K : Int)⟩
/-- the first word of the last row -/
def cp (T S K : Nat) : Nat := 16 + T * 1208 + S * 2 + K * 8

theorem n_ok {T S K : Nat} (h1 : 1 ≤ T ∧ T ≤ 4 ∧ 8 * T ≤ S ∧ S ≤ 96 ∧ S % 8 = 0 ∧ T + 2 ≤ K ∧ K ≤ 48) : (ngd T S K).ok = true := by
  refine Gd.ok_iff.2 ?_
  show 1 ≤ (T : Int) ∧ (T : Int) ≤ 4 ∧ 8 * (T : Int) ≤ (S : Int) ∧ (S : Int) ≤ 96 ∧ (S : Int) % 8 = 0 ∧ (T : Int) + 2 ≤ (K : Int) ∧ (K : Int) ≤ 48
  omega
theorem a_copy {T S K : Nat} (h : (ngd T S K).ok = true) : (ngd T S K).copy = (cp T S K : Int) := by
  unfold Gd.copy
  rw [if_pos h]
  show 16 + (T : Int) * 1208 + (S : Int) * 2 + (K : Int) * 8 = (cp T S K : Int)
  unfold cp
  omega
theorem a_rows {T S K : Nat} (h : (ngd T S K).ok = true) {R : Nat} (hr : 8 * R = cp T S K + 8) : (ngd T S K).rows = (R : Int) := by
  unfold Gd.rows
  rw [if_pos h]
  show (16 + (T : Int) * 1208 + (S : Int) * 2 + (K : Int) * 8) / 8 + 1 = (R : Int)
  unfold cp at hr
  omega
theorem a_lock {T S K : Nat} (h : (ngd T S K).ok = true) : (ngd T S K).lock = 8 := by
  unfold Gd.lock
  rw [if_pos h]
theorem a_desc {T S K : Nat} (h : (ngd T S K).ok = true) {i : Nat} (hi : i < T) : (ngd T S K).desc (i : Int) = ((16 + i * 1208 : Nat) : Int) := by
  unfold Gd.desc
  rw [if_pos (Gd.has_iff.2 ⟨h, by omega, by show (i : Int) ≤ (T : Int) - 1; omega⟩)]
  omega
theorem a_descs {T S K : Nat} (h : (ngd T S K).ok = true) {i : Nat} (hi : i < T) : (ngd T S K).descs (i : Int) = 1208 := by
  unfold Gd.descs
  rw [if_pos (Gd.has_iff.2 ⟨h, by omega, by show (i : Int) ≤ (T : Int) - 1; omega⟩)]
theorem a_slot {T S K : Nat} (h : (ngd T S K).ok = true) {i : Nat} (hi : i < S) : (ngd T S K).slot (i : Int) = ((16 + T * 1208 + i * 2 : Nat) : Int) := by
  unfold Gd.slot
  rw [if_pos (Gd.has_iff.2 ⟨h, by omega, by show (i : Int) ≤ (S : Int) - 1; omega⟩)]
  show 16 + (T : Int) * 1208 + (i : Int) * 2 = _
  omega
theorem a_thing {T S K : Nat} (h : (ngd T S K).ok = true) {i : Nat} (hi : i < K) : (ngd T S K).thing (i : Int) = ((16 + T * 1208 + S * 2 + i * 8 : Nat) : Int) := by
  unfold Gd.thing
  rw [if_pos (Gd.has_iff.2 ⟨h, by omega, by show (i : Int) ≤ (K : Int) - 1; omega⟩)]
  show 16 + (T : Int) * 1208 + (S : Int) * 2 + (i : Int) * 8 = _
  omega

theorem u_use {M : Nat} {xs : Array Value} {r : Value} {w0 w : World} {b G N : Nat} {g : Gd} {u : Nat → Bool} (hk : Us w0 b G N g u w) (h : Calls Try.prog M xs w fun e w' => e = .returned r ∧ Below w.heap.size w w') :
    Calls Try.prog M xs w fun e w' => e = .returned r ∧ Us w0 b G N g u w' := by
  refine h.mono ?_
  rintro e w' ⟨rfl, hb⟩
  exact ⟨rfl, hk.on hb⟩

def UpRel (w0 : World) (b G N : Nat) (T S K C : Nat) (n from_ step : Nat) (k : Nat) (p q : Value) (wr : World) : Prop :=
  ∃ i : Nat, k + i = n ∧ p = .bool true ∧ q = .int .i64 (i : Int) ∧ Us w0 b G N (ngd T S K) (upto (from_ + i * step) C) wr

set_option maxRecDepth 100000 in
set_option maxHeartbeats 4000000 in
theorem apart_good (T S K : Nat) (hok : 1 ≤ T ∧ T ≤ 4 ∧ 8 * T ≤ S ∧ S ≤ 96 ∧ S % 8 = 0 ∧ T + 2 ≤ K ∧ K ≤ 48) (w : World) :
    Calls Try.prog 5 #[.agg #[.int .i64 (T : Int), .int .i64 (S : Int), .int .i64 (K : Int)]] w fun e w' => e = .returned (.bool true) ∧ Below w.heap.size w w' := by
  have HG := Lib.hid (n_ok hok)
  have HO := Lib.hid hok
  obtain ⟨C, hC⟩ : ∃ C, C = cp T S K := ⟨_, rfl⟩
  obtain ⟨R, hR⟩ : ∃ R, 8 * R = C + 8 := ⟨2 + T * 151 + S / 8 * 2 + K + 1, by rw [hC]; unfold cp; omega⟩
  have hR1 : 1 ≤ R := by omega
  have hR2 : R ≤ 4096 := by rw [hC] at hR; unfold cp at hR; omega
  obtain ⟨N, hN⟩ : ∃ N, N = 8 * R := ⟨_, rfl⟩
  have hNe : 8 * (R : Int) = (N : Int) := by omega
  have hmk := make_bools N (by omega)
  have HC := Lib.hid hC
  have HR := Lib.hid hR
  have HN := Lib.hid hN
  have HRo := Lib.hid (a_rows (n_ok hok) (by rw [hR, hC]))
  have HCo := Lib.hid (a_copy (n_ok hok))
  have HLo := Lib.hid (a_lock (n_ok hok))
  rw [← hC] at HCo
  have HK := Lib.hid (Kp.new w (ngd T S K) 24)
  have n1 : decide ((N : Int) < 1) = false := decide_eq_false (by omega)
  have n2 : decide ((32768 : Int) < (N : Int)) = false := decide_eq_false (by omega)
  have n3 : 1 ≤ (N : Int) := by omega
  have n4 : (N : Int) ≤ 32768 := by omega
  have n5 : (T : Int) ≤ 4 := by omega
  have n6 : (S : Int) ≤ 96 := by omega
  have n7 : (K : Int) ≤ 48 := by omega
  have hcp : 16 + T * 1208 + S * 2 + K * 8 = cp T S K := rfl
  have B8 : Hid (0 + 8 ≤ N) := Lib.hid (by omega)
  have B16 : Hid (8 + 8 ≤ N) := Lib.hid (by omega)
  have BC : Hid (8 + 8 ≤ C) := Lib.hid (by omega)
  have BCN : Hid (C + 8 = N) := Lib.hid (by omega)
  have BN : Hid (N ≤ 1000000) := Lib.hid (by omega)
  clear hcp
  clear hok hC hR hN hR1 hR2
  go_enter Try.func5, Try.ntmps5
  go_wp2_with fail
  refine (awake_any _).mono ?_
  rintro e w1 ⟨rfl, hb⟩
  replace HK := Lib.hid (HK.out.on hb)
  clear hb
  have c1 : w1.cell? ⟨w.heap.size, 0, none⟩ = some (.int .i64 (T : Int)) := HK.out.1.t
  have c2 : w1.cell? ⟨w.heap.size, 1, none⟩ = some (.int .i64 (S : Int)) := HK.out.1.s
  have c3 : w1.cell? ⟨w.heap.size, 2, none⟩ = some (.int .i64 (K : Int)) := HK.out.1.k
  go_wp2_with fail
  refine (good_to HG.out _).mono ?_
  rintro e w2 ⟨rfl, hb⟩
  replace HK := Lib.hid (HK.out.on hb)
  clear hb c1 c2 c3
  have c1 : w2.cell? ⟨w.heap.size, 0, none⟩ = some (.int .i64 (T : Int)) := HK.out.1.t
  have c2 : w2.cell? ⟨w.heap.size, 1, none⟩ = some (.int .i64 (S : Int)) := HK.out.1.s
  have c3 : w2.cell? ⟨w.heap.size, 2, none⟩ = some (.int .i64 (K : Int)) := HK.out.1.k
  go_wp2_with fail
  refine (rows_to HRo.out _).mono ?_
  rintro e w3 ⟨rfl, hb⟩
  replace HK := Lib.hid (HK.out.on hb)
  clear hb c1 c2 c3
  have HU : Hid (Us w w.heap.size w3.heap.size N (ngd T S K) (upto 0 N) (w3.alloc (.cells (madeCells #[.bool false] N) 4))) := Lib.hid
    ⟨HK.out.1.on (below_alloc _ _), fun j hj => by rw [made_cell _ _ _ _ _ hj]; simp [Nat.mod_one, upto]; omega, fun j => made_free _ _ _ _ _, by have := HK.out.1.lt; omega, by simp, HK.out.2.size, below_on HK.out.2 (below_alloc _ _)⟩
  clear HK
  go_wp2_with fail
  refine (take_front (a := 0) (m := 8) HU.out rfl rfl rfl B8.out (Nat.le_refl _) BN.out).mono ?_
  rintro e w4 ⟨rfl, hs⟩
  replace HU := Lib.hid hs
  clear hs
  have c1 : w4.cell? ⟨w.heap.size, 0, none⟩ = some (.int .i64 (T : Int)) := HU.out.box.t
  have c2 : w4.cell? ⟨w.heap.size, 1, none⟩ = some (.int .i64 (S : Int)) := HU.out.box.s
  have c3 : w4.cell? ⟨w.heap.size, 2, none⟩ = some (.int .i64 (K : Int)) := HU.out.box.k
  go_wp2_with fail
  refine (u_use HU.out (lock_to HLo.out _)).mono ?_
  rintro e w5 ⟨rfl, hs⟩
  replace HU := Lib.hid hs
  clear hs c1 c2 c3
  go_wp2_with fail
  refine (take_front (a := 8) (m := 8) HU.out rfl rfl rfl B16.out (Nat.le_refl _) BN.out).mono ?_
  rintro e w6 ⟨rfl, hs⟩
  replace HU := Lib.hid hs
  clear hs
  have c1 : w6.cell? ⟨w.heap.size, 0, none⟩ = some (.int .i64 (T : Int)) := HU.out.box.t
  have c2 : w6.cell? ⟨w.heap.size, 1, none⟩ = some (.int .i64 (S : Int)) := HU.out.box.s
  have c3 : w6.cell? ⟨w.heap.size, 2, none⟩ = some (.int .i64 (K : Int)) := HU.out.box.k
  go_wp2_with fail
  refine (u_use HU.out (copy_to HCo.out _)).mono ?_
  rintro e w7 ⟨rfl, hs⟩
  replace HU := Lib.hid hs
  clear hs c1 c2 c3
  go_wp2_with fail
  refine (take_back (a := C) HU.out rfl rfl BC.out BCN.out BN.out).mono ?_
  rintro e w8 ⟨rfl, hs⟩
  replace HU := Lib.hid hs
  clear hs
  go_wp2_with fail
  go_loopg [5, 6] T (fun k p q wr => UpRel w w.heap.size w3.heap.size N T S K C T (16) 1208 k p q wr)
  case atStart => exact ⟨0, by omega, rfl, rfl, HU.out⟩
  case round =>
    obtain ⟨i, hk, rfl, rfl, hs⟩ := hrel
    have HK := Lib.hid hk
    replace HU := Lib.hid hs
    clear hk hs
    have c1 : wr.cell? ⟨w.heap.size, 0, none⟩ = some (.int .i64 (T : Int)) := HU.out.box.t
    have c2 : wr.cell? ⟨w.heap.size, 1, none⟩ = some (.int .i64 (S : Int)) := HU.out.box.s
    have c3 : wr.cell? ⟨w.heap.size, 2, none⟩ = some (.int .i64 (K : Int)) := HU.out.box.k
    by_cases hlt : i < T
    · have HLT := Lib.hid hlt
      have hlt2 : (i : Int) < (T : Int) := by omega
      go_wp2_with fail
      refine (u_use HU.out (desc_to (a_desc HG.out HLT.out) (a_descs HG.out HLT.out) _)).mono ?_
      rintro e w9 ⟨rfl, hs⟩
      replace HU := Lib.hid hs
      clear hs c1 c2 c3
      go_wp2_with fail
      refine (take_front (a := 16 + i * 1208) (m := 1208) HU.out (by omega) rfl rfl (by have := HLT.out; have := HC.out; unfold cp at this; omega) (by have := BCN.out; omega) BN.out).mono ?_
      rintro e w10 ⟨rfl, hs⟩
      replace HU := Lib.hid hs
      clear hs
      go_wp2_with fail
      go_roundg (T - (i + 1))
      case measure => have := HK.out; have := HLT.out; omega
      case rel => exact ⟨i + 1, by have := HLT.out; omega, rfl, by go_num, HU.out.same fun j hj => by unfold upto; exact decide_eq_decide.2 (by omega)⟩
    · have hlt2 : ¬ (i : Int) < (T : Int) := by omega
      have hs : Us w w.heap.size w3.heap.size N (ngd T S K) (upto (16 + T * 1208 + 0 * 2) C) wr := by have hi : i = T := (by have := HK.out; omega); have := HU.out; rw [hi] at this; exact this
      replace HU := Lib.hid hs
      clear hlt hs HK
      go_wp2_with fail
      clear hlt2 c1 c2 c3
      go_loopg [5, 9] S (fun k p q wr => UpRel w w.heap.size w3.heap.size N T S K C S (16 + T * 1208) 2 k p q wr)
      case atStart => exact ⟨0, by omega, rfl, rfl, HU.out⟩
      case round =>
        obtain ⟨i, hk, rfl, rfl, hs⟩ := hrel
        have HK := Lib.hid hk
        replace HU := Lib.hid hs
        clear hk hs
        have c1 : wr.cell? ⟨w.heap.size, 0, none⟩ = some (.int .i64 (T : Int)) := HU.out.box.t
        have c2 : wr.cell? ⟨w.heap.size, 1, none⟩ = some (.int .i64 (S : Int)) := HU.out.box.s
        have c3 : wr.cell? ⟨w.heap.size, 2, none⟩ = some (.int .i64 (K : Int)) := HU.out.box.k
        by_cases hlt : i < S
        · have HLT := Lib.hid hlt
          have hlt2 : (i : Int) < (S : Int) := by omega
          go_wp2_with fail
          refine (u_use HU.out (slot_to (a_slot HG.out HLT.out) _)).mono ?_
          rintro e w9 ⟨rfl, hs⟩
          replace HU := Lib.hid hs
          clear hs c1 c2 c3
          go_wp2_with fail
          refine (take_front (a := 16 + T * 1208 + i * 2) (m := 2) HU.out (by omega) rfl rfl (by have := HLT.out; have := HC.out; unfold cp at this; omega) (by have := BCN.out; omega) BN.out).mono ?_
          rintro e w10 ⟨rfl, hs⟩
          replace HU := Lib.hid hs
          clear hs
          go_wp2_with fail
          go_roundg (S - (i + 1))
          case measure => have := HK.out; have := HLT.out; omega
          case rel => exact ⟨i + 1, by have := HLT.out; omega, rfl, by go_num, HU.out.same fun j hj => by unfold upto; exact decide_eq_decide.2 (by omega)⟩
        · have hlt2 : ¬ (i : Int) < (S : Int) := by omega
          have hs : Us w w.heap.size w3.heap.size N (ngd T S K) (upto (16 + T * 1208 + S * 2 + 0 * 8) C) wr := by have hi : i = S := (by have := HK.out; omega); have := HU.out; rw [hi] at this; exact this
          replace HU := Lib.hid hs
          clear hlt hs HK
          go_wp2_with fail
          clear hlt2 c1 c2 c3
          go_loopg [5, 10] K (fun k p q wr => UpRel w w.heap.size w3.heap.size N T S K C K (16 + T * 1208 + S * 2) 8 k p q wr)
          case atStart => exact ⟨0, by omega, rfl, rfl, HU.out⟩
          case round =>
            obtain ⟨i, hk, rfl, rfl, hs⟩ := hrel
            have HK := Lib.hid hk
            replace HU := Lib.hid hs
            clear hk hs
            have c1 : wr.cell? ⟨w.heap.size, 0, none⟩ = some (.int .i64 (T : Int)) := HU.out.box.t
            have c2 : wr.cell? ⟨w.heap.size, 1, none⟩ = some (.int .i64 (S : Int)) := HU.out.box.s
            have c3 : wr.cell? ⟨w.heap.size, 2, none⟩ = some (.int .i64 (K : Int)) := HU.out.box.k
            by_cases hlt : i < K
            · have HLT := Lib.hid hlt
              have hlt2 : (i : Int) < (K : Int) := by omega
              obtain ⟨x, hx⟩ : ∃ x, x = 16 + T * 1208 + S * 2 + i * 8 := ⟨_, rfl⟩
              have hth := a_thing HG.out HLT.out
              rw [← hx] at hth
              have HTH := Lib.hid hth
              have hm : (x : Int) % 8 = 0 := by have := HO.out; omega
              have d1 : ((x : Int) % 8 == 0) = true := by rw [hm]; rfl
              have d2 : ((x : Int).tmod 8 == 0) = true := by rw [Int.tmod_eq_emod_of_nonneg (by omega), hm]; rfl
              have HX := Lib.hid hx
              clear hx hth
              go_wp2_with fail
              refine (u_use HU.out (thing_to HTH.out _)).mono ?_
              rintro e w9 ⟨rfl, hs⟩
              replace HU := Lib.hid hs
              clear hs c1 c2 c3
              have c1 : w9.cell? ⟨w.heap.size, 0, none⟩ = some (.int .i64 (T : Int)) := HU.out.box.t
              have c2 : w9.cell? ⟨w.heap.size, 1, none⟩ = some (.int .i64 (S : Int)) := HU.out.box.s
              have c3 : w9.cell? ⟨w.heap.size, 2, none⟩ = some (.int .i64 (K : Int)) := HU.out.box.k
              go_wp2_with fail
              refine (u_use HU.out (thing_to HTH.out _)).mono ?_
              rintro e w10 ⟨rfl, hs⟩
              replace HU := Lib.hid hs
              clear hs c1 c2 c3 d1 d2 hm
              go_wp2_with fail
              refine (take_front (a := x) (m := 8) HU.out rfl rfl HX.out (by have := HLT.out; have := HC.out; unfold cp at this; omega) (by have := BCN.out; omega) BN.out).mono ?_
              rintro e w11 ⟨rfl, hs⟩
              replace HU := Lib.hid hs
              clear hs
              go_wp2_with fail
              go_roundg (K - (i + 1))
              case measure => have := HK.out; have := HLT.out; omega
              case rel => exact ⟨i + 1, by have := HLT.out; omega, rfl, by go_num, HU.out.same fun j hj => by unfold upto; exact decide_eq_decide.2 (by omega)⟩
            · have hlt2 : ¬ (i : Int) < (K : Int) := by omega
              have hs : Us w w.heap.size w3.heap.size N (ngd T S K) (upto (C + 0 * 0) C) wr := by
                have hi : i = K := (by have := HK.out; omega)
                have := HU.out
                rw [hi] at this
                have e := HC.out
                unfold cp at e
                rw [← e] at this
                exact this
              replace HU := Lib.hid hs
              clear hlt hs HK
              go_wp2_with fail
              clear hlt2 c1 c2 c3
              go_loopg [5, 11] N (fun k p q wr => UpRel w w.heap.size w3.heap.size N T S K C N (C) 0 k p q wr)
              case atStart => exact ⟨0, by omega, rfl, rfl, HU.out⟩
              case round =>
                obtain ⟨i, hk, rfl, rfl, hs⟩ := hrel
                have HK := Lib.hid hk
                replace HU := Lib.hid hs
                clear hk hs
                have c1 : wr.cell? ⟨w.heap.size, 0, none⟩ = some (.int .i64 (T : Int)) := HU.out.box.t
                have c2 : wr.cell? ⟨w.heap.size, 1, none⟩ = some (.int .i64 (S : Int)) := HU.out.box.s
                have c3 : wr.cell? ⟨w.heap.size, 2, none⟩ = some (.int .i64 (K : Int)) := HU.out.box.k
                by_cases hlt : i < N
                · have HLT := Lib.hid hlt
                  have hlt2 : (i : Int) < (N : Int) := by omega
                  have c4 := HU.out.cell i hlt
                  rw [show upto (C + i * 0) C i = true from decide_eq_true (by omega)] at c4
                  go_wp2_with fail
                  go_roundg (N - (i + 1))
                  case measure => have := HK.out; have := HLT.out; omega
                  case rel => exact ⟨i + 1, by have := HLT.out; omega, rfl, by go_num, HU.out.same fun j hj => by unfold upto; exact decide_eq_decide.2 (by omega)⟩
                · have hlt2 : ¬ (i : Int) < (N : Int) := by omega
                  go_wp2
                  go_ret
                  exact ⟨rfl, HU.out.old⟩

set_option maxHeartbeats 1000000 in
theorem apart_walk (g : Gd) (w : World) : Calls Try.prog 5 #[.agg #[.int .i64 g.t, .int .i64 g.s, .int .i64 g.k]] w fun e w' => e = .returned (.bool true) ∧ Below w.heap.size w w' := by
  rcases hg : g.ok with _ | _
  · have HG := Lib.hid hg
    have HK := Lib.hid (Kp.new w g 24)
    clear hg
    go_enter Try.func5, Try.ntmps5
    go_wp2_with fail
    refine (awake_any _).mono ?_
    rintro e w1 ⟨rfl, hb⟩
    replace HK := Lib.hid (HK.out.on hb)
    clear hb
    have c1 := HK.out.1.t
    have c2 := HK.out.1.s
    have c3 := HK.out.1.k
    go_wp2_with fail
    refine (good_at HG.out _).mono ?_
    rintro e w2 ⟨rfl, hb⟩
    replace HK := Lib.hid (HK.out.on hb)
    clear hb c1 c2 c3
    go_wp2
    go_ret
    exact ⟨rfl, HK.out.2⟩
  · obtain ⟨T, S, K, rfl, h⟩ := good_nat hg
    exact apart_good T S K h w
end Go.Proofs.Ytibdmceanddeaaa
