/-
  The law FindKnown's nested state as plain data: what ways lead to in it. No condition.
  The walk of the law's nested state. No condition.
  The law FindKnown walked. No condition.
-/
import Derived.Test.YtmcgnjhjidfkdaaGreatKv
import Derived.Test.YtmcgnjhjidfkdaaGreatLc
import Derived.Test.YtmcgnjhjidfkdaaGreatLe
import Derived.Test.YtmcgnjhjidfkdaaGreatLi
namespace Go.Proofs.YtmcgnjhjidfkdaaGreat
open Go.RowKit

/-- the state that the law makes -/
def nt1 : St := setT s64 7 ⟨2, 1, 16, 0, 0, 0, 0, false, 0, 0, 0, 0, 0⟩
def nt2 : St := setT nt1 8 ⟨2, 1, 18, 0, 0, 0, 0, false, 0, 0, 0, 0, 0⟩
def ns1 : St := setS nt2 2 ⟨⟨2, 7, 1, 0⟩, 0⟩
def ns2 : St := setS ns1 17 ⟨⟨2, 8, 3, 0⟩, 0⟩
def nst : St := setS ns2 3 ⟨⟨2, 7, 0, 0⟩, 2⟩
theorem nst_good : sgood nst = true := by decide +kernel
theorem nst_thread {t : Int} (h0 : 0 ≤ t) (h1 : t < 2) : fthread nst t = true := fthread_iff.2 ⟨nst_good, h0, h1⟩
theorem kf_a : fslot nst 0 [2, 1, 1] = (19, 0) := by
  rw [fslot, if_pos ⟨nst_thread (by omega) (by omega), by decide⟩]
  decide +kernel
theorem kf_c : fslot nst 0 [8] = (0, 3) := by
  rw [fslot, if_pos ⟨nst_thread (by omega) (by omega), by decide⟩]
  decide +kernel
theorem kf_d : fslot nst 0 [2, 2] = (0, 3) := by
  rw [fslot, if_pos ⟨nst_thread (by omega) (by omega), by decide⟩]
  decide +kernel
theorem kf_e : fslot nst 0 [3, 1] = (0, 3) := by
  rw [fslot, if_pos ⟨nst_thread (by omega) (by omega), by decide⟩]
  decide +kernel
theorem kf_f : fslot nst 0 [1, 0] = (0, 3) := by
  rw [fslot, if_pos ⟨nst_thread (by omega) (by omega), by decide⟩]
  decide +kernel
theorem kf_i0 : fslot nst 0 [4] = (4, 0) := by
  rw [fslot, if_pos ⟨nst_thread (by omega) (by omega), by decide⟩]
  decide +kernel
theorem kf_j0 : fslot nst 0 [2] = (2, 0) := by
  rw [fslot, if_pos ⟨nst_thread (by omega) (by omega), by decide⟩]
  decide +kernel
theorem kf_k0 : fslot nst 0 [2, 1, 0] = (18, 0) := by
  rw [fslot, if_pos ⟨nst_thread (by omega) (by omega), by decide⟩]
  decide +kernel
theorem kf_n0 : fslot nst 0 [2, 1] = (17, 0) := by
  rw [fslot, if_pos ⟨nst_thread (by omega) (by omega), by decide⟩]
  decide +kernel
theorem kf_g : fslot nst 2 [1] = (0, 1) := by
  rw [fslot, if_neg (fun h => by have := (fthread_iff.1 h.1).2.2; simp [nst, ns1, ns2, nt1, nt2, setS, setT, s64_geo] at this)]
theorem kf_h : fslot nst 0 [] = (0, 1) := by
  rw [fslot, if_neg (fun h => absurd h.2 (by decide))]
theorem kf_m : fslot ⟨⟨0, 0, 0⟩, [], []⟩ 0 [1] = (0, 1) := by
  rw [fslot, if_neg (fun h => absurd (fthread_iff.1 h.1).2.2 (by decide))]
theorem kf_i : fcap nst 0 [4] = (0, .none, 4) := by
  rw [fcap, kf_i0]
  show (if (0 : Int) = 0 then (if (slAt nst.sl 4).c.non = true then ((0 : Int), Cp.none, (4 : Int)) else (4, (slAt nst.sl 4).c, 0)) else (0, .none, 0)) = _
  rw [if_pos rfl, if_pos (by decide +kernel)]
theorem kf_n : fcap nst 0 [2, 1] = (17, ⟨2, 8, 3, 0⟩, 0) := by
  rw [fcap, kf_n0]
  show (if (0 : Int) = 0 then (if (slAt nst.sl 17).c.non = true then ((0 : Int), Cp.none, (4 : Int)) else (17, (slAt nst.sl 17).c, 0)) else (0, .none, 0)) = _
  rw [if_pos rfl, if_neg (by decide +kernel)]
  rfl
theorem kf_j : fempty nst 0 [2] = (0, 5) := by
  rw [fempty, kf_j0]
  decide +kernel
theorem kf_k : fempty nst 0 [2, 1, 0] = (18, 0) := by
  rw [fempty, kf_k0]
  decide +kernel
theorem nst_run0 : frun nst 0 = told nst 3 2 [] := by rw [frun, if_pos (nst_thread (by omega) (by omega))]; rfl
theorem nst_run1 : frun nst 1 = told nst 3 3 [] := by rw [frun, if_pos (nst_thread (by omega) (by omega))]; rfl
theorem kf_w : fways nst 0 19 = [[2, 1, 1]] := by
  rw [fways, nst_run0]
  decide +kernel
theorem kf_x : fways nst 1 19 = [] := by
  rw [fways, nst_run1]
  decide +kernel
theorem sort_is {l m : List Int} (hp : l.Perm m) (hs : m.Pairwise (fun x y => x ≤ y)) : (l.mergeSort fun x y => decide (x ≤ y)) = m := by
  have h1 : (l.mergeSort fun x y => decide (x ≤ y)).Perm m := (List.mergeSort_perm l _).trans hp
  have h2 := List.pairwise_mergeSort (le := fun (x y : Int) => decide (x ≤ y)) (fun a b c h1 h2 => by simp only [decide_eq_true_eq] at *; omega) (fun a b => by simp only [Bool.or_eq_true, decide_eq_true_eq]; omega) l
  refine List.Perm.eq_of_pairwise (le := fun x y => x ≤ y) (fun a b _ _ h1 h2 => by omega) (h2.imp fun h => by simpa using h) hs h1
theorem kf_r0 : freach nst 0 = [0, 1, 2, 3, 4, 5, 6, 7, 16, 17, 18, 19] := by
  rw [freach, fsorted, nst_run0, sort_is (m := [0, 1, 2, 3, 4, 5, 6, 7, 16, 17, 18, 19]) (by decide +kernel) (by decide)]
  decide +kernel
theorem kf_r1 : freach nst 1 = [8, 9, 10, 11, 12, 13, 14, 15] := by
  rw [freach, fsorted, nst_run1, sort_is (m := [8, 9, 10, 11, 12, 13, 14, 15]) (by decide +kernel) (by decide)]
  decide +kernel

/-! ### the law's ints -/
def FSameRel (W : World) (n : Nat) (l m : List Int) (k : Nat) (p : Value) (wr : World) : Prop :=
  ∃ i : Nat, k + i = n ∧ p = .int .i64 i ∧ l.take i = m.take i ∧ Below W.heap.size W wr
theorem fints_any {A B : Option Addr} {c d : Nat} {l m : List Int} {w : World} (hl : l.length ≤ 1000000) (hL : IntsAt w w.heap.size A l) (hM : IntsAt w w.heap.size B m) :
    Calls Tryz.prog 12 #[.slice A l.length c, .slice B m.length d] w fun e w' => e = .returned (.bool (l == m)) ∧ Below w.heap.size w w' := by
  have HL := Lib.hid hL
  have HM := Lib.hid hM
  obtain ⟨n, hn⟩ : ∃ n, n = l.length := ⟨_, rfl⟩
  obtain ⟨k, hk⟩ : ∃ k, k = m.length := ⟨_, rfl⟩
  obtain ⟨x, hx⟩ : ∃ x, x = (l == m) := ⟨_, rfl⟩
  rw [← hn, ← hk, ← hx]
  rw [← hn] at hl
  have HN := Lib.hid hn
  have HK := Lib.hid hk
  have HX := Lib.hid hx
  clear hn hk hx hL hM
  by_cases hnk : n = k
  · subst hnk
    go_enter Tryz.func12, Tryz.ntmps12
    go_wp2_with fail
    go_loopg [5] n (fun k p wr => FSameRel w n l m k p wr)
    case atStart => exact ⟨0, by omega, rfl, rfl, Below.refl _ _⟩
    case round =>
      obtain ⟨i, hk, rfl, ht, hb⟩ := hrel
      have HI := Lib.hid hk
      have HB := Lib.hid hb
      have HT := Lib.hid ht
      clear hk hb ht
      by_cases hlt : i < n
      · have HLT := Lib.hid hlt
        have hlt2 : (i : Int) < (n : Int) := by omega
        obtain ⟨g1, o1, rfl, x1, y1⟩ := HL.out (by rw [← HN.out]; omega)
        obtain ⟨g2, o2, rfl, x2, y2⟩ := HM.out (by rw [← HK.out]; omega)
        obtain ⟨z, hz⟩ : ∃ z, l[i]? = some z := ⟨l[i]'(by rw [← HN.out]; exact hlt), List.getElem?_eq_getElem _⟩
        obtain ⟨y, hy⟩ : ∃ y, m[i]? = some y := ⟨m[i]'(by rw [← HK.out]; exact hlt), List.getElem?_eq_getElem _⟩
        have c1 : wr.cell? ⟨g1, o1 + i, none⟩ = some (.int .i64 z) := by rw [HB.out.cell (p := ⟨g1, _, none⟩) x1]; exact y1 i z hz
        have c2 : wr.cell? ⟨g2, o2 + i, none⟩ = some (.int .i64 y) := by rw [HB.out.cell (p := ⟨g2, _, none⟩) x2]; exact y2 i y hy
        have HZ := Lib.hid hz
        have HY := Lib.hid hy
        clear x1 x2 y1 y2 hz hy
        by_cases hzy : z = y
        · subst hzy
          go_wp2_with fail
          go_quiet (fail)
          go_wp2
          go_roundg (n - (i + 1))
          case measure => have := HI.out; have := HLT.out; omega
          case rel => exact ⟨i + 1, by have := HLT.out; omega, by go_num, by rw [List.take_add_one, List.take_add_one, HT.out, HZ.out, HY.out], below_draws HB.out _⟩
        · have HF : Hid (x = false) := Lib.hid (by
            rw [HX.out, beq_eq_false_iff_ne]
            intro e
            subst e
            exact hzy (Option.some.inj (HZ.out.symm.trans HY.out)))
          go_wp2_with fail
          go_quiet (fail)
          go_wp2
          go_ret
          exact ⟨by rw [HF.out]; rfl, below_draws HB.out _⟩
      · have HT2 : Hid (x = true) := Lib.hid (by
          have hi : i = n := by have := HI.out; omega
          have := HT.out
          rw [hi] at this
          conv at this => lhs; rw [HN.out, List.take_length]
          conv at this => rhs; rw [HK.out, List.take_length]
          rw [HX.out, this]
          simp)
        go_wp2
        go_ret
        exact ⟨by rw [HT2.out]; rfl, HB.out⟩
  · have HF : Hid (x = false) := Lib.hid (by
      rw [HX.out, beq_eq_false_iff_ne]
      intro e
      subst e
      exact hnk (HN.out.trans HK.out.symm))
    have h1 : ¬ (n : Int) = (k : Int) := by omega
    go_enter Tryz.func12, Tryz.ntmps12
    go_wp2
    go_ret
    exact ⟨by rw [HF.out]; rfl, below_self _⟩
theorem fints_is {A B : Option Addr} {a b c d : Nat} {l m : List Int} {x : Bool} {w : World} (ha : a = l.length) (hb : b = m.length) (hl : a ≤ 1000000) (hL : IntsAt w w.heap.size A l) (hM : IntsAt w w.heap.size B m) (hx : (l == m) = x) :
    Calls Tryz.prog 12 #[.slice A a c, .slice B b d] w fun e w' => e = .returned (.bool x) ∧ Below w.heap.size w w' := by
  subst ha
  subst hb
  exact hx ▸ fints_any hl hL hM
end Go.Proofs.YtmcgnjhjidfkdaaGreat
namespace Go.Proofs.YtmcgnjhjidfkdaaGreat
open Go.RowKit

theorem sbx_fnd {W w w' : World} {g Q : Nat} {a b c : Int} {A : Option Addr} {n ca : Nat} {C : Option Addr} {m cc : Nat} (K : Sbx W w g a b c A n ca C m cc) (f : Fnd w w' Q) (hg : g ≠ Q) (hQ : W.heap.size ≤ Q) (hl : Q < w.heap.size) : Sbx W w' g a b c A n ca C m cc :=
  ⟨(f.cell K.lt hg).trans K.c0, (f.cell K.lt hg).trans K.c1, (f.cell K.lt hg).trans K.c2, (f.cell K.lt hg).trans K.c3, (f.cell K.lt hg).trans K.c4, K.old.trans ((f.below (Nat.le_of_lt hl)).mono hQ), K.base, Nat.lt_of_lt_of_le K.lt f.size⟩
set_option maxRecDepth 100000 in
set_option maxHeartbeats 16000000 in
theorem nested_is (w : World) : Calls Tryz.prog 5 #[] w fun e w' => ∃ A ca C cc, e = .returned (.agg #[.int .i64 2, .int .i64 32, .int .i64 16, .slice A 32 ca, .slice C 16 cc]) ∧ StH w' nst 2 32 16 A 32 ca C 16 cc ∧ Below w.heap.size w w' := by
  have k1 := Sbx.new w 0 0 0 none 0 0 none 0 0 28
  have hf : ∀ k, (w.alloc (.cells #[.int .i64 0, .int .i64 0, .int .i64 0, .slice none 0 0, .slice none 0 0] 28)).frozen? ⟨w.heap.size, k, none⟩ = false := fun k => frozen_of_row _ _ k _ _ (heap_alloc_new w _)
  go_enter Tryz.func5, Tryz.ntmps5
  go_wp2_with fail
  obtain ⟨g, hg⟩ : ∃ g, g = w.heap.size := ⟨_, rfl⟩
  rw [← hg] at k1 hf ⊢
  have HGG := Lib.hid hg
  clear hg
  generalize hw1 : w.alloc _ = w1 at k1 hf ⊢
  clear hw1
  refine (first_is w1).mono ?_
  rintro e w2 ⟨A, ca, C, cc, rfl, hS, hF, hb2⟩
  have K2 := Lib.hid (k1.on hb2)
  have hf2 : ∀ k, w2.frozen? ⟨g, k, none⟩ = false := fun k => (hb2.frozen (p := ⟨g, k, none⟩) k1.lt).trans (hf k)
  obtain ⟨P, rfl, hP1, hP2, hPf⟩ := hF.sl (by rw [s64_slots]; omega)
  obtain ⟨Q, rfl, hQ1, hQ2, hQf⟩ := hF.th (by rw [s64_things]; omega)
  have hPQ : P ≠ Q := fun h => hF.ne (by rw [s64_slots]; omega) (by rw [s64_things]; omega) (by rw [h])
  have hlt1 := k1.lt
  have HGP : Hid (g ≠ P ∧ g ≠ Q ∧ w.heap.size ≤ P ∧ w.heap.size ≤ Q) := Lib.hid ⟨by omega, by omega, by have := k1.old.size; omega, by have := k1.old.size; omega⟩
  have hba := below_alloc w2 (.cells #[.int .i64 2, .int .i64 32, .int .i64 16, .slice (some ⟨P, 0, none⟩) 32 ca, .slice (some ⟨Q, 0, none⟩) 16 cc] 28)
  have HZ0 : Hid (Owz (w2.alloc (.cells #[.int .i64 2, .int .i64 32, .int .i64 16, .slice (some ⟨P, 0, none⟩) 32 ca, .slice (some ⟨Q, 0, none⟩) 16 cc] 28)) w2.heap.size 0 s64 P Q 16 ca cc) := Lib.hid (by
    have hSa := hS.on hba
    refine ⟨fun j v hv => ?_, fun j hj => ?_, fun j hj => ?_, fun j => ?_, fun j => ?_, by omega, by omega, hPQ, by simp, Nat.lt_of_lt_of_le hP2 hba.size, Nat.lt_of_lt_of_le hQ2 hba.size, s64_geo, s64_slots, s64_things, by omega, hS.hca, hS.hcc⟩
    · have h := cell_of_row _ _ (0 + j) _ _ _ (heap_alloc_new w2 (.cells #[.int .i64 2, .int .i64 32, .int .i64 16, .slice (some ⟨P, 0, none⟩) 32 ca, .slice (some ⟨Q, 0, none⟩) 16 cc] 28))
      rw [h, Nat.zero_add, ← hv]
      simp
    · obtain ⟨b, o, e, -, h⟩ := hSa.lies.sl (by rw [s64_slots]; omega)
      obtain ⟨rfl, rfl⟩ : P = b ∧ 0 = o := by simpa using e
      have := h j (by rw [s64_slots]; exact hj)
      rw [Nat.zero_add] at this
      exact range_of_slC this
    · obtain ⟨b, o, e, -, h⟩ := hSa.lies.th (by rw [s64_things]; omega)
      obtain ⟨rfl, rfl⟩ : Q = b ∧ 0 = o := by simpa using e
      have := h j (by rw [s64_things]; exact hj)
      rw [Nat.zero_add] at this
      exact range_of_thC this
    · exact (hba.frozen (p := ⟨P, j, none⟩) hP2).trans (hPf j)
    · exact (hba.frozen (p := ⟨Q, j, none⟩) hQ2).trans (hQf j))
  have HK0 := Lib.hid (K2.out.on hba)
  have HF0 : Hid (∀ k, (w2.alloc (.cells #[.int .i64 2, .int .i64 32, .int .i64 16, .slice (some ⟨P, 0, none⟩) 32 ca, .slice (some ⟨Q, 0, none⟩) 16 cc] 28)).frozen? ⟨g, k, none⟩ = false) := Lib.hid fun k => (hba.frozen (p := ⟨g, k, none⟩) K2.out.lt).trans (hf2 k)
  have HGL : Hid (g ≠ w2.heap.size) := Lib.hid (by have := K2.out.lt; omega)
  clear k1 hf hS hF hb2 hf2 hP1 hP2 hPf hQ1 hQ2 hQf hPQ hlt1 hba K2
  obtain ⟨L, hL⟩ : ∃ L, L = w2.heap.size := ⟨_, rfl⟩
  go_upto_region 2 with fail
  rw [← hL] at HZ0 HGL ⊢
  generalize w2.alloc _ = v0 at HZ0 HK0 HF0 ⊢
  clear hL
  have r3 := HZ0.out.row 3 _ rfl
  have r4 := HZ0.out.row 4 _ rfl
  obtain ⟨y0, z0⟩ : ∃ y, v0.cell? ⟨Q, 91, none⟩ = some y := ⟨_, HZ0.out.th 7 (by decide) 0 _ rfl⟩
  have f0 := HZ0.out.Qf 91
  obtain ⟨y1, z1⟩ : ∃ y, v0.cell? ⟨Q, 92, none⟩ = some y := ⟨_, HZ0.out.th 7 (by decide) 1 _ rfl⟩
  have f1 := HZ0.out.Qf 92
  obtain ⟨y2, z2⟩ : ∃ y, v0.cell? ⟨Q, 93, none⟩ = some y := ⟨_, HZ0.out.th 7 (by decide) 2 _ rfl⟩
  have f2 := HZ0.out.Qf 93
  obtain ⟨y3, z3⟩ : ∃ y, v0.cell? ⟨Q, 94, none⟩ = some y := ⟨_, HZ0.out.th 7 (by decide) 3 _ rfl⟩
  have f3 := HZ0.out.Qf 94
  obtain ⟨y4, z4⟩ : ∃ y, v0.cell? ⟨Q, 95, none⟩ = some y := ⟨_, HZ0.out.th 7 (by decide) 4 _ rfl⟩
  have f4 := HZ0.out.Qf 95
  obtain ⟨y5, z5⟩ : ∃ y, v0.cell? ⟨Q, 96, none⟩ = some y := ⟨_, HZ0.out.th 7 (by decide) 5 _ rfl⟩
  have f5 := HZ0.out.Qf 96
  obtain ⟨y6, z6⟩ : ∃ y, v0.cell? ⟨Q, 97, none⟩ = some y := ⟨_, HZ0.out.th 7 (by decide) 6 _ rfl⟩
  have f6 := HZ0.out.Qf 97
  obtain ⟨y7, z7⟩ : ∃ y, v0.cell? ⟨Q, 98, none⟩ = some y := ⟨_, HZ0.out.th 7 (by decide) 7 _ rfl⟩
  have f7 := HZ0.out.Qf 98
  obtain ⟨y8, z8⟩ : ∃ y, v0.cell? ⟨Q, 99, none⟩ = some y := ⟨_, HZ0.out.th 7 (by decide) 8 _ rfl⟩
  have f8 := HZ0.out.Qf 99
  obtain ⟨y9, z9⟩ : ∃ y, v0.cell? ⟨Q, 100, none⟩ = some y := ⟨_, HZ0.out.th 7 (by decide) 9 _ rfl⟩
  have f9 := HZ0.out.Qf 100
  obtain ⟨y10, z10⟩ : ∃ y, v0.cell? ⟨Q, 101, none⟩ = some y := ⟨_, HZ0.out.th 7 (by decide) 10 _ rfl⟩
  have f10 := HZ0.out.Qf 101
  obtain ⟨y11, z11⟩ : ∃ y, v0.cell? ⟨Q, 102, none⟩ = some y := ⟨_, HZ0.out.th 7 (by decide) 11 _ rfl⟩
  have f11 := HZ0.out.Qf 102
  obtain ⟨y12, z12⟩ : ∃ y, v0.cell? ⟨Q, 103, none⟩ = some y := ⟨_, HZ0.out.th 7 (by decide) 12 _ rfl⟩
  have f12 := HZ0.out.Qf 103
  go_upto_region 3 with fail
  have hz : Owz (((((((((((((v0.setCell ⟨Q, 91, none⟩ (.int .i64 2)).setCell ⟨Q, 92, none⟩ (.int .i64 1)).setCell ⟨Q, 93, none⟩ (.int .i64 16)).setCell ⟨Q, 94, none⟩ (.int .i64 0)).setCell ⟨Q, 95, none⟩ (.int .i64 0)).setCell ⟨Q, 96, none⟩ (.int .i64 0)).setCell ⟨Q, 97, none⟩ (.int .i64 0)).setCell ⟨Q, 98, none⟩ (.bool false)).setCell ⟨Q, 99, none⟩ (.int .u64 0)).setCell ⟨Q, 100, none⟩ (.int .u64 0)).setCell ⟨Q, 101, none⟩ (.int .u64 0)).setCell ⟨Q, 102, none⟩ (.int .u64 0)).setCell ⟨Q, 103, none⟩ (.int .u64 0)) L 0 nt1 P Q 16 ca cc := HZ0.out.putT (i := 7) (by decide) ⟨2, 1, 16, 0, 0, 0, 0, false, 0, 0, 0, 0, 0⟩
  have hfn : Fnd v0 (((((((((((((v0.setCell ⟨Q, 91, none⟩ (.int .i64 2)).setCell ⟨Q, 92, none⟩ (.int .i64 1)).setCell ⟨Q, 93, none⟩ (.int .i64 16)).setCell ⟨Q, 94, none⟩ (.int .i64 0)).setCell ⟨Q, 95, none⟩ (.int .i64 0)).setCell ⟨Q, 96, none⟩ (.int .i64 0)).setCell ⟨Q, 97, none⟩ (.int .i64 0)).setCell ⟨Q, 98, none⟩ (.bool false)).setCell ⟨Q, 99, none⟩ (.int .u64 0)).setCell ⟨Q, 100, none⟩ (.int .u64 0)).setCell ⟨Q, 101, none⟩ (.int .u64 0)).setCell ⟨Q, 102, none⟩ (.int .u64 0)).setCell ⟨Q, 103, none⟩ (.int .u64 0)) Q := Fnd.setCells Q [.int .i64 2, .int .i64 1, .int .i64 16, .int .i64 0, .int .i64 0, .int .i64 0, .int .i64 0, .bool false, .int .u64 0, .int .u64 0, .int .u64 0, .int .u64 0, .int .u64 0] 91 v0
  generalize (((((((((((((v0.setCell ⟨Q, 91, none⟩ (.int .i64 2)).setCell ⟨Q, 92, none⟩ (.int .i64 1)).setCell ⟨Q, 93, none⟩ (.int .i64 16)).setCell ⟨Q, 94, none⟩ (.int .i64 0)).setCell ⟨Q, 95, none⟩ (.int .i64 0)).setCell ⟨Q, 96, none⟩ (.int .i64 0)).setCell ⟨Q, 97, none⟩ (.int .i64 0)).setCell ⟨Q, 98, none⟩ (.bool false)).setCell ⟨Q, 99, none⟩ (.int .u64 0)).setCell ⟨Q, 100, none⟩ (.int .u64 0)).setCell ⟨Q, 101, none⟩ (.int .u64 0)).setCell ⟨Q, 102, none⟩ (.int .u64 0)).setCell ⟨Q, 103, none⟩ (.int .u64 0)) = v1 at hz hfn ⊢
  have HZ1 := Lib.hid hz
  have HK1 := Lib.hid (sbx_fnd HK0.out hfn HGP.out.2.1 HGP.out.2.2.2 HZ0.out.lQ)
  have HF1 : Hid (∀ k, v1.frozen? ⟨g, k, none⟩ = false) := Lib.hid fun k => (hfn.frozen HK0.out.lt HGP.out.2.1).trans (HF0.out k)
  clear hz hfn r3 r4 z0 f0 z1 f1 z2 f2 z3 f3 z4 f4 z5 f5 z6 f6 z7 f7 z8 f8 z9 f9 z10 f10 z11 f11 z12 f12
  have r3 := HZ1.out.row 3 _ rfl
  have r4 := HZ1.out.row 4 _ rfl
  obtain ⟨y0, z0⟩ : ∃ y, v1.cell? ⟨Q, 104, none⟩ = some y := ⟨_, HZ1.out.th 8 (by decide) 0 _ rfl⟩
  have f0 := HZ1.out.Qf 104
  obtain ⟨y1, z1⟩ : ∃ y, v1.cell? ⟨Q, 105, none⟩ = some y := ⟨_, HZ1.out.th 8 (by decide) 1 _ rfl⟩
  have f1 := HZ1.out.Qf 105
  obtain ⟨y2, z2⟩ : ∃ y, v1.cell? ⟨Q, 106, none⟩ = some y := ⟨_, HZ1.out.th 8 (by decide) 2 _ rfl⟩
  have f2 := HZ1.out.Qf 106
  obtain ⟨y3, z3⟩ : ∃ y, v1.cell? ⟨Q, 107, none⟩ = some y := ⟨_, HZ1.out.th 8 (by decide) 3 _ rfl⟩
  have f3 := HZ1.out.Qf 107
  obtain ⟨y4, z4⟩ : ∃ y, v1.cell? ⟨Q, 108, none⟩ = some y := ⟨_, HZ1.out.th 8 (by decide) 4 _ rfl⟩
  have f4 := HZ1.out.Qf 108
  obtain ⟨y5, z5⟩ : ∃ y, v1.cell? ⟨Q, 109, none⟩ = some y := ⟨_, HZ1.out.th 8 (by decide) 5 _ rfl⟩
  have f5 := HZ1.out.Qf 109
  obtain ⟨y6, z6⟩ : ∃ y, v1.cell? ⟨Q, 110, none⟩ = some y := ⟨_, HZ1.out.th 8 (by decide) 6 _ rfl⟩
  have f6 := HZ1.out.Qf 110
  obtain ⟨y7, z7⟩ : ∃ y, v1.cell? ⟨Q, 111, none⟩ = some y := ⟨_, HZ1.out.th 8 (by decide) 7 _ rfl⟩
  have f7 := HZ1.out.Qf 111
  obtain ⟨y8, z8⟩ : ∃ y, v1.cell? ⟨Q, 112, none⟩ = some y := ⟨_, HZ1.out.th 8 (by decide) 8 _ rfl⟩
  have f8 := HZ1.out.Qf 112
  obtain ⟨y9, z9⟩ : ∃ y, v1.cell? ⟨Q, 113, none⟩ = some y := ⟨_, HZ1.out.th 8 (by decide) 9 _ rfl⟩
  have f9 := HZ1.out.Qf 113
  obtain ⟨y10, z10⟩ : ∃ y, v1.cell? ⟨Q, 114, none⟩ = some y := ⟨_, HZ1.out.th 8 (by decide) 10 _ rfl⟩
  have f10 := HZ1.out.Qf 114
  obtain ⟨y11, z11⟩ : ∃ y, v1.cell? ⟨Q, 115, none⟩ = some y := ⟨_, HZ1.out.th 8 (by decide) 11 _ rfl⟩
  have f11 := HZ1.out.Qf 115
  obtain ⟨y12, z12⟩ : ∃ y, v1.cell? ⟨Q, 116, none⟩ = some y := ⟨_, HZ1.out.th 8 (by decide) 12 _ rfl⟩
  have f12 := HZ1.out.Qf 116
  go_upto_region 4 with fail
  have hz : Owz (((((((((((((v1.setCell ⟨Q, 104, none⟩ (.int .i64 2)).setCell ⟨Q, 105, none⟩ (.int .i64 1)).setCell ⟨Q, 106, none⟩ (.int .i64 18)).setCell ⟨Q, 107, none⟩ (.int .i64 0)).setCell ⟨Q, 108, none⟩ (.int .i64 0)).setCell ⟨Q, 109, none⟩ (.int .i64 0)).setCell ⟨Q, 110, none⟩ (.int .i64 0)).setCell ⟨Q, 111, none⟩ (.bool false)).setCell ⟨Q, 112, none⟩ (.int .u64 0)).setCell ⟨Q, 113, none⟩ (.int .u64 0)).setCell ⟨Q, 114, none⟩ (.int .u64 0)).setCell ⟨Q, 115, none⟩ (.int .u64 0)).setCell ⟨Q, 116, none⟩ (.int .u64 0)) L 0 nt2 P Q 16 ca cc := HZ1.out.putT (i := 8) (by decide) ⟨2, 1, 18, 0, 0, 0, 0, false, 0, 0, 0, 0, 0⟩
  have hfn : Fnd v1 (((((((((((((v1.setCell ⟨Q, 104, none⟩ (.int .i64 2)).setCell ⟨Q, 105, none⟩ (.int .i64 1)).setCell ⟨Q, 106, none⟩ (.int .i64 18)).setCell ⟨Q, 107, none⟩ (.int .i64 0)).setCell ⟨Q, 108, none⟩ (.int .i64 0)).setCell ⟨Q, 109, none⟩ (.int .i64 0)).setCell ⟨Q, 110, none⟩ (.int .i64 0)).setCell ⟨Q, 111, none⟩ (.bool false)).setCell ⟨Q, 112, none⟩ (.int .u64 0)).setCell ⟨Q, 113, none⟩ (.int .u64 0)).setCell ⟨Q, 114, none⟩ (.int .u64 0)).setCell ⟨Q, 115, none⟩ (.int .u64 0)).setCell ⟨Q, 116, none⟩ (.int .u64 0)) Q := Fnd.setCells Q [.int .i64 2, .int .i64 1, .int .i64 18, .int .i64 0, .int .i64 0, .int .i64 0, .int .i64 0, .bool false, .int .u64 0, .int .u64 0, .int .u64 0, .int .u64 0, .int .u64 0] 104 v1
  generalize (((((((((((((v1.setCell ⟨Q, 104, none⟩ (.int .i64 2)).setCell ⟨Q, 105, none⟩ (.int .i64 1)).setCell ⟨Q, 106, none⟩ (.int .i64 18)).setCell ⟨Q, 107, none⟩ (.int .i64 0)).setCell ⟨Q, 108, none⟩ (.int .i64 0)).setCell ⟨Q, 109, none⟩ (.int .i64 0)).setCell ⟨Q, 110, none⟩ (.int .i64 0)).setCell ⟨Q, 111, none⟩ (.bool false)).setCell ⟨Q, 112, none⟩ (.int .u64 0)).setCell ⟨Q, 113, none⟩ (.int .u64 0)).setCell ⟨Q, 114, none⟩ (.int .u64 0)).setCell ⟨Q, 115, none⟩ (.int .u64 0)).setCell ⟨Q, 116, none⟩ (.int .u64 0)) = v2 at hz hfn ⊢
  have HZ2 := Lib.hid hz
  have HK2 := Lib.hid (sbx_fnd HK1.out hfn HGP.out.2.1 HGP.out.2.2.2 HZ1.out.lQ)
  have HF2 : Hid (∀ k, v2.frozen? ⟨g, k, none⟩ = false) := Lib.hid fun k => (hfn.frozen HK1.out.lt HGP.out.2.1).trans (HF1.out k)
  clear hz hfn r3 r4 z0 f0 z1 f1 z2 f2 z3 f3 z4 f4 z5 f5 z6 f6 z7 f7 z8 f8 z9 f9 z10 f10 z11 f11 z12 f12
  have r3 := HZ2.out.row 3 _ rfl
  have r4 := HZ2.out.row 4 _ rfl
  obtain ⟨y0, z0⟩ : ∃ y, v2.cell? ⟨P, 10, none⟩ = some y := ⟨_, HZ2.out.sl 2 (by decide) 0 _ rfl⟩
  have f0 := HZ2.out.Pf 10
  obtain ⟨y1, z1⟩ : ∃ y, v2.cell? ⟨P, 11, none⟩ = some y := ⟨_, HZ2.out.sl 2 (by decide) 1 _ rfl⟩
  have f1 := HZ2.out.Pf 11
  obtain ⟨y2, z2⟩ : ∃ y, v2.cell? ⟨P, 12, none⟩ = some y := ⟨_, HZ2.out.sl 2 (by decide) 2 _ rfl⟩
  have f2 := HZ2.out.Pf 12
  obtain ⟨y3, z3⟩ : ∃ y, v2.cell? ⟨P, 13, none⟩ = some y := ⟨_, HZ2.out.sl 2 (by decide) 3 _ rfl⟩
  have f3 := HZ2.out.Pf 13
  obtain ⟨y4, z4⟩ : ∃ y, v2.cell? ⟨P, 14, none⟩ = some y := ⟨_, HZ2.out.sl 2 (by decide) 4 _ rfl⟩
  have f4 := HZ2.out.Pf 14
  go_upto_region 5 with fail
  have hz : Owz (((((v2.setCell ⟨P, 10, none⟩ (.int .i64 2)).setCell ⟨P, 11, none⟩ (.int .i64 7)).setCell ⟨P, 12, none⟩ (.int .i64 1)).setCell ⟨P, 13, none⟩ (.int .i64 0)).setCell ⟨P, 14, none⟩ (.int .i64 0)) L 0 ns1 P Q 16 ca cc := HZ2.out.putG (i := 2) (by decide) ⟨⟨2, 7, 1, 0⟩, 0⟩
  have hfn : Fnd v2 (((((v2.setCell ⟨P, 10, none⟩ (.int .i64 2)).setCell ⟨P, 11, none⟩ (.int .i64 7)).setCell ⟨P, 12, none⟩ (.int .i64 1)).setCell ⟨P, 13, none⟩ (.int .i64 0)).setCell ⟨P, 14, none⟩ (.int .i64 0)) P := Fnd.setCells P [.int .i64 2, .int .i64 7, .int .i64 1, .int .i64 0, .int .i64 0] 10 v2
  generalize (((((v2.setCell ⟨P, 10, none⟩ (.int .i64 2)).setCell ⟨P, 11, none⟩ (.int .i64 7)).setCell ⟨P, 12, none⟩ (.int .i64 1)).setCell ⟨P, 13, none⟩ (.int .i64 0)).setCell ⟨P, 14, none⟩ (.int .i64 0)) = v3 at hz hfn ⊢
  have HZ3 := Lib.hid hz
  have HK3 := Lib.hid (sbx_fnd HK2.out hfn HGP.out.1 HGP.out.2.2.1 HZ2.out.lP)
  have HF3 : Hid (∀ k, v3.frozen? ⟨g, k, none⟩ = false) := Lib.hid fun k => (hfn.frozen HK2.out.lt HGP.out.1).trans (HF2.out k)
  clear hz hfn r3 r4 z0 f0 z1 f1 z2 f2 z3 f3 z4 f4
  have r3 := HZ3.out.row 3 _ rfl
  have r4 := HZ3.out.row 4 _ rfl
  obtain ⟨y0, z0⟩ : ∃ y, v3.cell? ⟨P, 85, none⟩ = some y := ⟨_, HZ3.out.sl 17 (by decide) 0 _ rfl⟩
  have f0 := HZ3.out.Pf 85
  obtain ⟨y1, z1⟩ : ∃ y, v3.cell? ⟨P, 86, none⟩ = some y := ⟨_, HZ3.out.sl 17 (by decide) 1 _ rfl⟩
  have f1 := HZ3.out.Pf 86
  obtain ⟨y2, z2⟩ : ∃ y, v3.cell? ⟨P, 87, none⟩ = some y := ⟨_, HZ3.out.sl 17 (by decide) 2 _ rfl⟩
  have f2 := HZ3.out.Pf 87
  obtain ⟨y3, z3⟩ : ∃ y, v3.cell? ⟨P, 88, none⟩ = some y := ⟨_, HZ3.out.sl 17 (by decide) 3 _ rfl⟩
  have f3 := HZ3.out.Pf 88
  obtain ⟨y4, z4⟩ : ∃ y, v3.cell? ⟨P, 89, none⟩ = some y := ⟨_, HZ3.out.sl 17 (by decide) 4 _ rfl⟩
  have f4 := HZ3.out.Pf 89
  go_upto_region 6 with fail
  have hz : Owz (((((v3.setCell ⟨P, 85, none⟩ (.int .i64 2)).setCell ⟨P, 86, none⟩ (.int .i64 8)).setCell ⟨P, 87, none⟩ (.int .i64 3)).setCell ⟨P, 88, none⟩ (.int .i64 0)).setCell ⟨P, 89, none⟩ (.int .i64 0)) L 0 ns2 P Q 16 ca cc := HZ3.out.putG (i := 17) (by decide) ⟨⟨2, 8, 3, 0⟩, 0⟩
  have hfn : Fnd v3 (((((v3.setCell ⟨P, 85, none⟩ (.int .i64 2)).setCell ⟨P, 86, none⟩ (.int .i64 8)).setCell ⟨P, 87, none⟩ (.int .i64 3)).setCell ⟨P, 88, none⟩ (.int .i64 0)).setCell ⟨P, 89, none⟩ (.int .i64 0)) P := Fnd.setCells P [.int .i64 2, .int .i64 8, .int .i64 3, .int .i64 0, .int .i64 0] 85 v3
  generalize (((((v3.setCell ⟨P, 85, none⟩ (.int .i64 2)).setCell ⟨P, 86, none⟩ (.int .i64 8)).setCell ⟨P, 87, none⟩ (.int .i64 3)).setCell ⟨P, 88, none⟩ (.int .i64 0)).setCell ⟨P, 89, none⟩ (.int .i64 0)) = v4 at hz hfn ⊢
  have HZ4 := Lib.hid hz
  have HK4 := Lib.hid (sbx_fnd HK3.out hfn HGP.out.1 HGP.out.2.2.1 HZ3.out.lP)
  have HF4 : Hid (∀ k, v4.frozen? ⟨g, k, none⟩ = false) := Lib.hid fun k => (hfn.frozen HK3.out.lt HGP.out.1).trans (HF3.out k)
  clear hz hfn r3 r4 z0 f0 z1 f1 z2 f2 z3 f3 z4 f4
  have r3 := HZ4.out.row 3 _ rfl
  have r4 := HZ4.out.row 4 _ rfl
  obtain ⟨y0, z0⟩ : ∃ y, v4.cell? ⟨P, 15, none⟩ = some y := ⟨_, HZ4.out.sl 3 (by decide) 0 _ rfl⟩
  have f0 := HZ4.out.Pf 15
  obtain ⟨y1, z1⟩ : ∃ y, v4.cell? ⟨P, 16, none⟩ = some y := ⟨_, HZ4.out.sl 3 (by decide) 1 _ rfl⟩
  have f1 := HZ4.out.Pf 16
  obtain ⟨y2, z2⟩ : ∃ y, v4.cell? ⟨P, 17, none⟩ = some y := ⟨_, HZ4.out.sl 3 (by decide) 2 _ rfl⟩
  have f2 := HZ4.out.Pf 17
  obtain ⟨y3, z3⟩ : ∃ y, v4.cell? ⟨P, 18, none⟩ = some y := ⟨_, HZ4.out.sl 3 (by decide) 3 _ rfl⟩
  have f3 := HZ4.out.Pf 18
  obtain ⟨y4, z4⟩ : ∃ y, v4.cell? ⟨P, 19, none⟩ = some y := ⟨_, HZ4.out.sl 3 (by decide) 4 _ rfl⟩
  have f4 := HZ4.out.Pf 19
  go_upto_region 7 with fail
  have hz : Owz (((((v4.setCell ⟨P, 15, none⟩ (.int .i64 2)).setCell ⟨P, 16, none⟩ (.int .i64 7)).setCell ⟨P, 17, none⟩ (.int .i64 0)).setCell ⟨P, 18, none⟩ (.int .i64 0)).setCell ⟨P, 19, none⟩ (.int .i64 2)) L 0 nst P Q 16 ca cc := HZ4.out.putG (i := 3) (by decide) ⟨⟨2, 7, 0, 0⟩, 2⟩
  have hfn : Fnd v4 (((((v4.setCell ⟨P, 15, none⟩ (.int .i64 2)).setCell ⟨P, 16, none⟩ (.int .i64 7)).setCell ⟨P, 17, none⟩ (.int .i64 0)).setCell ⟨P, 18, none⟩ (.int .i64 0)).setCell ⟨P, 19, none⟩ (.int .i64 2)) P := Fnd.setCells P [.int .i64 2, .int .i64 7, .int .i64 0, .int .i64 0, .int .i64 2] 15 v4
  generalize (((((v4.setCell ⟨P, 15, none⟩ (.int .i64 2)).setCell ⟨P, 16, none⟩ (.int .i64 7)).setCell ⟨P, 17, none⟩ (.int .i64 0)).setCell ⟨P, 18, none⟩ (.int .i64 0)).setCell ⟨P, 19, none⟩ (.int .i64 2)) = v5 at hz hfn ⊢
  have HZ5 := Lib.hid hz
  have HK5 := Lib.hid (sbx_fnd HK4.out hfn HGP.out.1 HGP.out.2.2.1 HZ4.out.lP)
  have HF5 : Hid (∀ k, v5.frozen? ⟨g, k, none⟩ = false) := Lib.hid fun k => (hfn.frozen HK4.out.lt HGP.out.1).trans (HF4.out k)
  clear hz hfn r3 r4 z0 f0 z1 f1 z2 f2 z3 f3 z4 f4
  have r0 := HZ5.out.row 0 _ rfl
  have r1 := HZ5.out.row 1 _ rfl
  have r2 := HZ5.out.row 2 _ rfl
  have r3 := HZ5.out.row 3 _ rfl
  have r4 := HZ5.out.row 4 _ rfl
  obtain ⟨b0, b1, b2, c3, c4, -, -, lt⟩ := HK5.out
  have f0 := HF5.out 0
  have f1 := HF5.out 1
  have f2 := HF5.out 2
  have f3 := HF5.out 3
  have f4 := HF5.out 4
  go_wp2_with fail
  have hp := put5_cells b0 b1 b2 c3 c4 (v0 := .int .i64 2) (v1 := .int .i64 32) (v2 := .int .i64 16) (v3 := .slice (some ⟨P, 0, none⟩) 32 ca) (v4 := .slice (some ⟨Q, 0, none⟩) 16 cc)
  have hz := put5_size v5 g (.int .i64 2) (.int .i64 32) (.int .i64 16) (.slice (some ⟨P, 0, none⟩) 32 ca) (.slice (some ⟨Q, 0, none⟩) 16 cc)
  have hfd : Fnd v5 (put5 v5 g (.int .i64 2) (.int .i64 32) (.int .i64 16) (.slice (some ⟨P, 0, none⟩) 32 ca) (.slice (some ⟨Q, 0, none⟩) 16 cc)) g := ⟨rfl, rfl, rfl, by rw [hz]; exact Nat.le_refl _, fun k _ hk => put5_heap v5 g _ _ _ _ _ hk⟩
  have hbl := put5_below HK5.out.old (by rw [← HGG.out]; exact Nat.le_refl _) (.int .i64 2) (.int .i64 32) (.int .i64 16) (.slice (some ⟨P, 0, none⟩) 32 ca) (.slice (some ⟨Q, 0, none⟩) 16 cc)
  change bodyPost _ _ _ _ _ (put5 v5 g (.int .i64 2) (.int .i64 32) (.int .i64 16) (.slice (some ⟨P, 0, none⟩) 32 ca) (.slice (some ⟨Q, 0, none⟩) 16 cc))
  generalize put5 v5 g (.int .i64 2) (.int .i64 32) (.int .i64 16) (.slice (some ⟨P, 0, none⟩) 32 ca) (.slice (some ⟨Q, 0, none⟩) 16 cc) = v6 at hp hfd hbl ⊢
  obtain ⟨e0, e1, e2, e3, e4⟩ := hp
  refine bodyPost_ret (by simp [results, Tryz.results5, go_sem, e0, e1, e2, e3, e4]; rfl) rfl ?_
  exact ⟨_, ca, _, cc, rfl, (HZ5.out.step hfd HGL.out.symm HGP.out.1.symm HGP.out.2.1.symm).stH, hbl⟩
end Go.Proofs.YtmcgnjhjidfkdaaGreat
namespace Go.Proofs.YtmcgnjhjidfkdaaGreat
open Go.RowKit

theorem row_form {w : World} {base : Nat} {T : TypeId} {v : Value} {N : Nat} {vs : List Value} (h : w.ownsRow base T 1 v N vs) : ∃ A cap, v = .slice A N cap ∧ N ≤ cap ∧ ∀ (j : Nat) (u : Value), vs[j]? = some u → ∃ g, A = some ⟨g, 0, none⟩ ∧ g < w.heap.size ∧ w.cell? ⟨g, j, none⟩ = some u := by
  rcases h.2 with ⟨rfl, h0⟩ | ⟨g, cap, cur, rfl, hb, hg, h1, h2, h3, h4⟩
  · refine ⟨none, 0, by rw [h0], by omega, fun j u hu => ?_⟩
    have := (List.getElem?_eq_some_iff.1 hu).1
    have := h.1
    omega
  · refine ⟨some ⟨g, 0, none⟩, cap, rfl, h1, fun j u hu => ⟨g, rfl, lt_of_block hg, ?_⟩⟩
    have hj := (List.getElem?_eq_some_iff.1 hu).1
    have := h.1
    rw [h.cellAt j (by omega), hu]
theorem bx5 {W V w' : World} {g : Nat} {a b c : Int} {A : Option Addr} {n ca : Nat} {C : Option Addr} {m cc : Nat} (K : Sbx W V g a b c A n ca C m cc) (h : Below V.heap.size V w') :
    w'.cell? ⟨g, 0, none⟩ = some (.int .i64 a) ∧ w'.cell? ⟨g, 1, none⟩ = some (.int .i64 b) ∧ w'.cell? ⟨g, 2, none⟩ = some (.int .i64 c) ∧ w'.cell? ⟨g, 3, none⟩ = some (.slice A n ca) ∧ w'.cell? ⟨g, 4, none⟩ = some (.slice C m cc) ∧ Below V.heap.size V w' := by
  obtain ⟨b0, b1, b2, c3, c4, -, -, -⟩ := K.on h
  exact ⟨b0, b1, b2, c3, c4, h⟩
theorem bal {V w' : World} {o : Obj} (h : Below V.heap.size V w') : Below V.heap.size V (w'.alloc o) := h.alloc h.size o
theorem way_lit {W V : World} {g : Nat} {a b c : Int} {A : Option Addr} {n ca : Nat} {C : Option Addr} {m cc k : Nat} {l : List Int} {cs : Array Value} (K : Sbx W V g a b c A n ca C m cc) (hcs : cs = (icells l).toArray) :
    Calls Tryz.prog 7 #[.slice (some ⟨V.heap.size, 0, none⟩) k k] (V.alloc (.cells cs 3)).drew fun e w' => e = .returned (.agg #[.slice (some ⟨V.heap.size, 0, none⟩) k k]) ∧ IntsAt w' w'.heap.size (some ⟨V.heap.size, 0, none⟩) l ∧
      (w'.cell? ⟨g, 0, none⟩ = some (.int .i64 a) ∧ w'.cell? ⟨g, 1, none⟩ = some (.int .i64 b) ∧ w'.cell? ⟨g, 2, none⟩ = some (.int .i64 c) ∧ w'.cell? ⟨g, 3, none⟩ = some (.slice A n ca) ∧ w'.cell? ⟨g, 4, none⟩ = some (.slice C m cc) ∧ Below V.heap.size V w') := by
  refine (way_is _).mono ?_
  rintro e w' ⟨rfl, h⟩
  have hb : Below V.heap.size V w' := below_on (below_alloc V _).drew h
  have hi := (lit_ints V l 3 cs hcs).on (below_self (V.alloc (.cells cs 3))).drew
  exact ⟨rfl, hi.on h, bx5 K hb⟩
set_option maxRecDepth 100000 in
set_option maxHeartbeats 16000000 in
theorem find_known (w : World) : Calls Tryz.prog 3 #[] w fun e w' => e = .returned (.bool true) ∧ Below w.heap.size w w' := by
  go_enter Tryz.func3, Tryz.ntmps3
  go_wp2_with fail
  refine (fawake_is w).mono ?_
  rintro e w1 ⟨rfl, hb1⟩
  have HB1 := Lib.hid hb1
  clear hb1
  go_wp2_with fail
  refine (nested_is w1).mono ?_
  rintro e w2 ⟨A, ca, C, cc, rfl, hS, hb2⟩
  have HB2 := Lib.hid (below_on HB1.out hb2)
  have HS0 := Lib.hid (hS.on (below_alloc w2 (.cells #[.int .i64 2, .int .i64 32, .int .i64 16, .slice A 32 ca, .slice C 16 cc] 28)))
  have k1 := Sbx.also HB2.out 2 32 16 A 32 ca C 16 cc 28
  clear hS hb2
  obtain ⟨g, hg⟩ : ∃ g, g = w2.heap.size := ⟨_, rfl⟩
  go_upto_region 4 with fail
  rw [← hg] at k1 ⊢
  clear hg
  generalize w2.alloc _ = v4 at k1 HS0 ⊢
  have K4 := Lib.hid k1
  have HS4 := Lib.hid HS0.out
  clear HS0 k1
  have K4d : Hid (Sbx w v4.drew g 2 32 16 A 32 ca C 16 cc) := Lib.hid (K4.out.on (below_self v4).drew)
  have WL := Lib.hid (way_lit (k := 3) (l := [2, 1, 1]) (cs := #[.int .i64 2, .int .i64 1, .int .i64 1]) K4.out rfl)
  have WC := Lib.hid fun w1 (h : Below v4.heap.size v4 w1) (hi : IntsAt w1 w1.heap.size (some ⟨v4.heap.size, 0, none⟩) [2, 1, 1]) => (slot_is (w := w1) (cap := 3) (q := 3) (HS4.out.on h) rfl (Nat.le_refl _) hi kf_a).mono fun e w' ⟨he, hb⟩ => (⟨he, bx5 K4.out (below_on h hb)⟩ : _ ∧ _)
  obtain ⟨b0, b1, b2, c3, c4, hb0⟩ := bx5 K4.out (below_self v4).drew
  go_wp2_with fail
  go_region_held3 (fun w' => w'.cell? ⟨g, 0, none⟩ = some (.int .i64 2) ∧ w'.cell? ⟨g, 1, none⟩ = some (.int .i64 32) ∧ w'.cell? ⟨g, 2, none⟩ = some (.int .i64 16) ∧ w'.cell? ⟨g, 3, none⟩ = some (.slice A 32 ca) ∧ w'.cell? ⟨g, 4, none⟩ = some (.slice C 16 cc) ∧ Below v4.heap.size v4 w')
    (first | exact ⟨by with_reducible assumption, by with_reducible assumption, by with_reducible assumption, by with_reducible assumption, by with_reducible assumption, by with_reducible assumption⟩ | exact bx5 K4.out (below_alloc _ _).drew | fail)
    (first
      | (go_at_call 7; ((with_reducible refine WL.out.mono ?_); rintro e wq ⟨rfl, yi, z0, z1, z2, z3, z4, z5⟩))
      | (go_at_call 6; ((with_reducible refine (WC.out _ (by with_reducible assumption) (by with_reducible assumption)).mono ?_); rintro e w' ⟨rfl, y0, y1, y2, y3, y4, y5⟩))
      | fail)
  have K5 := Lib.hid (K4.out.on y5)
  have HS5 := Lib.hid (HS4.out.on y5)
  obtain ⟨v5, hv5⟩ : ∃ v, v = w' := ⟨_, rfl⟩
  subst hv5
  clear b0 b1 b2 c3 c4 hb0 yi z0 z1 z2 z3 z4 z5 y0 y1 y2 y3 y4 y5 WL WC K4d K4 HS4
  have K5d : Hid (Sbx w v5.drew g 2 32 16 A 32 ca C 16 cc) := Lib.hid (K5.out.on (below_self v5).drew)
  have WL := Lib.hid (way_lit (k := 1) (l := [8]) (cs := #[.int .i64 8]) K5.out rfl)
  have WC := Lib.hid fun w1 (h : Below v5.heap.size v5 w1) (hi : IntsAt w1 w1.heap.size (some ⟨v5.heap.size, 0, none⟩) [8]) => (slot_is (w := w1) (cap := 1) (q := 1) (HS5.out.on h) rfl (Nat.le_refl _) hi kf_c).mono fun e w' ⟨he, hb⟩ => (⟨he, bx5 K5.out (below_on h hb)⟩ : _ ∧ _)
  obtain ⟨b0, b1, b2, c3, c4, hb0⟩ := bx5 K5.out (below_self v5).drew
  go_wp2_with fail
  go_region_held3 (fun w' => w'.cell? ⟨g, 0, none⟩ = some (.int .i64 2) ∧ w'.cell? ⟨g, 1, none⟩ = some (.int .i64 32) ∧ w'.cell? ⟨g, 2, none⟩ = some (.int .i64 16) ∧ w'.cell? ⟨g, 3, none⟩ = some (.slice A 32 ca) ∧ w'.cell? ⟨g, 4, none⟩ = some (.slice C 16 cc) ∧ Below v5.heap.size v5 w')
    (first | exact ⟨by with_reducible assumption, by with_reducible assumption, by with_reducible assumption, by with_reducible assumption, by with_reducible assumption, by with_reducible assumption⟩ | exact bx5 K5.out (below_alloc _ _).drew | fail)
    (first
      | (go_at_call 7; ((with_reducible refine WL.out.mono ?_); rintro e wq ⟨rfl, yi, z0, z1, z2, z3, z4, z5⟩))
      | (go_at_call 6; ((with_reducible refine (WC.out _ (by with_reducible assumption) (by with_reducible assumption)).mono ?_); rintro e w' ⟨rfl, y0, y1, y2, y3, y4, y5⟩))
      | fail)
  have K6 := Lib.hid (K5.out.on y5)
  have HS6 := Lib.hid (HS5.out.on y5)
  obtain ⟨v6, hv6⟩ : ∃ v, v = w' := ⟨_, rfl⟩
  subst hv6
  clear b0 b1 b2 c3 c4 hb0 yi z0 z1 z2 z3 z4 z5 y0 y1 y2 y3 y4 y5 WL WC K5d K5 HS5
  have K6d : Hid (Sbx w v6.drew g 2 32 16 A 32 ca C 16 cc) := Lib.hid (K6.out.on (below_self v6).drew)
  have WL := Lib.hid (way_lit (k := 2) (l := [2, 2]) (cs := #[.int .i64 2, .int .i64 2]) K6.out rfl)
  have WC := Lib.hid fun w1 (h : Below v6.heap.size v6 w1) (hi : IntsAt w1 w1.heap.size (some ⟨v6.heap.size, 0, none⟩) [2, 2]) => (slot_is (w := w1) (cap := 2) (q := 2) (HS6.out.on h) rfl (Nat.le_refl _) hi kf_d).mono fun e w' ⟨he, hb⟩ => (⟨he, bx5 K6.out (below_on h hb)⟩ : _ ∧ _)
  obtain ⟨b0, b1, b2, c3, c4, hb0⟩ := bx5 K6.out (below_self v6).drew
  go_wp2_with fail
  go_region_held3 (fun w' => w'.cell? ⟨g, 0, none⟩ = some (.int .i64 2) ∧ w'.cell? ⟨g, 1, none⟩ = some (.int .i64 32) ∧ w'.cell? ⟨g, 2, none⟩ = some (.int .i64 16) ∧ w'.cell? ⟨g, 3, none⟩ = some (.slice A 32 ca) ∧ w'.cell? ⟨g, 4, none⟩ = some (.slice C 16 cc) ∧ Below v6.heap.size v6 w')
    (first | exact ⟨by with_reducible assumption, by with_reducible assumption, by with_reducible assumption, by with_reducible assumption, by with_reducible assumption, by with_reducible assumption⟩ | exact bx5 K6.out (below_alloc _ _).drew | fail)
    (first
      | (go_at_call 7; ((with_reducible refine WL.out.mono ?_); rintro e wq ⟨rfl, yi, z0, z1, z2, z3, z4, z5⟩))
      | (go_at_call 6; ((with_reducible refine (WC.out _ (by with_reducible assumption) (by with_reducible assumption)).mono ?_); rintro e w' ⟨rfl, y0, y1, y2, y3, y4, y5⟩))
      | fail)
  have K7 := Lib.hid (K6.out.on y5)
  have HS7 := Lib.hid (HS6.out.on y5)
  obtain ⟨v7, hv7⟩ : ∃ v, v = w' := ⟨_, rfl⟩
  subst hv7
  clear b0 b1 b2 c3 c4 hb0 yi z0 z1 z2 z3 z4 z5 y0 y1 y2 y3 y4 y5 WL WC K6d K6 HS6
  have K7d : Hid (Sbx w v7.drew g 2 32 16 A 32 ca C 16 cc) := Lib.hid (K7.out.on (below_self v7).drew)
  have WL := Lib.hid (way_lit (k := 2) (l := [3, 1]) (cs := #[.int .i64 3, .int .i64 1]) K7.out rfl)
  have WC := Lib.hid fun w1 (h : Below v7.heap.size v7 w1) (hi : IntsAt w1 w1.heap.size (some ⟨v7.heap.size, 0, none⟩) [3, 1]) => (slot_is (w := w1) (cap := 2) (q := 2) (HS7.out.on h) rfl (Nat.le_refl _) hi kf_e).mono fun e w' ⟨he, hb⟩ => (⟨he, bx5 K7.out (below_on h hb)⟩ : _ ∧ _)
  obtain ⟨b0, b1, b2, c3, c4, hb0⟩ := bx5 K7.out (below_self v7).drew
  go_wp2_with fail
  go_region_held3 (fun w' => w'.cell? ⟨g, 0, none⟩ = some (.int .i64 2) ∧ w'.cell? ⟨g, 1, none⟩ = some (.int .i64 32) ∧ w'.cell? ⟨g, 2, none⟩ = some (.int .i64 16) ∧ w'.cell? ⟨g, 3, none⟩ = some (.slice A 32 ca) ∧ w'.cell? ⟨g, 4, none⟩ = some (.slice C 16 cc) ∧ Below v7.heap.size v7 w')
    (first | exact ⟨by with_reducible assumption, by with_reducible assumption, by with_reducible assumption, by with_reducible assumption, by with_reducible assumption, by with_reducible assumption⟩ | exact bx5 K7.out (below_alloc _ _).drew | fail)
    (first
      | (go_at_call 7; ((with_reducible refine WL.out.mono ?_); rintro e wq ⟨rfl, yi, z0, z1, z2, z3, z4, z5⟩))
      | (go_at_call 6; ((with_reducible refine (WC.out _ (by with_reducible assumption) (by with_reducible assumption)).mono ?_); rintro e w' ⟨rfl, y0, y1, y2, y3, y4, y5⟩))
      | fail)
  have K8 := Lib.hid (K7.out.on y5)
  have HS8 := Lib.hid (HS7.out.on y5)
  obtain ⟨v8, hv8⟩ : ∃ v, v = w' := ⟨_, rfl⟩
  subst hv8
  clear b0 b1 b2 c3 c4 hb0 yi z0 z1 z2 z3 z4 z5 y0 y1 y2 y3 y4 y5 WL WC K7d K7 HS7
  have K8d : Hid (Sbx w v8.drew g 2 32 16 A 32 ca C 16 cc) := Lib.hid (K8.out.on (below_self v8).drew)
  have WL := Lib.hid (way_lit (k := 2) (l := [1, 0]) (cs := #[.int .i64 1, .int .i64 0]) K8.out rfl)
  have WC := Lib.hid fun w1 (h : Below v8.heap.size v8 w1) (hi : IntsAt w1 w1.heap.size (some ⟨v8.heap.size, 0, none⟩) [1, 0]) => (slot_is (w := w1) (cap := 2) (q := 2) (HS8.out.on h) rfl (Nat.le_refl _) hi kf_f).mono fun e w' ⟨he, hb⟩ => (⟨he, bx5 K8.out (below_on h hb)⟩ : _ ∧ _)
  obtain ⟨b0, b1, b2, c3, c4, hb0⟩ := bx5 K8.out (below_self v8).drew
  go_wp2_with fail
  go_region_held3 (fun w' => w'.cell? ⟨g, 0, none⟩ = some (.int .i64 2) ∧ w'.cell? ⟨g, 1, none⟩ = some (.int .i64 32) ∧ w'.cell? ⟨g, 2, none⟩ = some (.int .i64 16) ∧ w'.cell? ⟨g, 3, none⟩ = some (.slice A 32 ca) ∧ w'.cell? ⟨g, 4, none⟩ = some (.slice C 16 cc) ∧ Below v8.heap.size v8 w')
    (first | exact ⟨by with_reducible assumption, by with_reducible assumption, by with_reducible assumption, by with_reducible assumption, by with_reducible assumption, by with_reducible assumption⟩ | exact bx5 K8.out (below_alloc _ _).drew | fail)
    (first
      | (go_at_call 7; ((with_reducible refine WL.out.mono ?_); rintro e wq ⟨rfl, yi, z0, z1, z2, z3, z4, z5⟩))
      | (go_at_call 6; ((with_reducible refine (WC.out _ (by with_reducible assumption) (by with_reducible assumption)).mono ?_); rintro e w' ⟨rfl, y0, y1, y2, y3, y4, y5⟩))
      | fail)
  have K9 := Lib.hid (K8.out.on y5)
  have HS9 := Lib.hid (HS8.out.on y5)
  obtain ⟨v9, hv9⟩ : ∃ v, v = w' := ⟨_, rfl⟩
  subst hv9
  clear b0 b1 b2 c3 c4 hb0 yi z0 z1 z2 z3 z4 z5 y0 y1 y2 y3 y4 y5 WL WC K8d K8 HS8
  have K9d : Hid (Sbx w v9.drew g 2 32 16 A 32 ca C 16 cc) := Lib.hid (K9.out.on (below_self v9).drew)
  have WL := Lib.hid (way_lit (k := 1) (l := [1]) (cs := #[.int .i64 1]) K9.out rfl)
  have WC := Lib.hid fun w1 (h : Below v9.heap.size v9 w1) (hi : IntsAt w1 w1.heap.size (some ⟨v9.heap.size, 0, none⟩) [1]) => (slot_is (w := w1) (cap := 1) (q := 1) (HS9.out.on h) rfl (Nat.le_refl _) hi kf_g).mono fun e w' ⟨he, hb⟩ => (⟨he, bx5 K9.out (below_on h hb)⟩ : _ ∧ _)
  obtain ⟨b0, b1, b2, c3, c4, hb0⟩ := bx5 K9.out (below_self v9).drew
  go_wp2_with fail
  go_region_held3 (fun w' => w'.cell? ⟨g, 0, none⟩ = some (.int .i64 2) ∧ w'.cell? ⟨g, 1, none⟩ = some (.int .i64 32) ∧ w'.cell? ⟨g, 2, none⟩ = some (.int .i64 16) ∧ w'.cell? ⟨g, 3, none⟩ = some (.slice A 32 ca) ∧ w'.cell? ⟨g, 4, none⟩ = some (.slice C 16 cc) ∧ Below v9.heap.size v9 w')
    (first | exact ⟨by with_reducible assumption, by with_reducible assumption, by with_reducible assumption, by with_reducible assumption, by with_reducible assumption, by with_reducible assumption⟩ | exact bx5 K9.out (below_alloc _ _).drew | fail)
    (first
      | (go_at_call 7; ((with_reducible refine WL.out.mono ?_); rintro e wq ⟨rfl, yi, z0, z1, z2, z3, z4, z5⟩))
      | (go_at_call 6; ((with_reducible refine (WC.out _ (by with_reducible assumption) (by with_reducible assumption)).mono ?_); rintro e w' ⟨rfl, y0, y1, y2, y3, y4, y5⟩))
      | fail)
  have K10 := Lib.hid (K9.out.on y5)
  have HS10 := Lib.hid (HS9.out.on y5)
  obtain ⟨v10, hv10⟩ : ∃ v, v = w' := ⟨_, rfl⟩
  subst hv10
  clear b0 b1 b2 c3 c4 hb0 yi z0 z1 z2 z3 z4 z5 y0 y1 y2 y3 y4 y5 WL WC K9d K9 HS9
  have WL := Lib.hid ((way_is (A := none) (n := 0) (cap := 0) v10.drew).mono fun e w' ⟨he, hb⟩ => (⟨he, bx5 K10.out (below_on (below_self v10).drew hb)⟩ : _ ∧ _))
  have WC := Lib.hid fun w1 (h : Below v10.heap.size v10 w1) => (slot_is (w := w1) (B := none) (cap := 0) (q := 0) (l := []) (HS10.out.on h) rfl (Nat.le_refl _) (fun h => absurd h (by simp)) kf_h).mono fun e w' ⟨he, hb⟩ => (⟨he, bx5 K10.out (below_on h hb)⟩ : _ ∧ _)
  obtain ⟨b0, b1, b2, c3, c4, hb0⟩ := bx5 K10.out (below_self v10).drew
  go_wp2_with fail
  go_region_held3 (fun w' => w'.cell? ⟨g, 0, none⟩ = some (.int .i64 2) ∧ w'.cell? ⟨g, 1, none⟩ = some (.int .i64 32) ∧ w'.cell? ⟨g, 2, none⟩ = some (.int .i64 16) ∧ w'.cell? ⟨g, 3, none⟩ = some (.slice A 32 ca) ∧ w'.cell? ⟨g, 4, none⟩ = some (.slice C 16 cc) ∧ Below v10.heap.size v10 w')
    (first | exact ⟨by with_reducible assumption, by with_reducible assumption, by with_reducible assumption, by with_reducible assumption, by with_reducible assumption, by with_reducible assumption⟩ | exact bx5 K10.out (below_alloc _ _).drew | fail)
    (first
      | (go_at_call 7; ((with_reducible refine WL.out.mono ?_); rintro e wq ⟨rfl, z0, z1, z2, z3, z4, z5⟩))
      | (go_at_call 6; ((with_reducible refine (WC.out _ (by with_reducible assumption)).mono ?_); rintro e w' ⟨rfl, y0, y1, y2, y3, y4, y5⟩))
      | fail)
  have K11 := Lib.hid (K10.out.on y5)
  have HS11 := Lib.hid (HS10.out.on y5)
  obtain ⟨v11, hv11⟩ : ∃ v, v = w' := ⟨_, rfl⟩
  subst hv11
  clear b0 b1 b2 c3 c4 hb0 z0 z1 z2 z3 z4 z5 y0 y1 y2 y3 y4 y5 WL WC K10 HS10
  obtain ⟨b0, b1, b2, c3, c4, hb0⟩ := bx5 K11.out (below_self v11).drew
  have KV := Lib.hid K11.out
  have B1 : Below v11.heap.size v11 (v11.alloc (.cells #[.int .i64 4] 3)).drew := (below_alloc _ _).drew
  have B8 : Below v11.heap.size v11 (v11.alloc (.cells #[.int .i64 0, .int .i64 0, .int .i64 0, .int .i64 0] 38)).drew := (below_alloc _ _).drew
  have B18 : Below v11.heap.size v11 ((v11.alloc (.cells #[.int .i64 4] 3)).alloc (.cells #[.int .i64 0, .int .i64 0, .int .i64 0, .int .i64 0] 38)).drew := (below_on (below_alloc _ _) (below_alloc _ _)).drew
  have B81 : Below v11.heap.size v11 ((v11.alloc (.cells #[.int .i64 0, .int .i64 0, .int .i64 0, .int .i64 0] 38)).alloc (.cells #[.int .i64 4] 3)).drew := (below_on (below_alloc _ _) (below_alloc _ _)).drew
  have I1 : IntsAt (v11.alloc (.cells #[.int .i64 4] 3)).drew (v11.alloc (.cells #[.int .i64 4] 3)).drew.heap.size (some ⟨v11.heap.size, 0, none⟩) [4] := (lit_ints v11 [4] 3 _ rfl).on (below_self _).drew
  have I18 : IntsAt ((v11.alloc (.cells #[.int .i64 4] 3)).alloc (.cells #[.int .i64 0, .int .i64 0, .int .i64 0, .int .i64 0] 38)).drew ((v11.alloc (.cells #[.int .i64 4] 3)).alloc (.cells #[.int .i64 0, .int .i64 0, .int .i64 0, .int .i64 0] 38)).drew.heap.size (some ⟨v11.heap.size, 0, none⟩) [4] := (lit_ints v11 [4] 3 _ rfl).on (below_alloc _ _).drew
  have I81 : IntsAt ((v11.alloc (.cells #[.int .i64 0, .int .i64 0, .int .i64 0, .int .i64 0] 38)).alloc (.cells #[.int .i64 4] 3)).drew ((v11.alloc (.cells #[.int .i64 0, .int .i64 0, .int .i64 0, .int .i64 0] 38)).alloc (.cells #[.int .i64 4] 3)).drew.heap.size (some ⟨v11.heap.size + 1, 0, none⟩) [4] := by
    have h := (lit_ints (v11.alloc (.cells #[.int .i64 0, .int .i64 0, .int .i64 0, .int .i64 0] 38)) [4] 3 _ rfl).on (below_self ((v11.alloc (.cells #[.int .i64 0, .int .i64 0, .int .i64 0, .int .i64 0] 38)).alloc (.cells #[.int .i64 4] 3))).drew
    rw [show (v11.alloc (.cells #[.int .i64 0, .int .i64 0, .int .i64 0, .int .i64 0] 38)).heap.size = v11.heap.size + 1 by simp] at h
    exact h
  have J18 : Fr v11 ((v11.alloc (.cells #[.int .i64 4] 3)).alloc (.cells #[.int .i64 0, .int .i64 0, .int .i64 0, .int .i64 0] 38)).drew (v11.heap.size + 1) 0 0 0 0 := by
    have h := (Fr.also (W := v11) (w := v11.alloc (.cells #[.int .i64 4] 3)) (below_alloc _ _) 0 0 0 0 38).drew
    rw [show (v11.alloc (.cells #[.int .i64 4] 3)).heap.size = v11.heap.size + 1 by simp] at h
    exact h
  have J81 : Fr v11 ((v11.alloc (.cells #[.int .i64 0, .int .i64 0, .int .i64 0, .int .i64 0] 38)).alloc (.cells #[.int .i64 4] 3)).drew v11.heap.size 0 0 0 0 := ((Fr.new v11 0 0 0 0 38).alloc _).drew
  go_upto_region 11 with fail
  go_cut [16, 17, 18] from 81 to 88 (fun s16 s17 s18 wc => s18 = .int .i64 4 ∧ Below v11.heap.size v11 wc)
  case first =>
    refine wp_region_held_drew (S := (fun w' => w'.cell? ⟨g, 0, none⟩ = some (.int .i64 2) ∧ w'.cell? ⟨g, 1, none⟩ = some (.int .i64 32) ∧ w'.cell? ⟨g, 2, none⟩ = some (.int .i64 16) ∧ w'.cell? ⟨g, 3, none⟩ = some (.slice A 32 ca) ∧ w'.cell? ⟨g, 4, none⟩ = some (.slice C 16 cc) ∧ Below v11.heap.size v11 w')) (by kernel_rfl) (bx5 KV.out (below_self v11).drew) (fun hHeld => ?_)
    refine wpAnyH_take (i := 0) (v := ?_) rfl (by kernel_rfl) (by kernel_rfl) (by kernel_rfl) (fun _ _ _ h => h) (Or.inl ⟨by rfl, ?_⟩) (by assumption) ?_
    rotate_left
    · intro w hSw; go_split_ands; go_simp; try with_reducible rfl
    try simp only [Act.put, List.setIfInBounds_toArray, List.set_cons_zero, List.set_cons_succ, List.getElem_toArray, List.getElem_cons_zero]
    refine wpAnyH_ready (rs := [1, 8]) (by kernel_rfl) (by simp) ?_
    refine AllReadyH.cons rfl (fun K hK => ?_) (AllReadyH.cons rfl (fun K hK => ?_) AllReadyH.nil)
    · go_simp
      refine hK.out _ _ (bx5 KV.out (B1)) (fun hHeld => ?_)
      clear hK K
      try simp only [Act.put, List.setIfInBounds_toArray, List.set_cons_zero, List.set_cons_succ, List.getElem_toArray, List.getElem_cons_zero, List.getElem_cons_succ]
      refine wpAnyH_ready (rs := [2, 8]) (by kernel_rfl) (by simp) ?_
      refine AllReadyH.cons rfl (fun K hK => ?_) (AllReadyH.cons rfl (fun K hK => ?_) AllReadyH.nil)
      · go_simp
        refine (way_is (n := 1) (cap := 1) ((v11.alloc (.cells #[.int .i64 4] 3)).drew)).mono ?_
        rintro e wq ⟨rfl, hq⟩
        refine hK.out _ _ (bx5 KV.out (below_on B1 hq)) (fun hHeld => ?_)
        clear hK K
        try simp only [Act.put, List.setIfInBounds_toArray, List.set_cons_zero, List.set_cons_succ, List.getElem_toArray, List.getElem_cons_zero, List.getElem_cons_succ]
        refine wpAnyH_ready (rs := [3, 8]) (by kernel_rfl) (by simp) ?_
        refine AllReadyH.cons rfl (fun K hK => ?_) (AllReadyH.cons rfl (fun K hK => ?_) AllReadyH.nil)
        · go_simp
          refine (fcap_is (w := wq) (cap := 1) (q := 1) (HS11.out.on (below_on B1 hq)) rfl (Nat.le_refl _) (I1.on hq) kf_i).mono ?_
          rintro e wp ⟨rfl, hp⟩
          simp only [Cp.val, Cp.none]
          have zp := below_on (below_on B1 hq) hp
          refine hK.out _ _ (bx5 KV.out (zp)) (fun hHeld => ?_)
          clear hK K
          try simp only [Act.put, List.setIfInBounds_toArray, List.set_cons_zero, List.set_cons_succ, List.getElem_toArray, List.getElem_cons_zero, List.getElem_cons_succ]
          refine wpAnyH_take (i := 4) (v := ?_) rfl (by kernel_rfl) (by kernel_rfl) (by kernel_rfl) (fun _ _ _ h => h) (Or.inl ⟨by rfl, ?_⟩) (by assumption) ?_
          rotate_left
          · intro w hSw; go_split_ands; go_simp; try with_reducible rfl
          try simp only [Act.put, List.setIfInBounds_toArray, List.set_cons_zero, List.set_cons_succ, List.getElem_toArray, List.getElem_cons_zero, List.getElem_cons_succ]
          refine wpAnyH_take (i := 5) (v := ?_) rfl (by kernel_rfl) (by kernel_rfl) (by kernel_rfl) (fun _ _ _ h => h) (Or.inl ⟨by rfl, ?_⟩) (by assumption) ?_
          rotate_left
          · intro w hSw; go_split_ands; go_simp; try with_reducible rfl
          try simp only [Act.put, List.setIfInBounds_toArray, List.set_cons_zero, List.set_cons_succ, List.getElem_toArray, List.getElem_cons_zero, List.getElem_cons_succ]
          refine wpAnyH_take (i := 6) (v := ?_) rfl (by kernel_rfl) (by kernel_rfl) (by kernel_rfl) (fun _ _ _ h => h) (Or.inl ⟨by rfl, ?_⟩) (by assumption) ?_
          rotate_left
          · intro w hSw; go_split_ands; go_simp; try with_reducible rfl
          try simp only [Act.put, List.setIfInBounds_toArray, List.set_cons_zero, List.set_cons_succ, List.getElem_toArray, List.getElem_cons_zero, List.getElem_cons_succ]
          refine wpAnyH_take (i := 7) (v := ?_) rfl (by kernel_rfl) (by kernel_rfl) (by kernel_rfl) (fun _ _ _ h => h) (Or.inl ⟨by rfl, ?_⟩) (by assumption) ?_
          rotate_left
          · intro w hSw; go_split_ands; go_simp; try with_reducible rfl
          try simp only [Act.put, List.setIfInBounds_toArray, List.set_cons_zero, List.set_cons_succ, List.getElem_toArray, List.getElem_cons_zero, List.getElem_cons_succ]
          refine wpAnyH_ready (rs := [8]) (by kernel_rfl) (by simp) ?_
          refine AllReadyH.cons rfl (fun K hK => ?_) AllReadyH.nil
          go_simp
          refine hK.out _ _ (bx5 KV.out (below_on zp (below_alloc _ _))) (fun hHeld => ?_)
          clear hK K
          try simp only [Act.put, List.setIfInBounds_toArray, List.set_cons_zero, List.set_cons_succ, List.getElem_toArray, List.getElem_cons_zero, List.getElem_cons_succ]
          refine wpAnyH_take (i := 9) (v := ?_) rfl (by kernel_rfl) (by kernel_rfl) (by kernel_rfl) (fun _ _ _ h => h) (Or.inl ⟨by rfl, ?_⟩) (by assumption) ?_
          rotate_left
          · intro w hSw; go_split_ands; go_simp; try with_reducible rfl
          try simp only [Act.put, List.setIfInBounds_toArray, List.set_cons_zero, List.set_cons_succ, List.getElem_toArray, List.getElem_cons_zero, List.getElem_cons_succ]
          refine wpAnyH_ready (rs := [10]) (by kernel_rfl) (by simp) ?_
          refine AllReadyH.cons rfl (fun K hK => ?_) AllReadyH.nil
          go_simp
          have QQ := Fr.also (W := v11) (w := wp) zp 0 0 0 0 38
          refine hK.out _ _ (bx5 KV.out (QQ.old)) (fun hHeld => ?_)
          clear hK K
          try simp only [Act.put, List.setIfInBounds_toArray, List.set_cons_zero, List.set_cons_succ, List.getElem_toArray, List.getElem_cons_zero, List.getElem_cons_succ]
          refine wpAnyH_take (i := 11) (v := ?_) rfl (by kernel_rfl) (by kernel_rfl) (by kernel_rfl) (fun _ _ _ h => h) (Or.inl ⟨by rfl, ?_⟩) (by assumption) ?_
          rotate_left
          · intro w hSw; go_split_ands; go_simp; try with_reducible rfl
          try simp only [Act.put, List.setIfInBounds_toArray, List.set_cons_zero, List.set_cons_succ, List.getElem_toArray, List.getElem_cons_zero, List.getElem_cons_succ]
          refine wpAnyH_done (by kernel_rfl) ?_ _
          go_wp2_with fail
          go_meet
          exact ⟨rfl, QQ.old⟩
        · go_simp
          refine hK.out _ _ (bx5 KV.out (below_on (below_on B1 hq) (below_alloc wq (.cells #[.int .i64 0, .int .i64 0, .int .i64 0, .int .i64 0] 38)))) (fun hHeld => ?_)
          clear hK K
          try simp only [Act.put, List.setIfInBounds_toArray, List.set_cons_zero, List.set_cons_succ, List.getElem_toArray, List.getElem_cons_zero, List.getElem_cons_succ]
          refine wpAnyH_ready (rs := [3]) (by kernel_rfl) (by simp) ?_
          refine AllReadyH.cons rfl (fun K hK => ?_) AllReadyH.nil
          go_simp
          refine (fcap_is (w := wq.alloc (.cells #[.int .i64 0, .int .i64 0, .int .i64 0, .int .i64 0] 38)) (cap := 1) (q := 1) (HS11.out.on (below_on (below_on B1 hq) (below_alloc _ _))) rfl (Nat.le_refl _) ((I1.on hq).on (below_alloc _ _)) kf_i).mono ?_
          rintro e wp ⟨rfl, hp⟩
          simp only [Cp.val, Cp.none]
          have zp := below_on (below_on (below_on B1 hq) (below_alloc _ _)) hp
          have JB := (Fr.also (W := v11) (w := wq) (below_on B1 hq) 0 0 0 0 38).on hp
          refine hK.out _ _ (bx5 KV.out (zp)) (fun hHeld => ?_)
          clear hK K
          try simp only [Act.put, List.setIfInBounds_toArray, List.set_cons_zero, List.set_cons_succ, List.getElem_toArray, List.getElem_cons_zero, List.getElem_cons_succ]
          refine wpAnyH_take (i := 4) (v := ?_) rfl (by kernel_rfl) (by kernel_rfl) (by kernel_rfl) (fun _ _ _ h => h) (Or.inl ⟨by rfl, ?_⟩) (by assumption) ?_
          rotate_left
          · intro w hSw; go_split_ands; go_simp; try with_reducible rfl
          try simp only [Act.put, List.setIfInBounds_toArray, List.set_cons_zero, List.set_cons_succ, List.getElem_toArray, List.getElem_cons_zero, List.getElem_cons_succ]
          refine wpAnyH_take (i := 5) (v := ?_) rfl (by kernel_rfl) (by kernel_rfl) (by kernel_rfl) (fun _ _ _ h => h) (Or.inl ⟨by rfl, ?_⟩) (by assumption) ?_
          rotate_left
          · intro w hSw; go_split_ands; go_simp; try with_reducible rfl
          try simp only [Act.put, List.setIfInBounds_toArray, List.set_cons_zero, List.set_cons_succ, List.getElem_toArray, List.getElem_cons_zero, List.getElem_cons_succ]
          refine wpAnyH_take (i := 6) (v := ?_) rfl (by kernel_rfl) (by kernel_rfl) (by kernel_rfl) (fun _ _ _ h => h) (Or.inl ⟨by rfl, ?_⟩) (by assumption) ?_
          rotate_left
          · intro w hSw; go_split_ands; go_simp; try with_reducible rfl
          try simp only [Act.put, List.setIfInBounds_toArray, List.set_cons_zero, List.set_cons_succ, List.getElem_toArray, List.getElem_cons_zero, List.getElem_cons_succ]
          refine wpAnyH_take (i := 7) (v := ?_) rfl (by kernel_rfl) (by kernel_rfl) (by kernel_rfl) (fun _ _ _ h => h) (Or.inl ⟨by rfl, ?_⟩) (by assumption) ?_
          rotate_left
          · intro w hSw; go_split_ands; go_simp; try with_reducible rfl
          try simp only [Act.put, List.setIfInBounds_toArray, List.set_cons_zero, List.set_cons_succ, List.getElem_toArray, List.getElem_cons_zero, List.getElem_cons_succ]
          refine wpAnyH_take (i := 9) (v := ?_) rfl (by kernel_rfl) (by kernel_rfl) (by kernel_rfl) (fun _ _ _ h => h) (Or.inl ⟨by rfl, ?_⟩) (by assumption) ?_
          rotate_left
          · intro w hSw; go_split_ands; go_simp; try with_reducible rfl
          try simp only [Act.put, List.setIfInBounds_toArray, List.set_cons_zero, List.set_cons_succ, List.getElem_toArray, List.getElem_cons_zero, List.getElem_cons_succ]
          have JJ := JB
          obtain ⟨d0, d1, d2, d3, df, -, -, -⟩ := id JJ
          have f0 := df 0
          have f1 := df 1
          have f2 := df 2
          have f3 := df 3
          refine wpAnyH_ready (rs := [10]) (by kernel_rfl) (by simp) ?_
          refine AllReadyH.cons rfl (fun K hK => ?_) AllReadyH.nil
          go_simp
          have QQ := JJ.put 0 0 0 0
          unfold put4 at QQ
          refine hK.out _ _ (bx5 KV.out (QQ.old)) (fun hHeld => ?_)
          clear hK K
          try simp only [Act.put, List.setIfInBounds_toArray, List.set_cons_zero, List.set_cons_succ, List.getElem_toArray, List.getElem_cons_zero, List.getElem_cons_succ]
          refine wpAnyH_take (i := 11) (v := ?_) rfl (by kernel_rfl) (by kernel_rfl) (by kernel_rfl) (fun _ _ _ h => h) (Or.inl ⟨by rfl, ?_⟩) (by assumption) ?_
          rotate_left
          · intro w hSw; go_split_ands; go_simp; try with_reducible rfl
          try simp only [Act.put, List.setIfInBounds_toArray, List.set_cons_zero, List.set_cons_succ, List.getElem_toArray, List.getElem_cons_zero, List.getElem_cons_succ]
          refine wpAnyH_done (by kernel_rfl) ?_ _
          go_wp2_with fail
          go_meet
          exact ⟨rfl, QQ.old⟩
      · go_simp
        refine hK.out _ _ (bx5 KV.out (B18)) (fun hHeld => ?_)
        clear hK K
        try simp only [Act.put, List.setIfInBounds_toArray, List.set_cons_zero, List.set_cons_succ, List.getElem_toArray, List.getElem_cons_zero, List.getElem_cons_succ]
        refine wpAnyH_ready (rs := [2]) (by kernel_rfl) (by simp) ?_
        refine AllReadyH.cons rfl (fun K hK => ?_) AllReadyH.nil
        go_simp
        refine (way_is (n := 1) (cap := 1) (((v11.alloc (.cells #[.int .i64 4] 3)).alloc (.cells #[.int .i64 0, .int .i64 0, .int .i64 0, .int .i64 0] 38)).drew)).mono ?_
        rintro e wq ⟨rfl, hq⟩
        refine hK.out _ _ (bx5 KV.out (below_on B18 hq)) (fun hHeld => ?_)
        clear hK K
        try simp only [Act.put, List.setIfInBounds_toArray, List.set_cons_zero, List.set_cons_succ, List.getElem_toArray, List.getElem_cons_zero, List.getElem_cons_succ]
        refine wpAnyH_ready (rs := [3]) (by kernel_rfl) (by simp) ?_
        refine AllReadyH.cons rfl (fun K hK => ?_) AllReadyH.nil
        go_simp
        refine (fcap_is (w := wq) (cap := 1) (q := 1) (HS11.out.on (below_on B18 hq)) rfl (Nat.le_refl _) (I18.on hq) kf_i).mono ?_
        rintro e wp ⟨rfl, hp⟩
        simp only [Cp.val, Cp.none]
        have zp := below_on (below_on B18 hq) hp
        have JB := (J18.on hq).on hp
        refine hK.out _ _ (bx5 KV.out (zp)) (fun hHeld => ?_)
        clear hK K
        try simp only [Act.put, List.setIfInBounds_toArray, List.set_cons_zero, List.set_cons_succ, List.getElem_toArray, List.getElem_cons_zero, List.getElem_cons_succ]
        refine wpAnyH_take (i := 4) (v := ?_) rfl (by kernel_rfl) (by kernel_rfl) (by kernel_rfl) (fun _ _ _ h => h) (Or.inl ⟨by rfl, ?_⟩) (by assumption) ?_
        rotate_left
        · intro w hSw; go_split_ands; go_simp; try with_reducible rfl
        try simp only [Act.put, List.setIfInBounds_toArray, List.set_cons_zero, List.set_cons_succ, List.getElem_toArray, List.getElem_cons_zero, List.getElem_cons_succ]
        refine wpAnyH_take (i := 5) (v := ?_) rfl (by kernel_rfl) (by kernel_rfl) (by kernel_rfl) (fun _ _ _ h => h) (Or.inl ⟨by rfl, ?_⟩) (by assumption) ?_
        rotate_left
        · intro w hSw; go_split_ands; go_simp; try with_reducible rfl
        try simp only [Act.put, List.setIfInBounds_toArray, List.set_cons_zero, List.set_cons_succ, List.getElem_toArray, List.getElem_cons_zero, List.getElem_cons_succ]
        refine wpAnyH_take (i := 6) (v := ?_) rfl (by kernel_rfl) (by kernel_rfl) (by kernel_rfl) (fun _ _ _ h => h) (Or.inl ⟨by rfl, ?_⟩) (by assumption) ?_
        rotate_left
        · intro w hSw; go_split_ands; go_simp; try with_reducible rfl
        try simp only [Act.put, List.setIfInBounds_toArray, List.set_cons_zero, List.set_cons_succ, List.getElem_toArray, List.getElem_cons_zero, List.getElem_cons_succ]
        refine wpAnyH_take (i := 7) (v := ?_) rfl (by kernel_rfl) (by kernel_rfl) (by kernel_rfl) (fun _ _ _ h => h) (Or.inl ⟨by rfl, ?_⟩) (by assumption) ?_
        rotate_left
        · intro w hSw; go_split_ands; go_simp; try with_reducible rfl
        try simp only [Act.put, List.setIfInBounds_toArray, List.set_cons_zero, List.set_cons_succ, List.getElem_toArray, List.getElem_cons_zero, List.getElem_cons_succ]
        refine wpAnyH_take (i := 9) (v := ?_) rfl (by kernel_rfl) (by kernel_rfl) (by kernel_rfl) (fun _ _ _ h => h) (Or.inl ⟨by rfl, ?_⟩) (by assumption) ?_
        rotate_left
        · intro w hSw; go_split_ands; go_simp; try with_reducible rfl
        try simp only [Act.put, List.setIfInBounds_toArray, List.set_cons_zero, List.set_cons_succ, List.getElem_toArray, List.getElem_cons_zero, List.getElem_cons_succ]
        have JJ := JB
        obtain ⟨d0, d1, d2, d3, df, -, -, -⟩ := id JJ
        have f0 := df 0
        have f1 := df 1
        have f2 := df 2
        have f3 := df 3
        refine wpAnyH_ready (rs := [10]) (by kernel_rfl) (by simp) ?_
        refine AllReadyH.cons rfl (fun K hK => ?_) AllReadyH.nil
        go_simp
        have QQ := JJ.put 0 0 0 0
        unfold put4 at QQ
        refine hK.out _ _ (bx5 KV.out (QQ.old)) (fun hHeld => ?_)
        clear hK K
        try simp only [Act.put, List.setIfInBounds_toArray, List.set_cons_zero, List.set_cons_succ, List.getElem_toArray, List.getElem_cons_zero, List.getElem_cons_succ]
        refine wpAnyH_take (i := 11) (v := ?_) rfl (by kernel_rfl) (by kernel_rfl) (by kernel_rfl) (fun _ _ _ h => h) (Or.inl ⟨by rfl, ?_⟩) (by assumption) ?_
        rotate_left
        · intro w hSw; go_split_ands; go_simp; try with_reducible rfl
        try simp only [Act.put, List.setIfInBounds_toArray, List.set_cons_zero, List.set_cons_succ, List.getElem_toArray, List.getElem_cons_zero, List.getElem_cons_succ]
        refine wpAnyH_done (by kernel_rfl) ?_ _
        go_wp2_with fail
        go_meet
        exact ⟨rfl, QQ.old⟩
    · go_simp
      refine hK.out _ _ (bx5 KV.out (B8)) (fun hHeld => ?_)
      clear hK K
      try simp only [Act.put, List.setIfInBounds_toArray, List.set_cons_zero, List.set_cons_succ, List.getElem_toArray, List.getElem_cons_zero, List.getElem_cons_succ]
      refine wpAnyH_ready (rs := [1]) (by kernel_rfl) (by simp) ?_
      refine AllReadyH.cons rfl (fun K hK => ?_) AllReadyH.nil
      go_simp
      refine hK.out _ _ (bx5 KV.out (B81)) (fun hHeld => ?_)
      clear hK K
      try simp only [Act.put, List.setIfInBounds_toArray, List.set_cons_zero, List.set_cons_succ, List.getElem_toArray, List.getElem_cons_zero, List.getElem_cons_succ]
      refine wpAnyH_ready (rs := [2]) (by kernel_rfl) (by simp) ?_
      refine AllReadyH.cons rfl (fun K hK => ?_) AllReadyH.nil
      go_simp
      refine (way_is (n := 1) (cap := 1) (((v11.alloc (.cells #[.int .i64 0, .int .i64 0, .int .i64 0, .int .i64 0] 38)).alloc (.cells #[.int .i64 4] 3)).drew)).mono ?_
      rintro e wq ⟨rfl, hq⟩
      refine hK.out _ _ (bx5 KV.out (below_on B81 hq)) (fun hHeld => ?_)
      clear hK K
      try simp only [Act.put, List.setIfInBounds_toArray, List.set_cons_zero, List.set_cons_succ, List.getElem_toArray, List.getElem_cons_zero, List.getElem_cons_succ]
      refine wpAnyH_ready (rs := [3]) (by kernel_rfl) (by simp) ?_
      refine AllReadyH.cons rfl (fun K hK => ?_) AllReadyH.nil
      go_simp
      refine (fcap_is (w := wq) (cap := 1) (q := 1) (HS11.out.on (below_on B81 hq)) rfl (Nat.le_refl _) (I81.on hq) kf_i).mono ?_
      rintro e wp ⟨rfl, hp⟩
      simp only [Cp.val, Cp.none]
      have zp := below_on (below_on B81 hq) hp
      have JB := (J81.on hq).on hp
      refine hK.out _ _ (bx5 KV.out (zp)) (fun hHeld => ?_)
      clear hK K
      try simp only [Act.put, List.setIfInBounds_toArray, List.set_cons_zero, List.set_cons_succ, List.getElem_toArray, List.getElem_cons_zero, List.getElem_cons_succ]
      refine wpAnyH_take (i := 4) (v := ?_) rfl (by kernel_rfl) (by kernel_rfl) (by kernel_rfl) (fun _ _ _ h => h) (Or.inl ⟨by rfl, ?_⟩) (by assumption) ?_
      rotate_left
      · intro w hSw; go_split_ands; go_simp; try with_reducible rfl
      try simp only [Act.put, List.setIfInBounds_toArray, List.set_cons_zero, List.set_cons_succ, List.getElem_toArray, List.getElem_cons_zero, List.getElem_cons_succ]
      refine wpAnyH_take (i := 5) (v := ?_) rfl (by kernel_rfl) (by kernel_rfl) (by kernel_rfl) (fun _ _ _ h => h) (Or.inl ⟨by rfl, ?_⟩) (by assumption) ?_
      rotate_left
      · intro w hSw; go_split_ands; go_simp; try with_reducible rfl
      try simp only [Act.put, List.setIfInBounds_toArray, List.set_cons_zero, List.set_cons_succ, List.getElem_toArray, List.getElem_cons_zero, List.getElem_cons_succ]
      refine wpAnyH_take (i := 6) (v := ?_) rfl (by kernel_rfl) (by kernel_rfl) (by kernel_rfl) (fun _ _ _ h => h) (Or.inl ⟨by rfl, ?_⟩) (by assumption) ?_
      rotate_left
      · intro w hSw; go_split_ands; go_simp; try with_reducible rfl
      try simp only [Act.put, List.setIfInBounds_toArray, List.set_cons_zero, List.set_cons_succ, List.getElem_toArray, List.getElem_cons_zero, List.getElem_cons_succ]
      refine wpAnyH_take (i := 7) (v := ?_) rfl (by kernel_rfl) (by kernel_rfl) (by kernel_rfl) (fun _ _ _ h => h) (Or.inl ⟨by rfl, ?_⟩) (by assumption) ?_
      rotate_left
      · intro w hSw; go_split_ands; go_simp; try with_reducible rfl
      try simp only [Act.put, List.setIfInBounds_toArray, List.set_cons_zero, List.set_cons_succ, List.getElem_toArray, List.getElem_cons_zero, List.getElem_cons_succ]
      refine wpAnyH_take (i := 9) (v := ?_) rfl (by kernel_rfl) (by kernel_rfl) (by kernel_rfl) (fun _ _ _ h => h) (Or.inl ⟨by rfl, ?_⟩) (by assumption) ?_
      rotate_left
      · intro w hSw; go_split_ands; go_simp; try with_reducible rfl
      try simp only [Act.put, List.setIfInBounds_toArray, List.set_cons_zero, List.set_cons_succ, List.getElem_toArray, List.getElem_cons_zero, List.getElem_cons_succ]
      have JJ := JB
      obtain ⟨d0, d1, d2, d3, df, -, -, -⟩ := id JJ
      have f0 := df 0
      have f1 := df 1
      have f2 := df 2
      have f3 := df 3
      refine wpAnyH_ready (rs := [10]) (by kernel_rfl) (by simp) ?_
      refine AllReadyH.cons rfl (fun K hK => ?_) AllReadyH.nil
      go_simp
      have QQ := JJ.put 0 0 0 0
      unfold put4 at QQ
      refine hK.out _ _ (bx5 KV.out (QQ.old)) (fun hHeld => ?_)
      clear hK K
      try simp only [Act.put, List.setIfInBounds_toArray, List.set_cons_zero, List.set_cons_succ, List.getElem_toArray, List.getElem_cons_zero, List.getElem_cons_succ]
      refine wpAnyH_take (i := 11) (v := ?_) rfl (by kernel_rfl) (by kernel_rfl) (by kernel_rfl) (fun _ _ _ h => h) (Or.inl ⟨by rfl, ?_⟩) (by assumption) ?_
      rotate_left
      · intro w hSw; go_split_ands; go_simp; try with_reducible rfl
      try simp only [Act.put, List.setIfInBounds_toArray, List.set_cons_zero, List.set_cons_succ, List.getElem_toArray, List.getElem_cons_zero, List.getElem_cons_succ]
      refine wpAnyH_done (by kernel_rfl) ?_ _
      go_wp2_with fail
      go_meet
      exact ⟨rfl, QQ.old⟩
  obtain ⟨rfl, hb12⟩ := hcut
  have K12 := Lib.hid (K11.out.on hb12)
  have HS12 := Lib.hid (HS11.out.on hb12)
  obtain ⟨v12, hv12⟩ : ∃ v, v = wc := ⟨_, rfl⟩
  subst hv12
  clear hb12 b0 b1 b2 c3 c4 hb0 KV B1 B8 B18 B81 I1 I18 I81 J18 J81 K11 HS11
  have K12d : Hid (Sbx w v12.drew g 2 32 16 A 32 ca C 16 cc) := Lib.hid (K12.out.on (below_self v12).drew)
  have WL := Lib.hid (way_lit (k := 1) (l := [2]) (cs := #[.int .i64 2]) K12.out rfl)
  have WC := Lib.hid fun w1 (h : Below v12.heap.size v12 w1) (hi : IntsAt w1 w1.heap.size (some ⟨v12.heap.size, 0, none⟩) [2]) => (empty_is (w := w1) (cap := 1) (q := 1) (HS12.out.on h) rfl (Nat.le_refl _) hi kf_j).mono fun e w' ⟨he, hb⟩ => (⟨he, bx5 K12.out (below_on h hb)⟩ : _ ∧ _)
  obtain ⟨b0, b1, b2, c3, c4, hb0⟩ := bx5 K12.out (below_self v12).drew
  go_wp2_with fail
  go_region_held3 (fun w' => w'.cell? ⟨g, 0, none⟩ = some (.int .i64 2) ∧ w'.cell? ⟨g, 1, none⟩ = some (.int .i64 32) ∧ w'.cell? ⟨g, 2, none⟩ = some (.int .i64 16) ∧ w'.cell? ⟨g, 3, none⟩ = some (.slice A 32 ca) ∧ w'.cell? ⟨g, 4, none⟩ = some (.slice C 16 cc) ∧ Below v12.heap.size v12 w')
    (first | exact ⟨by with_reducible assumption, by with_reducible assumption, by with_reducible assumption, by with_reducible assumption, by with_reducible assumption, by with_reducible assumption⟩ | exact bx5 K12.out (below_alloc _ _).drew | fail)
    (first
      | (go_at_call 7; ((with_reducible refine WL.out.mono ?_); rintro e wq ⟨rfl, yi, z0, z1, z2, z3, z4, z5⟩))
      | (go_at_call 9; ((with_reducible refine (WC.out _ (by with_reducible assumption) (by with_reducible assumption)).mono ?_); rintro e w' ⟨rfl, y0, y1, y2, y3, y4, y5⟩))
      | fail)
  have K13 := Lib.hid (K12.out.on y5)
  have HS13 := Lib.hid (HS12.out.on y5)
  obtain ⟨v13, hv13⟩ : ∃ v, v = w' := ⟨_, rfl⟩
  subst hv13
  clear b0 b1 b2 c3 c4 hb0 yi z0 z1 z2 z3 z4 z5 y0 y1 y2 y3 y4 y5 WL WC K12d K12 HS12
  have K13d : Hid (Sbx w v13.drew g 2 32 16 A 32 ca C 16 cc) := Lib.hid (K13.out.on (below_self v13).drew)
  have WL := Lib.hid (way_lit (k := 3) (l := [2, 1, 0]) (cs := #[.int .i64 2, .int .i64 1, .int .i64 0]) K13.out rfl)
  have WC := Lib.hid fun w1 (h : Below v13.heap.size v13 w1) (hi : IntsAt w1 w1.heap.size (some ⟨v13.heap.size, 0, none⟩) [2, 1, 0]) => (empty_is (w := w1) (cap := 3) (q := 3) (HS13.out.on h) rfl (Nat.le_refl _) hi kf_k).mono fun e w' ⟨he, hb⟩ => (⟨he, bx5 K13.out (below_on h hb)⟩ : _ ∧ _)
  obtain ⟨b0, b1, b2, c3, c4, hb0⟩ := bx5 K13.out (below_self v13).drew
  go_wp2_with fail
  go_region_held3 (fun w' => w'.cell? ⟨g, 0, none⟩ = some (.int .i64 2) ∧ w'.cell? ⟨g, 1, none⟩ = some (.int .i64 32) ∧ w'.cell? ⟨g, 2, none⟩ = some (.int .i64 16) ∧ w'.cell? ⟨g, 3, none⟩ = some (.slice A 32 ca) ∧ w'.cell? ⟨g, 4, none⟩ = some (.slice C 16 cc) ∧ Below v13.heap.size v13 w')
    (first | exact ⟨by with_reducible assumption, by with_reducible assumption, by with_reducible assumption, by with_reducible assumption, by with_reducible assumption, by with_reducible assumption⟩ | exact bx5 K13.out (below_alloc _ _).drew | fail)
    (first
      | (go_at_call 7; ((with_reducible refine WL.out.mono ?_); rintro e wq ⟨rfl, yi, z0, z1, z2, z3, z4, z5⟩))
      | (go_at_call 9; ((with_reducible refine (WC.out _ (by with_reducible assumption) (by with_reducible assumption)).mono ?_); rintro e w' ⟨rfl, y0, y1, y2, y3, y4, y5⟩))
      | fail)
  have K14 := Lib.hid (K13.out.on y5)
  have HS14 := Lib.hid (HS13.out.on y5)
  obtain ⟨v14, hv14⟩ : ∃ v, v = w' := ⟨_, rfl⟩
  subst hv14
  clear b0 b1 b2 c3 c4 hb0 yi z0 z1 z2 z3 z4 z5 y0 y1 y2 y3 y4 y5 WL WC K13d K13 HS13
  have HL14 := Lib.hid (lit_ints v14 [1] 3 #[.int .i64 1] rfl)
  have hb14 := below_alloc v14 (.cells #[.int .i64 1] 3)
  have HK15 := Lib.hid (K14.out.on hb14)
  have HS15 := Lib.hid (HS14.out.on hb14)
  clear hb14
  go_wp2_with fail
  generalize v14.alloc _ = v15 at HL14 HK15 HS15 ⊢
  refine (way_is (n := 1) (cap := 1) v15).mono ?_
  rintro e v16 ⟨rfl, hb⟩
  have HL16 := Lib.hid (HL14.out.on hb)
  have K16 := Lib.hid (HK15.out.on hb)
  have HS16 := Lib.hid (HS15.out.on hb)
  clear hb HL14 HK15 HS15 K14 HS14
  have HZ16 : Hid (StH v16 ⟨⟨0, 0, 0⟩, [], []⟩ 0 0 0 none 0 0 none 0 0) := Lib.hid ⟨⟨fun h => absurd h (by simp), fun h => absurd h (by simp)⟩, rfl, rfl, rfl, by omega, by omega, Nat.le_refl _, Nat.le_refl _⟩
  go_wp2_with fail
  refine (slot_is (w := v16) (cap := 1) (q := 1) HZ16.out rfl (Nat.le_refl _) HL16.out kf_m).mono ?_
  rintro e v17 ⟨rfl, hb⟩
  have K17 := Lib.hid (K16.out.on hb)
  have HS17 := Lib.hid (HS16.out.on hb)
  clear hb HL16 HZ16 K16 HS16
  obtain ⟨b0, b1, b2, c3, c4, -, -, lt⟩ := K17.out
  go_wp2_with fail
  refine (fways_is (t := 0) (k := 19) HS17.out).mono ?_
  rintro e v18 ⟨va, vs, rfl, hown, hW, hb⟩
  rw [kf_w] at hown hW
  obtain ⟨PA, pcap, rfl, hpc, hrow⟩ := row_form hown
  obtain ⟨PB, pbc, hv0, hqc, hI⟩ := hW.2 0 [2, 1, 1] rfl
  obtain ⟨gp, rfl, hgl, hcell⟩ := hrow 0 _ hv0
  have K18 := Lib.hid (K17.out.on hb)
  have HS18 := Lib.hid (HS17.out.on hb)
  have HCELL := Lib.hid hcell
  have HGL := Lib.hid hgl
  have HI18 := Lib.hid hI
  clear hb hown hW hpc hrow hv0 hqc hI hgl hcell b0 b1 b2 c3 c4 lt K17 HS17
  obtain ⟨b0, b1, b2, c3, c4, -, -, lt⟩ := K18.out
  go_wp2_with fail
  refine (fways_is (t := 1) (k := 19) HS18.out).mono ?_
  rintro e v19 ⟨vb, vs2, rfl, hown, -, hb⟩
  rw [kf_x] at hown
  obtain ⟨PC, pcc, rfl, -, -⟩ := row_form hown
  have K19 := Lib.hid (K18.out.on hb)
  have HS19 := Lib.hid (HS18.out.on hb)
  have HCELL19 := Lib.hid ((hb.cell (p := ⟨gp, 0, none⟩) HGL.out).trans HCELL.out)
  have HGL19 := Lib.hid (Nat.lt_of_lt_of_le HGL.out hb.size)
  have HI19 := Lib.hid (HI18.out.on hb)
  clear hb hown b0 b1 b2 c3 c4 lt K18 HS18 HCELL HGL HI18
  obtain ⟨b0, b1, b2, c3, c4, -, -, lt⟩ := K19.out
  clear b0 b1 b2 c3 c4 lt
  obtain ⟨b0, b1, b2, c3, c4, hb0⟩ := bx5 K19.out (below_self v19).drew
  have KV := Lib.hid K19.out
  have B1 : Below v19.heap.size v19 (v19.alloc (.cells #[.int .i64 2, .int .i64 1] 3)).drew := (below_alloc _ _).drew
  have B8 : Below v19.heap.size v19 (v19.alloc (.cells #[.int .i64 0, .int .i64 0, .int .i64 0, .int .i64 0] 38)).drew := (below_alloc _ _).drew
  have B18 : Below v19.heap.size v19 ((v19.alloc (.cells #[.int .i64 2, .int .i64 1] 3)).alloc (.cells #[.int .i64 0, .int .i64 0, .int .i64 0, .int .i64 0] 38)).drew := (below_on (below_alloc _ _) (below_alloc _ _)).drew
  have B81 : Below v19.heap.size v19 ((v19.alloc (.cells #[.int .i64 0, .int .i64 0, .int .i64 0, .int .i64 0] 38)).alloc (.cells #[.int .i64 2, .int .i64 1] 3)).drew := (below_on (below_alloc _ _) (below_alloc _ _)).drew
  have I1 : IntsAt (v19.alloc (.cells #[.int .i64 2, .int .i64 1] 3)).drew (v19.alloc (.cells #[.int .i64 2, .int .i64 1] 3)).drew.heap.size (some ⟨v19.heap.size, 0, none⟩) [2, 1] := (lit_ints v19 [2, 1] 3 _ rfl).on (below_self _).drew
  have I18 : IntsAt ((v19.alloc (.cells #[.int .i64 2, .int .i64 1] 3)).alloc (.cells #[.int .i64 0, .int .i64 0, .int .i64 0, .int .i64 0] 38)).drew ((v19.alloc (.cells #[.int .i64 2, .int .i64 1] 3)).alloc (.cells #[.int .i64 0, .int .i64 0, .int .i64 0, .int .i64 0] 38)).drew.heap.size (some ⟨v19.heap.size, 0, none⟩) [2, 1] := (lit_ints v19 [2, 1] 3 _ rfl).on (below_alloc _ _).drew
  have I81 : IntsAt ((v19.alloc (.cells #[.int .i64 0, .int .i64 0, .int .i64 0, .int .i64 0] 38)).alloc (.cells #[.int .i64 2, .int .i64 1] 3)).drew ((v19.alloc (.cells #[.int .i64 0, .int .i64 0, .int .i64 0, .int .i64 0] 38)).alloc (.cells #[.int .i64 2, .int .i64 1] 3)).drew.heap.size (some ⟨v19.heap.size + 1, 0, none⟩) [2, 1] := by
    have h := (lit_ints (v19.alloc (.cells #[.int .i64 0, .int .i64 0, .int .i64 0, .int .i64 0] 38)) [2, 1] 3 _ rfl).on (below_self ((v19.alloc (.cells #[.int .i64 0, .int .i64 0, .int .i64 0, .int .i64 0] 38)).alloc (.cells #[.int .i64 2, .int .i64 1] 3))).drew
    rw [show (v19.alloc (.cells #[.int .i64 0, .int .i64 0, .int .i64 0, .int .i64 0] 38)).heap.size = v19.heap.size + 1 by simp] at h
    exact h
  have J18 : Fr v19 ((v19.alloc (.cells #[.int .i64 2, .int .i64 1] 3)).alloc (.cells #[.int .i64 0, .int .i64 0, .int .i64 0, .int .i64 0] 38)).drew (v19.heap.size + 1) 0 0 0 0 := by
    have h := (Fr.also (W := v19) (w := v19.alloc (.cells #[.int .i64 2, .int .i64 1] 3)) (below_alloc _ _) 0 0 0 0 38).drew
    rw [show (v19.alloc (.cells #[.int .i64 2, .int .i64 1] 3)).heap.size = v19.heap.size + 1 by simp] at h
    exact h
  have J81 : Fr v19 ((v19.alloc (.cells #[.int .i64 0, .int .i64 0, .int .i64 0, .int .i64 0] 38)).alloc (.cells #[.int .i64 2, .int .i64 1] 3)).drew v19.heap.size 0 0 0 0 := ((Fr.new v19 0 0 0 0 38).alloc _).drew
  go_upto_region 17 with fail
  go_cut [27, 28, 29] from 114 to 121 (fun s27 s28 s29 wc => s27 = .int .i64 17 ∧ (∃ p, s28 = .pointer (some ⟨p, 0, none⟩) ∧ wc.cell? ⟨p, 1, none⟩ = some (.int .i64 8) ∧ p < wc.heap.size) ∧ s29 = .int .i64 0 ∧ Below v19.heap.size v19 wc)
  case first =>
    refine wp_region_held_drew (S := (fun w' => w'.cell? ⟨g, 0, none⟩ = some (.int .i64 2) ∧ w'.cell? ⟨g, 1, none⟩ = some (.int .i64 32) ∧ w'.cell? ⟨g, 2, none⟩ = some (.int .i64 16) ∧ w'.cell? ⟨g, 3, none⟩ = some (.slice A 32 ca) ∧ w'.cell? ⟨g, 4, none⟩ = some (.slice C 16 cc) ∧ Below v19.heap.size v19 w')) (by kernel_rfl) (bx5 KV.out (below_self v19).drew) (fun hHeld => ?_)
    refine wpAnyH_take (i := 0) (v := ?_) rfl (by kernel_rfl) (by kernel_rfl) (by kernel_rfl) (fun _ _ _ h => h) (Or.inl ⟨by rfl, ?_⟩) (by assumption) ?_
    rotate_left
    · intro w hSw; go_split_ands; go_simp; try with_reducible rfl
    try simp only [Act.put, List.setIfInBounds_toArray, List.set_cons_zero, List.set_cons_succ, List.getElem_toArray, List.getElem_cons_zero]
    refine wpAnyH_ready (rs := [1, 8]) (by kernel_rfl) (by simp) ?_
    refine AllReadyH.cons rfl (fun K hK => ?_) (AllReadyH.cons rfl (fun K hK => ?_) AllReadyH.nil)
    · go_simp
      refine hK.out _ _ (bx5 KV.out (B1)) (fun hHeld => ?_)
      clear hK K
      try simp only [Act.put, List.setIfInBounds_toArray, List.set_cons_zero, List.set_cons_succ, List.getElem_toArray, List.getElem_cons_zero, List.getElem_cons_succ]
      refine wpAnyH_ready (rs := [2, 8]) (by kernel_rfl) (by simp) ?_
      refine AllReadyH.cons rfl (fun K hK => ?_) (AllReadyH.cons rfl (fun K hK => ?_) AllReadyH.nil)
      · go_simp
        refine (way_is (n := 2) (cap := 2) ((v19.alloc (.cells #[.int .i64 2, .int .i64 1] 3)).drew)).mono ?_
        rintro e wq ⟨rfl, hq⟩
        refine hK.out _ _ (bx5 KV.out (below_on B1 hq)) (fun hHeld => ?_)
        clear hK K
        try simp only [Act.put, List.setIfInBounds_toArray, List.set_cons_zero, List.set_cons_succ, List.getElem_toArray, List.getElem_cons_zero, List.getElem_cons_succ]
        refine wpAnyH_ready (rs := [3, 8]) (by kernel_rfl) (by simp) ?_
        refine AllReadyH.cons rfl (fun K hK => ?_) (AllReadyH.cons rfl (fun K hK => ?_) AllReadyH.nil)
        · go_simp
          refine (fcap_is (w := wq) (cap := 2) (q := 2) (HS19.out.on (below_on B1 hq)) rfl (Nat.le_refl _) (I1.on hq) kf_n).mono ?_
          rintro e wp ⟨rfl, hp⟩
          simp only [Cp.val]
          have zp := below_on (below_on B1 hq) hp
          refine hK.out _ _ (bx5 KV.out (zp)) (fun hHeld => ?_)
          clear hK K
          try simp only [Act.put, List.setIfInBounds_toArray, List.set_cons_zero, List.set_cons_succ, List.getElem_toArray, List.getElem_cons_zero, List.getElem_cons_succ]
          refine wpAnyH_take (i := 4) (v := ?_) rfl (by kernel_rfl) (by kernel_rfl) (by kernel_rfl) (fun _ _ _ h => h) (Or.inl ⟨by rfl, ?_⟩) (by assumption) ?_
          rotate_left
          · intro w hSw; go_split_ands; go_simp; try with_reducible rfl
          try simp only [Act.put, List.setIfInBounds_toArray, List.set_cons_zero, List.set_cons_succ, List.getElem_toArray, List.getElem_cons_zero, List.getElem_cons_succ]
          refine wpAnyH_take (i := 5) (v := ?_) rfl (by kernel_rfl) (by kernel_rfl) (by kernel_rfl) (fun _ _ _ h => h) (Or.inl ⟨by rfl, ?_⟩) (by assumption) ?_
          rotate_left
          · intro w hSw; go_split_ands; go_simp; try with_reducible rfl
          try simp only [Act.put, List.setIfInBounds_toArray, List.set_cons_zero, List.set_cons_succ, List.getElem_toArray, List.getElem_cons_zero, List.getElem_cons_succ]
          refine wpAnyH_take (i := 6) (v := ?_) rfl (by kernel_rfl) (by kernel_rfl) (by kernel_rfl) (fun _ _ _ h => h) (Or.inl ⟨by rfl, ?_⟩) (by assumption) ?_
          rotate_left
          · intro w hSw; go_split_ands; go_simp; try with_reducible rfl
          try simp only [Act.put, List.setIfInBounds_toArray, List.set_cons_zero, List.set_cons_succ, List.getElem_toArray, List.getElem_cons_zero, List.getElem_cons_succ]
          refine wpAnyH_take (i := 7) (v := ?_) rfl (by kernel_rfl) (by kernel_rfl) (by kernel_rfl) (fun _ _ _ h => h) (Or.inl ⟨by rfl, ?_⟩) (by assumption) ?_
          rotate_left
          · intro w hSw; go_split_ands; go_simp; try with_reducible rfl
          try simp only [Act.put, List.setIfInBounds_toArray, List.set_cons_zero, List.set_cons_succ, List.getElem_toArray, List.getElem_cons_zero, List.getElem_cons_succ]
          refine wpAnyH_ready (rs := [8]) (by kernel_rfl) (by simp) ?_
          refine AllReadyH.cons rfl (fun K hK => ?_) AllReadyH.nil
          go_simp
          refine hK.out _ _ (bx5 KV.out (below_on zp (below_alloc _ _))) (fun hHeld => ?_)
          clear hK K
          try simp only [Act.put, List.setIfInBounds_toArray, List.set_cons_zero, List.set_cons_succ, List.getElem_toArray, List.getElem_cons_zero, List.getElem_cons_succ]
          refine wpAnyH_take (i := 9) (v := ?_) rfl (by kernel_rfl) (by kernel_rfl) (by kernel_rfl) (fun _ _ _ h => h) (Or.inl ⟨by rfl, ?_⟩) (by assumption) ?_
          rotate_left
          · intro w hSw; go_split_ands; go_simp; try with_reducible rfl
          try simp only [Act.put, List.setIfInBounds_toArray, List.set_cons_zero, List.set_cons_succ, List.getElem_toArray, List.getElem_cons_zero, List.getElem_cons_succ]
          refine wpAnyH_ready (rs := [10]) (by kernel_rfl) (by simp) ?_
          refine AllReadyH.cons rfl (fun K hK => ?_) AllReadyH.nil
          go_simp
          have QQ := Fr.also (W := v19) (w := wp) zp 2 8 3 0 38
          refine hK.out _ _ (bx5 KV.out (QQ.old)) (fun hHeld => ?_)
          clear hK K
          try simp only [Act.put, List.setIfInBounds_toArray, List.set_cons_zero, List.set_cons_succ, List.getElem_toArray, List.getElem_cons_zero, List.getElem_cons_succ]
          refine wpAnyH_take (i := 11) (v := ?_) rfl (by kernel_rfl) (by kernel_rfl) (by kernel_rfl) (fun _ _ _ h => h) (Or.inl ⟨by rfl, ?_⟩) (by assumption) ?_
          rotate_left
          · intro w hSw; go_split_ands; go_simp; try with_reducible rfl
          try simp only [Act.put, List.setIfInBounds_toArray, List.set_cons_zero, List.set_cons_succ, List.getElem_toArray, List.getElem_cons_zero, List.getElem_cons_succ]
          refine wpAnyH_done (by kernel_rfl) ?_ _
          go_wp2_with fail
          go_meet
          exact ⟨rfl, ⟨_, rfl, QQ.c1, QQ.lt⟩, rfl, QQ.old⟩
        · go_simp
          refine hK.out _ _ (bx5 KV.out (below_on (below_on B1 hq) (below_alloc wq (.cells #[.int .i64 0, .int .i64 0, .int .i64 0, .int .i64 0] 38)))) (fun hHeld => ?_)
          clear hK K
          try simp only [Act.put, List.setIfInBounds_toArray, List.set_cons_zero, List.set_cons_succ, List.getElem_toArray, List.getElem_cons_zero, List.getElem_cons_succ]
          refine wpAnyH_ready (rs := [3]) (by kernel_rfl) (by simp) ?_
          refine AllReadyH.cons rfl (fun K hK => ?_) AllReadyH.nil
          go_simp
          refine (fcap_is (w := wq.alloc (.cells #[.int .i64 0, .int .i64 0, .int .i64 0, .int .i64 0] 38)) (cap := 2) (q := 2) (HS19.out.on (below_on (below_on B1 hq) (below_alloc _ _))) rfl (Nat.le_refl _) ((I1.on hq).on (below_alloc _ _)) kf_n).mono ?_
          rintro e wp ⟨rfl, hp⟩
          simp only [Cp.val]
          have zp := below_on (below_on (below_on B1 hq) (below_alloc _ _)) hp
          have JB := (Fr.also (W := v19) (w := wq) (below_on B1 hq) 0 0 0 0 38).on hp
          refine hK.out _ _ (bx5 KV.out (zp)) (fun hHeld => ?_)
          clear hK K
          try simp only [Act.put, List.setIfInBounds_toArray, List.set_cons_zero, List.set_cons_succ, List.getElem_toArray, List.getElem_cons_zero, List.getElem_cons_succ]
          refine wpAnyH_take (i := 4) (v := ?_) rfl (by kernel_rfl) (by kernel_rfl) (by kernel_rfl) (fun _ _ _ h => h) (Or.inl ⟨by rfl, ?_⟩) (by assumption) ?_
          rotate_left
          · intro w hSw; go_split_ands; go_simp; try with_reducible rfl
          try simp only [Act.put, List.setIfInBounds_toArray, List.set_cons_zero, List.set_cons_succ, List.getElem_toArray, List.getElem_cons_zero, List.getElem_cons_succ]
          refine wpAnyH_take (i := 5) (v := ?_) rfl (by kernel_rfl) (by kernel_rfl) (by kernel_rfl) (fun _ _ _ h => h) (Or.inl ⟨by rfl, ?_⟩) (by assumption) ?_
          rotate_left
          · intro w hSw; go_split_ands; go_simp; try with_reducible rfl
          try simp only [Act.put, List.setIfInBounds_toArray, List.set_cons_zero, List.set_cons_succ, List.getElem_toArray, List.getElem_cons_zero, List.getElem_cons_succ]
          refine wpAnyH_take (i := 6) (v := ?_) rfl (by kernel_rfl) (by kernel_rfl) (by kernel_rfl) (fun _ _ _ h => h) (Or.inl ⟨by rfl, ?_⟩) (by assumption) ?_
          rotate_left
          · intro w hSw; go_split_ands; go_simp; try with_reducible rfl
          try simp only [Act.put, List.setIfInBounds_toArray, List.set_cons_zero, List.set_cons_succ, List.getElem_toArray, List.getElem_cons_zero, List.getElem_cons_succ]
          refine wpAnyH_take (i := 7) (v := ?_) rfl (by kernel_rfl) (by kernel_rfl) (by kernel_rfl) (fun _ _ _ h => h) (Or.inl ⟨by rfl, ?_⟩) (by assumption) ?_
          rotate_left
          · intro w hSw; go_split_ands; go_simp; try with_reducible rfl
          try simp only [Act.put, List.setIfInBounds_toArray, List.set_cons_zero, List.set_cons_succ, List.getElem_toArray, List.getElem_cons_zero, List.getElem_cons_succ]
          refine wpAnyH_take (i := 9) (v := ?_) rfl (by kernel_rfl) (by kernel_rfl) (by kernel_rfl) (fun _ _ _ h => h) (Or.inl ⟨by rfl, ?_⟩) (by assumption) ?_
          rotate_left
          · intro w hSw; go_split_ands; go_simp; try with_reducible rfl
          try simp only [Act.put, List.setIfInBounds_toArray, List.set_cons_zero, List.set_cons_succ, List.getElem_toArray, List.getElem_cons_zero, List.getElem_cons_succ]
          have JJ := JB
          obtain ⟨d0, d1, d2, d3, df, -, -, -⟩ := id JJ
          have f0 := df 0
          have f1 := df 1
          have f2 := df 2
          have f3 := df 3
          refine wpAnyH_ready (rs := [10]) (by kernel_rfl) (by simp) ?_
          refine AllReadyH.cons rfl (fun K hK => ?_) AllReadyH.nil
          go_simp
          have QQ := JJ.put 2 8 3 0
          unfold put4 at QQ
          refine hK.out _ _ (bx5 KV.out (QQ.old)) (fun hHeld => ?_)
          clear hK K
          try simp only [Act.put, List.setIfInBounds_toArray, List.set_cons_zero, List.set_cons_succ, List.getElem_toArray, List.getElem_cons_zero, List.getElem_cons_succ]
          refine wpAnyH_take (i := 11) (v := ?_) rfl (by kernel_rfl) (by kernel_rfl) (by kernel_rfl) (fun _ _ _ h => h) (Or.inl ⟨by rfl, ?_⟩) (by assumption) ?_
          rotate_left
          · intro w hSw; go_split_ands; go_simp; try with_reducible rfl
          try simp only [Act.put, List.setIfInBounds_toArray, List.set_cons_zero, List.set_cons_succ, List.getElem_toArray, List.getElem_cons_zero, List.getElem_cons_succ]
          refine wpAnyH_done (by kernel_rfl) ?_ _
          go_wp2_with fail
          go_meet
          exact ⟨rfl, ⟨_, rfl, QQ.c1, QQ.lt⟩, rfl, QQ.old⟩
      · go_simp
        refine hK.out _ _ (bx5 KV.out (B18)) (fun hHeld => ?_)
        clear hK K
        try simp only [Act.put, List.setIfInBounds_toArray, List.set_cons_zero, List.set_cons_succ, List.getElem_toArray, List.getElem_cons_zero, List.getElem_cons_succ]
        refine wpAnyH_ready (rs := [2]) (by kernel_rfl) (by simp) ?_
        refine AllReadyH.cons rfl (fun K hK => ?_) AllReadyH.nil
        go_simp
        refine (way_is (n := 2) (cap := 2) (((v19.alloc (.cells #[.int .i64 2, .int .i64 1] 3)).alloc (.cells #[.int .i64 0, .int .i64 0, .int .i64 0, .int .i64 0] 38)).drew)).mono ?_
        rintro e wq ⟨rfl, hq⟩
        refine hK.out _ _ (bx5 KV.out (below_on B18 hq)) (fun hHeld => ?_)
        clear hK K
        try simp only [Act.put, List.setIfInBounds_toArray, List.set_cons_zero, List.set_cons_succ, List.getElem_toArray, List.getElem_cons_zero, List.getElem_cons_succ]
        refine wpAnyH_ready (rs := [3]) (by kernel_rfl) (by simp) ?_
        refine AllReadyH.cons rfl (fun K hK => ?_) AllReadyH.nil
        go_simp
        refine (fcap_is (w := wq) (cap := 2) (q := 2) (HS19.out.on (below_on B18 hq)) rfl (Nat.le_refl _) (I18.on hq) kf_n).mono ?_
        rintro e wp ⟨rfl, hp⟩
        simp only [Cp.val]
        have zp := below_on (below_on B18 hq) hp
        have JB := (J18.on hq).on hp
        refine hK.out _ _ (bx5 KV.out (zp)) (fun hHeld => ?_)
        clear hK K
        try simp only [Act.put, List.setIfInBounds_toArray, List.set_cons_zero, List.set_cons_succ, List.getElem_toArray, List.getElem_cons_zero, List.getElem_cons_succ]
        refine wpAnyH_take (i := 4) (v := ?_) rfl (by kernel_rfl) (by kernel_rfl) (by kernel_rfl) (fun _ _ _ h => h) (Or.inl ⟨by rfl, ?_⟩) (by assumption) ?_
        rotate_left
        · intro w hSw; go_split_ands; go_simp; try with_reducible rfl
        try simp only [Act.put, List.setIfInBounds_toArray, List.set_cons_zero, List.set_cons_succ, List.getElem_toArray, List.getElem_cons_zero, List.getElem_cons_succ]
        refine wpAnyH_take (i := 5) (v := ?_) rfl (by kernel_rfl) (by kernel_rfl) (by kernel_rfl) (fun _ _ _ h => h) (Or.inl ⟨by rfl, ?_⟩) (by assumption) ?_
        rotate_left
        · intro w hSw; go_split_ands; go_simp; try with_reducible rfl
        try simp only [Act.put, List.setIfInBounds_toArray, List.set_cons_zero, List.set_cons_succ, List.getElem_toArray, List.getElem_cons_zero, List.getElem_cons_succ]
        refine wpAnyH_take (i := 6) (v := ?_) rfl (by kernel_rfl) (by kernel_rfl) (by kernel_rfl) (fun _ _ _ h => h) (Or.inl ⟨by rfl, ?_⟩) (by assumption) ?_
        rotate_left
        · intro w hSw; go_split_ands; go_simp; try with_reducible rfl
        try simp only [Act.put, List.setIfInBounds_toArray, List.set_cons_zero, List.set_cons_succ, List.getElem_toArray, List.getElem_cons_zero, List.getElem_cons_succ]
        refine wpAnyH_take (i := 7) (v := ?_) rfl (by kernel_rfl) (by kernel_rfl) (by kernel_rfl) (fun _ _ _ h => h) (Or.inl ⟨by rfl, ?_⟩) (by assumption) ?_
        rotate_left
        · intro w hSw; go_split_ands; go_simp; try with_reducible rfl
        try simp only [Act.put, List.setIfInBounds_toArray, List.set_cons_zero, List.set_cons_succ, List.getElem_toArray, List.getElem_cons_zero, List.getElem_cons_succ]
        refine wpAnyH_take (i := 9) (v := ?_) rfl (by kernel_rfl) (by kernel_rfl) (by kernel_rfl) (fun _ _ _ h => h) (Or.inl ⟨by rfl, ?_⟩) (by assumption) ?_
        rotate_left
        · intro w hSw; go_split_ands; go_simp; try with_reducible rfl
        try simp only [Act.put, List.setIfInBounds_toArray, List.set_cons_zero, List.set_cons_succ, List.getElem_toArray, List.getElem_cons_zero, List.getElem_cons_succ]
        have JJ := JB
        obtain ⟨d0, d1, d2, d3, df, -, -, -⟩ := id JJ
        have f0 := df 0
        have f1 := df 1
        have f2 := df 2
        have f3 := df 3
        refine wpAnyH_ready (rs := [10]) (by kernel_rfl) (by simp) ?_
        refine AllReadyH.cons rfl (fun K hK => ?_) AllReadyH.nil
        go_simp
        have QQ := JJ.put 2 8 3 0
        unfold put4 at QQ
        refine hK.out _ _ (bx5 KV.out (QQ.old)) (fun hHeld => ?_)
        clear hK K
        try simp only [Act.put, List.setIfInBounds_toArray, List.set_cons_zero, List.set_cons_succ, List.getElem_toArray, List.getElem_cons_zero, List.getElem_cons_succ]
        refine wpAnyH_take (i := 11) (v := ?_) rfl (by kernel_rfl) (by kernel_rfl) (by kernel_rfl) (fun _ _ _ h => h) (Or.inl ⟨by rfl, ?_⟩) (by assumption) ?_
        rotate_left
        · intro w hSw; go_split_ands; go_simp; try with_reducible rfl
        try simp only [Act.put, List.setIfInBounds_toArray, List.set_cons_zero, List.set_cons_succ, List.getElem_toArray, List.getElem_cons_zero, List.getElem_cons_succ]
        refine wpAnyH_done (by kernel_rfl) ?_ _
        go_wp2_with fail
        go_meet
        exact ⟨rfl, ⟨_, rfl, QQ.c1, QQ.lt⟩, rfl, QQ.old⟩
    · go_simp
      refine hK.out _ _ (bx5 KV.out (B8)) (fun hHeld => ?_)
      clear hK K
      try simp only [Act.put, List.setIfInBounds_toArray, List.set_cons_zero, List.set_cons_succ, List.getElem_toArray, List.getElem_cons_zero, List.getElem_cons_succ]
      refine wpAnyH_ready (rs := [1]) (by kernel_rfl) (by simp) ?_
      refine AllReadyH.cons rfl (fun K hK => ?_) AllReadyH.nil
      go_simp
      refine hK.out _ _ (bx5 KV.out (B81)) (fun hHeld => ?_)
      clear hK K
      try simp only [Act.put, List.setIfInBounds_toArray, List.set_cons_zero, List.set_cons_succ, List.getElem_toArray, List.getElem_cons_zero, List.getElem_cons_succ]
      refine wpAnyH_ready (rs := [2]) (by kernel_rfl) (by simp) ?_
      refine AllReadyH.cons rfl (fun K hK => ?_) AllReadyH.nil
      go_simp
      refine (way_is (n := 2) (cap := 2) (((v19.alloc (.cells #[.int .i64 0, .int .i64 0, .int .i64 0, .int .i64 0] 38)).alloc (.cells #[.int .i64 2, .int .i64 1] 3)).drew)).mono ?_
      rintro e wq ⟨rfl, hq⟩
      refine hK.out _ _ (bx5 KV.out (below_on B81 hq)) (fun hHeld => ?_)
      clear hK K
      try simp only [Act.put, List.setIfInBounds_toArray, List.set_cons_zero, List.set_cons_succ, List.getElem_toArray, List.getElem_cons_zero, List.getElem_cons_succ]
      refine wpAnyH_ready (rs := [3]) (by kernel_rfl) (by simp) ?_
      refine AllReadyH.cons rfl (fun K hK => ?_) AllReadyH.nil
      go_simp
      refine (fcap_is (w := wq) (cap := 2) (q := 2) (HS19.out.on (below_on B81 hq)) rfl (Nat.le_refl _) (I81.on hq) kf_n).mono ?_
      rintro e wp ⟨rfl, hp⟩
      simp only [Cp.val]
      have zp := below_on (below_on B81 hq) hp
      have JB := (J81.on hq).on hp
      refine hK.out _ _ (bx5 KV.out (zp)) (fun hHeld => ?_)
      clear hK K
      try simp only [Act.put, List.setIfInBounds_toArray, List.set_cons_zero, List.set_cons_succ, List.getElem_toArray, List.getElem_cons_zero, List.getElem_cons_succ]
      refine wpAnyH_take (i := 4) (v := ?_) rfl (by kernel_rfl) (by kernel_rfl) (by kernel_rfl) (fun _ _ _ h => h) (Or.inl ⟨by rfl, ?_⟩) (by assumption) ?_
      rotate_left
      · intro w hSw; go_split_ands; go_simp; try with_reducible rfl
      try simp only [Act.put, List.setIfInBounds_toArray, List.set_cons_zero, List.set_cons_succ, List.getElem_toArray, List.getElem_cons_zero, List.getElem_cons_succ]
      refine wpAnyH_take (i := 5) (v := ?_) rfl (by kernel_rfl) (by kernel_rfl) (by kernel_rfl) (fun _ _ _ h => h) (Or.inl ⟨by rfl, ?_⟩) (by assumption) ?_
      rotate_left
      · intro w hSw; go_split_ands; go_simp; try with_reducible rfl
      try simp only [Act.put, List.setIfInBounds_toArray, List.set_cons_zero, List.set_cons_succ, List.getElem_toArray, List.getElem_cons_zero, List.getElem_cons_succ]
      refine wpAnyH_take (i := 6) (v := ?_) rfl (by kernel_rfl) (by kernel_rfl) (by kernel_rfl) (fun _ _ _ h => h) (Or.inl ⟨by rfl, ?_⟩) (by assumption) ?_
      rotate_left
      · intro w hSw; go_split_ands; go_simp; try with_reducible rfl
      try simp only [Act.put, List.setIfInBounds_toArray, List.set_cons_zero, List.set_cons_succ, List.getElem_toArray, List.getElem_cons_zero, List.getElem_cons_succ]
      refine wpAnyH_take (i := 7) (v := ?_) rfl (by kernel_rfl) (by kernel_rfl) (by kernel_rfl) (fun _ _ _ h => h) (Or.inl ⟨by rfl, ?_⟩) (by assumption) ?_
      rotate_left
      · intro w hSw; go_split_ands; go_simp; try with_reducible rfl
      try simp only [Act.put, List.setIfInBounds_toArray, List.set_cons_zero, List.set_cons_succ, List.getElem_toArray, List.getElem_cons_zero, List.getElem_cons_succ]
      refine wpAnyH_take (i := 9) (v := ?_) rfl (by kernel_rfl) (by kernel_rfl) (by kernel_rfl) (fun _ _ _ h => h) (Or.inl ⟨by rfl, ?_⟩) (by assumption) ?_
      rotate_left
      · intro w hSw; go_split_ands; go_simp; try with_reducible rfl
      try simp only [Act.put, List.setIfInBounds_toArray, List.set_cons_zero, List.set_cons_succ, List.getElem_toArray, List.getElem_cons_zero, List.getElem_cons_succ]
      have JJ := JB
      obtain ⟨d0, d1, d2, d3, df, -, -, -⟩ := id JJ
      have f0 := df 0
      have f1 := df 1
      have f2 := df 2
      have f3 := df 3
      refine wpAnyH_ready (rs := [10]) (by kernel_rfl) (by simp) ?_
      refine AllReadyH.cons rfl (fun K hK => ?_) AllReadyH.nil
      go_simp
      have QQ := JJ.put 2 8 3 0
      unfold put4 at QQ
      refine hK.out _ _ (bx5 KV.out (QQ.old)) (fun hHeld => ?_)
      clear hK K
      try simp only [Act.put, List.setIfInBounds_toArray, List.set_cons_zero, List.set_cons_succ, List.getElem_toArray, List.getElem_cons_zero, List.getElem_cons_succ]
      refine wpAnyH_take (i := 11) (v := ?_) rfl (by kernel_rfl) (by kernel_rfl) (by kernel_rfl) (fun _ _ _ h => h) (Or.inl ⟨by rfl, ?_⟩) (by assumption) ?_
      rotate_left
      · intro w hSw; go_split_ands; go_simp; try with_reducible rfl
      try simp only [Act.put, List.setIfInBounds_toArray, List.set_cons_zero, List.set_cons_succ, List.getElem_toArray, List.getElem_cons_zero, List.getElem_cons_succ]
      refine wpAnyH_done (by kernel_rfl) ?_ _
      go_wp2_with fail
      go_meet
      exact ⟨rfl, ⟨_, rfl, QQ.c1, QQ.lt⟩, rfl, QQ.old⟩
  obtain ⟨rfl, ⟨p, rfl, hp1, hpl⟩, rfl, hb20⟩ := hcut
  have K20 := Lib.hid (K19.out.on hb20)
  have HS20 := Lib.hid (HS19.out.on hb20)
  have HCELL20 := Lib.hid ((hb20.cell (p := ⟨gp, 0, none⟩) HGL19.out).trans HCELL19.out)
  have HGL20 := Lib.hid (Nat.lt_of_lt_of_le HGL19.out hb20.size)
  have HI20 := Lib.hid (HI19.out.on hb20)
  have HP1 := Lib.hid hp1
  have HPL := Lib.hid hpl
  obtain ⟨v20, hv20⟩ : ∃ v, v = wc := ⟨_, rfl⟩
  subst hv20
  clear hb20 hp1 hpl b0 b1 b2 c3 c4 hb0 KV B1 B8 B18 B81 I1 I18 I81 J18 J81 K19 HS19 HCELL19 HGL19 HI19
  have HALL : Hid (∀ w', Below v20.heap.size v20 w' → w'.cell? ⟨g, 0, none⟩ = some (.int .i64 2) ∧ w'.cell? ⟨g, 1, none⟩ = some (.int .i64 32) ∧ w'.cell? ⟨g, 2, none⟩ = some (.int .i64 16) ∧ w'.cell? ⟨g, 3, none⟩ = some (.slice A 32 ca) ∧ w'.cell? ⟨g, 4, none⟩ = some (.slice C 16 cc) ∧ w'.cell? ⟨gp, 0, none⟩ = some (.slice PB 3 pbc) ∧ w'.cell? ⟨p, 1, none⟩ = some (.int .i64 8) ∧ Below v20.heap.size v20 w') := Lib.hid fun w' h => by
    obtain ⟨b0, b1, b2, c3, c4, -⟩ := bx5 K20.out h
    exact ⟨b0, b1, b2, c3, c4, (h.cell (p := ⟨gp, 0, none⟩) HGL20.out).trans HCELL20.out, (h.cell (p := ⟨p, 1, none⟩) HPL.out).trans HP1.out, h⟩
  have WG := Lib.hid fun w1 (h : Below v20.heap.size v20 w1) => (sgood_is (w := w1) (HS20.out.on h) nst_good).mono fun e w' ⟨he, hb⟩ => (⟨he, HALL.out w' (below_on h hb)⟩ : _ ∧ _)
  have WI := Lib.hid fun w1 (N : Nat) (h : Below v20.heap.size v20 w1) (hi : IntsAt w1 w1.heap.size (some ⟨N, 0, none⟩) [2, 1, 1]) => (fints_is (w := w1) (a := 3) (b := 3) (c := pbc) (d := 3) rfl rfl (by omega) (HI20.out.on h) hi (by rfl : ([2, 1, 1] == [2, 1, 1]) = true)).mono fun e w' ⟨he, hb⟩ => (⟨he, HALL.out w' (below_on h hb)⟩ : _ ∧ _)
  have WR0 := Lib.hid fun w1 (h : Below v20.heap.size v20 w1) => (freach_is (w := w1) (t := 0) (HS20.out.on h)).mono fun e w' ⟨RA, rc, he, hl, hri, hb⟩ => (⟨RA, rc, he.trans (by rw [kf_r0]; rfl), by rw [kf_r0] at hri; exact hri, hb, HALL.out w' (below_on h hb)⟩ : ∃ RA rc, e = Ending.returned (.slice RA 12 rc) ∧ IntsAt w' w'.heap.size RA [0, 1, 2, 3, 4, 5, 6, 7, 16, 17, 18, 19] ∧ Below w1.heap.size w1 w' ∧ _)
  have WR1 := Lib.hid fun w1 (h : Below v20.heap.size v20 w1) => (freach_is (w := w1) (t := 1) (HS20.out.on h)).mono fun e w' ⟨RA, rc, he, hl, hri, hb⟩ => (⟨RA, rc, he.trans (by rw [kf_r1]; rfl), by rw [kf_r1] at hri; exact hri, hb, HALL.out w' (below_on h hb)⟩ : ∃ RA rc, e = Ending.returned (.slice RA 8 rc) ∧ IntsAt w' w'.heap.size RA [8, 9, 10, 11, 12, 13, 14, 15] ∧ Below w1.heap.size w1 w' ∧ _)
  have WJ0 := Lib.hid fun w1 (RA RB : Option Addr) (rc rd : Nat) (h : Below v20.heap.size v20 w1) (ha : IntsAt w1 w1.heap.size RA [0, 1, 2, 3, 4, 5, 6, 7, 16, 17, 18, 19]) (hi : IntsAt w1 w1.heap.size RB [0, 1, 2, 3, 4, 5, 6, 7, 16, 17, 18, 19]) => (fints_is (w := w1) (a := 12) (b := 12) (c := rc) (d := rd) rfl rfl (by omega) ha hi (by rfl : ([0, 1, 2, 3, 4, 5, 6, 7, 16, 17, 18, 19] == [0, 1, 2, 3, 4, 5, 6, 7, 16, 17, 18, 19]) = true)).mono fun e w' ⟨he, hb⟩ => (⟨he, HALL.out w' (below_on h hb)⟩ : _ ∧ _)
  have WJ1 := Lib.hid fun w1 (RA RB : Option Addr) (rc rd : Nat) (h : Below v20.heap.size v20 w1) (ha : IntsAt w1 w1.heap.size RA [8, 9, 10, 11, 12, 13, 14, 15]) (hi : IntsAt w1 w1.heap.size RB [8, 9, 10, 11, 12, 13, 14, 15]) => (fints_is (w := w1) (a := 8) (b := 8) (c := rc) (d := rd) rfl rfl (by omega) ha hi (by rfl : ([8, 9, 10, 11, 12, 13, 14, 15] == [8, 9, 10, 11, 12, 13, 14, 15]) = true)).mono fun e w' ⟨he, hb⟩ => (⟨he, HALL.out w' (below_on h hb)⟩ : _ ∧ _)
  have L2 : Hid (∀ X : World, IntsAt (X.alloc (.cells #[.int .i64 2, .int .i64 1, .int .i64 1] 3)) (X.alloc (.cells #[.int .i64 2, .int .i64 1, .int .i64 1] 3)).heap.size (some ⟨X.heap.size, 0, none⟩) [2, 1, 1]) := Lib.hid fun X => lit_ints X _ 3 _ rfl
  have L0 : Hid (∀ X : World, IntsAt (X.alloc (.cells #[.int .i64 0, .int .i64 1, .int .i64 2, .int .i64 3, .int .i64 4, .int .i64 5, .int .i64 6, .int .i64 7, .int .i64 16, .int .i64 17, .int .i64 18, .int .i64 19] 3)) (X.alloc (.cells #[.int .i64 0, .int .i64 1, .int .i64 2, .int .i64 3, .int .i64 4, .int .i64 5, .int .i64 6, .int .i64 7, .int .i64 16, .int .i64 17, .int .i64 18, .int .i64 19] 3)).heap.size (some ⟨X.heap.size, 0, none⟩) [0, 1, 2, 3, 4, 5, 6, 7, 16, 17, 18, 19]) := Lib.hid fun X => lit_ints X _ 3 _ rfl
  have L1 : Hid (∀ X : World, IntsAt (X.alloc (.cells #[.int .i64 8, .int .i64 9, .int .i64 10, .int .i64 11, .int .i64 12, .int .i64 13, .int .i64 14, .int .i64 15] 3)) (X.alloc (.cells #[.int .i64 8, .int .i64 9, .int .i64 10, .int .i64 11, .int .i64 12, .int .i64 13, .int .i64 14, .int .i64 15] 3)).heap.size (some ⟨X.heap.size, 0, none⟩) [8, 9, 10, 11, 12, 13, 14, 15]) := Lib.hid fun X => lit_ints X _ 3 _ rfl
  obtain ⟨b0, b1, b2, c3, c4, q5, q6, hb0⟩ := HALL.out v20 (below_self v20)
  go_wp2_with fail
  refine (WG.out _ hb0).mono ?_
  rintro e v21 ⟨rfl, x0, x1, x2, x3, x4, x5, x6, hb1⟩
  clear b0 b1 b2 c3 c4 q5 q6
  have hb2 := bal (o := .cells #[.int .i64 2, .int .i64 1, .int .i64 1] 3) hb1
  go_wp2_with fail
  refine (WI.out _ _ hb2 (L2.out v21)).mono ?_
  rintro e v22 ⟨rfl, y0, y1, y2, y3, y4, y5, y6, hb3⟩
  clear x0 x1 x2 x3 x4 x5 x6
  go_wp2_with fail
  refine (WR0.out _ hb3).mono ?_
  rintro e v23 ⟨RA, rc, rfl, xi, xb, x0, x1, x2, x3, x4, x5, x6, hb4⟩
  clear y0 y1 y2 y3 y4 y5 y6
  go_wp2_with fail
  refine (WJ0.out _ _ _ _ _ (bal hb4) (xi.on (below_alloc _ _)) (L0.out v23)).mono ?_
  rintro e v24 ⟨rfl, y0, y1, y2, y3, y4, y5, y6, hb5⟩
  clear x0 x1 x2 x3 x4 x5 x6 xi xb
  go_wp2_with fail
  refine (WR1.out _ hb5).mono ?_
  rintro e v25 ⟨RB, rd, rfl, xi, xb, x0, x1, x2, x3, x4, x5, x6, hb6⟩
  clear y0 y1 y2 y3 y4 y5 y6
  go_wp2_with fail
  refine (WJ1.out _ _ _ _ _ (bal hb6) (xi.on (below_alloc _ _)) (L1.out v25)).mono ?_
  rintro e v26 ⟨rfl, y0, y1, y2, y3, y4, y5, y6, hb7⟩
  go_wp2
  go_ret
  exact ⟨rfl, below_on K20.out.old hb7⟩
end Go.Proofs.YtmcgnjhjidfkdaaGreat
