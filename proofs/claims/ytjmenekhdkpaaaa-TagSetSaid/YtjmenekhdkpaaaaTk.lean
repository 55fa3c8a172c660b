/-
  The walk of the law TagSet: it answers true. Condition: the fields lie in memory.
-/
import Derived.Test.YtjmenekhdkpaaaaTj
namespace Go.Proofs.Ytjmenekhdkpaaaa
open Go.RowKit

theorem fits_set {l : List Fd} {z v i : Nat} {x : Fd} (hx : l[i]? = some x) : Fits l ((gets z l).set i v) ↔ v < 2 ^ x.n.toNat := by
  induction l generalizing i with
  | nil => simp at hx
  | cons y ys ih =>
    cases i with
    | zero =>
      simp at hx; subst hx
      show (v < 2 ^ y.n.toNat ∧ Fits ys (gets z ys)) ↔ _
      exact ⟨fun h => h.1, fun h => ⟨h, fits_gets z ys⟩⟩
    | succ i =>
      show (y.get z < 2 ^ y.n.toNat ∧ Fits ys ((gets z ys).set i v)) ↔ _
      rw [ih (by simpa using hx)]
      exact ⟨fun h => h.2, fun h => ⟨y.get_lt z, h⟩⟩
theorem putL_le {l : List Fd} : ∀ {v : List Nat}, Sep l → Fits l v → putL l v ≤ top := by
  induction l with
  | nil => intro v _ _; cases v <;> exact Nat.zero_le _
  | cons x xs ih =>
    intro v hs hf
    cases v with
    | nil => exact Nat.zero_le _
    | cons v vs =>
      obtain ⟨f, n, rfl, h1, h2⟩ := inw_nat hs.1
      exact or_top (shl_word (n := n) hf.1 h2) (ih hs.2.2 hf.2)
theorem set_no {l : List Fd} {z v i : Nat} {x : Fd} (hg : good l = true) (hx : l[i]? = some x) (hv : ¬ v < 2 ^ x.n.toNat) : put l ((gets z l).set i v) = none := by
  unfold put
  rw [if_pos ⟨hg, by unfold gets; simp⟩, putFrom_none _ _ _ (fun h => hv ((fits_set hx).1 h))]
theorem set_yes {l : List Fd} {z v i : Nat} {x : Fd} (hg : good l = true) (hx : l[i]? = some x) (hv : v < 2 ^ x.n.toNat) :
    ∃ a, put l ((gets z l).set i v) = some a ∧ a ≤ top ∧ gets (a ||| (z &&& (top - mask l))) l = (gets z l).set i v := by
  have hs := (good_iff l).1 hg
  have hf : Fits l ((gets z l).set i v) := (fits_set hx).2 hv
  refine ⟨putL l ((gets z l).set i v), ?_, putL_le hs hf, ?_⟩
  · unfold put
    rw [if_pos ⟨hg, by unfold gets; simp⟩, putFrom_fits _ _ _ hf, Nat.zero_or]
  · refine gets_put l _ _ hs hf (by unfold gets; simp) ?_
    rw [Nat.and_comm]
    have := and_not_and (w := z) hs.mask_le top
    rw [disj_iff] at this ⊢
    intro j hj
    refine this j ?_
    rw [Nat.testBit_and, hj, Bool.and_true, show top = 2 ^ 64 - 1 by decide, Nat.testBit_two_pow_sub_one]
    have : ¬ 64 ≤ j := fun h => by rw [lt_test (n := 64) (by have := hs.mask_le; unfold top at this; omega) h] at hj; cases hj
    simp; omega

theorem ucells_get {l : List Nat} {j z : Nat} (h : l[j]? = some z) : (ucells l)[j]? = some (.int .u64 (z : Int)) := by
  unfold ucells; simp [h]
theorem ucells_length (l : List Nat) : (ucells l).length = l.length := by unfold ucells; simp
theorem ucells_one (l : List Nat) : ∀ u ∈ ucells l, u.oneCell' = true := by
  intro u hu
  obtain ⟨x, _, rfl⟩ := List.mem_map.1 hu
  rfl
theorem ucells_set (l : List Nat) (i v : Nat) : (ucells l).set i (.int .u64 (v : Int)) = ucells (l.set i v) := by unfold ucells; rw [List.map_set]
theorem words_of_owns {w : World} {B g n cap : Nat} {e : TypeId} {l : List Nat} (hn : n = l.length) (h : w.ownsRow B e 1 (.slice (some ⟨g, 0, none⟩) n cap) n (ucells l)) (hg : g < w.heap.size) : WordsAt w w.heap.size (some ⟨g, 0, none⟩) l := fun _ =>
  ⟨g, 0, rfl, hg, fun j z hz => by
    rw [Nat.zero_add, h.cellAt j (by have := (List.getElem?_eq_some_iff.1 hz).1; omega), ucells_get hz]⟩

set_option maxHeartbeats 1000000 in
theorem set_in (A : Option Addr) (cap : Nat) (l : List Fd) (z i v : Nat) (x : Fd) (w : World) (hz : z ≤ top) (hv : v ≤ top) (hx : l[i]? = some x) (h70 : l.length ≤ 70) (hg : good l = true) (hL : FdsAt w w.heap.size A l) :
    Calls Try.prog 6 #[.slice A l.length cap, .int .u64 (z : Int), .int .i64 (i : Int), .int .u64 (v : Int)] w fun e w' => e = .returned (.bool true) ∧ Below w.heap.size w w' := by
  have LL := Lib.hid hL
  obtain ⟨n, hn⟩ : ∃ n, n = l.length := ⟨_, rfl⟩
  rw [← hn] at h70 ⊢
  have HN := Lib.hid hn
  have HZ := Lib.hid hz
  have HX := Lib.hid hx
  have HG := Lib.hid hg
  have hi : i < n := by rw [hn]; exact (List.getElem?_eq_some_iff.1 hx).1
  have HI := Lib.hid hi
  have d1 : decide ((70 : Int) < (n : Int)) = false := by simp; omega
  have d2 : decide ((i : Int) < 0) = false := by simp
  have d3 : decide ((n : Int) ≤ (i : Int)) = false := by simp; omega
  have HL : Hid (n ≤ 1000000) := Lib.hid (by omega)
  obtain ⟨gs, hgs⟩ : ∃ gs, gs = gets z l := ⟨_, rfl⟩
  have G1 : Hid (gotten z l = gs) := Lib.hid (by unfold gotten; rw [if_pos hg, hgs])
  have HGT : Hid (∀ y ∈ gs, y ≤ top) := Lib.hid (by rw [hgs]; exact gets_le hz)
  have HGL : Hid (n = gs.length) := Lib.hid (by rw [hgs]; unfold gets; simp [hn])
  have HGS := Lib.hid hgs
  have HST : Hid (∀ y ∈ gs.set i v, y ≤ top) := Lib.hid (by
    intro y hy
    rcases List.mem_or_eq_of_mem_set hy with h | h
    · exact HGT.out y h
    · rw [h]; exact hv)
  have HSL : Hid (n = (gs.set i v).length) := Lib.hid (by rw [List.length_set]; exact HGL.out)
  obtain ⟨i0, hii, hz0, hz1, hz2⟩ := info27_parts
  clear hgs hn hL hz hx hg
  go_enter Try.func6, Try.ntmps6
  go_wp2_with fail
  refine (awake_any _).mono ?_
  rintro e w1 ⟨rfl, hb⟩
  have HB := Lib.hid hb
  have L1 := Lib.hid (LL.out.grow hb)
  clear hb
  go_wp2_with fail
  refine (good_yes HN.out HL.out L1.out HG.out).mono ?_
  rintro e w2 ⟨rfl, hb⟩
  have HB2 := Lib.hid (below_on HB.out hb)
  have L2 := Lib.hid (L1.out.grow hb)
  clear hb
  go_wp2_with fail
  refine (get_at HZ.out HN.out HL.out L2.out G1.out).mono ?_
  rintro e w3 ⟨v3, rfl, hv, hb⟩
  obtain ⟨A3, cap3, rfl, hv3⟩ := words_len hv
  rw [← HGL.out]
  have HB3 := Lib.hid (below_on HB2.out hb)
  have L3 := Lib.hid (L2.out.grow hb)
  obtain ⟨g3, o3, rfl, hg3, hc3⟩ := hv3 (by rw [← HGL.out]; omega)
  have HS : Hid (w3.heap.size ≤ (w3.alloc (.cells #[] 27)).heap.size) := Lib.hid (by simp)
  have HOW : Hid (Bld w3 (w3.alloc (.cells #[] 27)) 27 1 (.slice (some ⟨w3.heap.size, 0, none⟩) 0 0) 0 []) := Lib.hid ⟨World.ownsRow_lit w3 #[] 0 (Nat.le_refl _) (Nat.zero_le _) rfl, below_alloc _ _⟩
  have HNEW : Hid (∀ j u, (ucells gs)[j]? = some u → (w3.alloc (.cells #[] 27)).cell? ((⟨g3, o3, none⟩ : Addr).add j) = some u) := Lib.hid (fun j u hu => by
    rw [Addr.add_mid, (below_alloc w3 _).cell (p := ⟨g3, _, none⟩) hg3]
    unfold ucells at hu
    rw [List.getElem?_map] at hu
    cases hq : gs[j]? with
    | none => rw [hq] at hu; cases hu
    | some q =>
      rw [hq] at hu
      rw [hc3 j q hq]; exact hu)
  have HCL : Hid ((ucells gs).length = n * 1) := Lib.hid (by rw [ucells_length, ← HGL.out]; omega)
  clear hb hv hv3 hc3 hg3
  go_wp2_with (at_builtin; refine wpList_append_lies _ rfl _ _ 31 rfl w3.heap.size 27 i0 (.int .u64 0) 1 8 Try.underlying31 hii hz0 hz1 hz2 rfl (by decide) _ 0 [] rfl HOW.out.own ⟨g3, o3, none⟩ n cap3 (ucells gs) rfl HCL.out HNEW.out (ucells_one gs) ?c0 ?c3 ?c4 HS.out _ rfl ?_)
  case c0 => omega
  case c3 => unfold maxLen; omega
  case c4 => omega
  intro g gcap w4 hown hgrow _ hglt
  have hb4 := HOW.out.more hgrow hown
  obtain ⟨y, hy⟩ : ∃ y, gs[i]? = some y := ⟨gs[i]'(by rw [← HGL.out]; exact HI.out), List.getElem?_eq_getElem _⟩
  have c1 : w4.cell? ⟨g, i, none⟩ = some (.int .u64 (y : Int)) := by rw [hb4.own.cellAt i (by have := HI.out; omega), ucells_get hy]
  have c2 : w4.frozen? ⟨g, i, none⟩ = false := hb4.own.frozenAt i
  obtain ⟨s1, s2⟩ := hb4.own.stored i (.int .u64 (v : Int))
  have hb5 := hb4.more s2 s1
  rw [ucells_set] at hb5
  have hg5 : g < (w4.setCell ⟨g, i, none⟩ (.int .u64 (v : Int))).heap.size := by simpa [World.setCell] using hglt
  have V5 := Lib.hid (words_of_owns HSL.out hb5.own hg5)
  have L5 := Lib.hid (L3.out.grow hb5.old)
  have HB5 := Lib.hid (below_on HB3.out hb5.old)
  clear hown hgrow hglt hb4 hb5 hy s1 s2 hg5
  go_wp2_with fail
  by_cases hfit : v < 2 ^ x.n.toNat
  · obtain ⟨a, p1, p2, p3⟩ := set_yes (z := z) HG.out HX.out hfit
    rw [← HGS.out] at p1 p3
    obtain ⟨r, hr⟩ : ∃ r, r = z &&& (top - mask l) := ⟨_, rfl⟩
    have hrt : r ≤ top := by rw [hr]; exact Nat.le_trans Nat.and_le_left HZ.out
    have P1 := Lib.hid p1
    have P2 : Hid (rest z l = r) := Lib.hid (by rw [hr]; exact (back_plain HG.out HZ.out).2.1)
    rw [← hr] at p3
    have P3 : Hid (gotten (a ||| r) l = gs.set i v) := Lib.hid (by unfold gotten; rw [if_pos HG.out, p3])
    have P4 : Hid (a ||| r ≤ top) := Lib.hid (or_top p2 hrt)
    have HO : Hid (bits .or .u64 (a : Int) (r : Int) = ((a ||| r : Nat) : Int)) := Lib.hid (bits_or_u64_nat _ _ (by unfold top at p2; omega) (by unfold top at hrt; omega))
    clear p1 p2 p3 hr hrt hfit
    refine (put_at HN.out HSL.out HL.out HL.out L5.out V5.out HST.out P1.out).mono ?_
    rintro e w6 ⟨rfl, hb⟩
    have HB6 := Lib.hid (below_on HB5.out hb)
    have L6 := Lib.hid (L5.out.grow hb)
    have V6 := Lib.hid (V5.out.grow hb)
    clear hb
    go_wp2_with fail
    refine (rest_at HZ.out HN.out HL.out L6.out P2.out).mono ?_
    rintro e w7 ⟨rfl, hb⟩
    have HB7 := Lib.hid (below_on HB6.out hb)
    have L7 := Lib.hid (L6.out.grow hb)
    have V7 := Lib.hid (V6.out.grow hb)
    clear hb
    go_wp2_with fail
    rw [HO.out]
    refine (get_at P4.out HN.out HL.out L7.out P3.out).mono ?_
    rintro e w8 ⟨v8, rfl, hv8, hb⟩
    have HB8 := Lib.hid (below_on HB7.out hb)
    have V8 := Lib.hid (V7.out.grow hb)
    have U8 := Lib.hid hv8
    clear hb hv8
    go_wp2_with fail
    refine (words_same _ _ (gs.set i v) _ U8.out ⟨_, _, by rw [HSL.out], V8.out⟩ (by rw [← HSL.out]; exact HL.out)).mono ?_
    rintro e w9 ⟨rfl, hb⟩
    have HB9 := Lib.hid (below_on HB8.out hb)
    clear hb
    go_wp2
    go_ret
    exact ⟨rfl, HB9.out⟩
  · have P1 : Hid (put l (gs.set i v) = none) := Lib.hid (by rw [HGS.out]; exact set_no HG.out HX.out hfit)
    obtain ⟨f, k, hxe, k1, k2⟩ := inw_nat (good_inw HG.out HX.out)
    subst hxe
    have hk : k < 64 := by
      refine Nat.lt_of_not_le fun h => hfit ?_
      have h2 : (2 : Nat) ^ 64 ≤ 2 ^ k := Nat.pow_le_pow_right (by decide) h
      have hk2 : (⟨(f : Int), (k : Int)⟩ : Fd).n.toNat = k := rfl
      rw [hk2]
      unfold top at hv
      omega
    have hq : ((v : Int) / 2 ^ k != 0) = true := by
      have e : (v : Int) / 2 ^ k = ((v / 2 ^ k : Nat) : Int) := by simp
      rw [e]
      have : 0 < v / 2 ^ k := Nat.div_pos (Nat.le_of_not_lt hfit) (Nat.two_pow_pos _)
      simp; omega
    have hk3 : (k : Int) < 64 := by omega
    have hk4 : (0 : Int) ≤ (k : Int) := by omega
    refine (put_off HN.out HSL.out HL.out HL.out L5.out V5.out HST.out P1.out).mono ?_
    rintro e w6 ⟨rfl, hb⟩
    have HB6 := Lib.hid (below_on HB5.out hb)
    have L6 := Lib.hid (L5.out.grow hb)
    obtain ⟨bb, oo, rfl, _, hc⟩ := L6.out (by rw [← HN.out]; omega)
    obtain ⟨c3, c4⟩ := hc i _ HX.out
    clear hb hc hfit hv
    go_wp2_with fail
    go_ret
    exact ⟨rfl, HB6.out⟩

set_option maxHeartbeats 1000000 in
theorem set_other (A : Option Addr) (cap : Nat) (l : List Fd) (z : Nat) (i v : Int) (w : World) (h : ¬ (l.length ≤ 70 ∧ good l = true ∧ 0 ≤ i ∧ i < (l.length : Int))) (hL : FdsAt w w.heap.size A l) :
    Calls Try.prog 6 #[.slice A l.length cap, .int .u64 (z : Int), .int .i64 i, .int .u64 v] w fun e w' => e = .returned (.bool true) ∧ Below w.heap.size w w' := by
  have LL := Lib.hid hL
  obtain ⟨n, hn⟩ : ∃ n, n = l.length := ⟨_, rfl⟩
  rw [← hn] at h ⊢
  have HN := Lib.hid hn
  have HH := Lib.hid h
  clear hn hL h
  by_cases h70 : n ≤ 70
  · have d1 : decide ((70 : Int) < (n : Int)) = false := by simp; omega
    have HL : Hid (n ≤ 1000000) := Lib.hid (by omega)
    have H70 := Lib.hid h70
    clear h70
    cases hg : good l
    · have HG := Lib.hid hg
      clear hg
      go_enter Try.func6, Try.ntmps6
      go_wp2_with fail
      refine (awake_any _).mono ?_
      rintro e w1 ⟨rfl, hb⟩
      have HB := Lib.hid hb
      have L1 := Lib.hid (LL.out.grow hb)
      clear hb
      go_wp2_with fail
      refine (good_no HN.out HL.out L1.out HG.out).mono ?_
      rintro e w2 ⟨rfl, hb⟩
      have HB2 := Lib.hid (below_on HB.out hb)
      clear hb
      go_wp2
      go_ret
      exact ⟨rfl, HB2.out⟩
    · have HG := Lib.hid hg
      clear hg
      have hd : decide (i < 0) = true ∨ (decide (i < 0) = false ∧ decide ((n : Int) ≤ i) = true) := by
        by_cases h0 : i < 0
        · exact Or.inl (by simp; omega)
        · refine Or.inr ⟨by simp; omega, ?_⟩
          by_cases h1 : (n : Int) ≤ i
          · simp; omega
          · exact absurd ⟨H70.out, HG.out, by omega, by omega⟩ HH.out
      rcases hd with d2 | ⟨d2, d3⟩
      · go_enter Try.func6, Try.ntmps6
        go_wp2_with fail
        refine (awake_any _).mono ?_
        rintro e w1 ⟨rfl, hb⟩
        have HB := Lib.hid hb
        have L1 := Lib.hid (LL.out.grow hb)
        clear hb
        go_wp2_with fail
        refine (good_yes HN.out HL.out L1.out HG.out).mono ?_
        rintro e w2 ⟨rfl, hb⟩
        have HB2 := Lib.hid (below_on HB.out hb)
        clear hb
        go_wp2
        go_ret
        exact ⟨rfl, HB2.out⟩
      · go_enter Try.func6, Try.ntmps6
        go_wp2_with fail
        refine (awake_any _).mono ?_
        rintro e w1 ⟨rfl, hb⟩
        have HB := Lib.hid hb
        have L1 := Lib.hid (LL.out.grow hb)
        clear hb
        go_wp2_with fail
        refine (good_yes HN.out HL.out L1.out HG.out).mono ?_
        rintro e w2 ⟨rfl, hb⟩
        have HB2 := Lib.hid (below_on HB.out hb)
        clear hb
        go_wp2
        go_ret
        exact ⟨rfl, HB2.out⟩
  · have d1 : decide ((70 : Int) < (n : Int)) = true := by simp; omega
    go_enter Try.func6, Try.ntmps6
    go_wp2_with fail
    refine (awake_any _).mono ?_
    rintro e w1 ⟨rfl, hb⟩
    have HB := Lib.hid hb
    clear hb
    go_wp2
    go_ret
    exact ⟨rfl, HB.out⟩

theorem set_walk (A : Option Addr) (cap : Nat) (l : List Fd) (x i y : Int) (w : World) (_hl : l.length ≤ maxLen) (hL : FdsAt w w.heap.size A l) (w1 : (Lit.int .u64 x).wf = true) (w3 : (Lit.int .u64 y).wf = true) :
    Calls Try.prog 6 #[.slice A l.length cap, .int .u64 x, .int .i64 i, .int .u64 y] w fun e w' => e = .returned (.bool true) ∧ Below w.heap.size w w' := by
  obtain ⟨z, rfl, hz⟩ := word_of w1
  obtain ⟨v, rfl, hv⟩ := word_of w3
  by_cases h : l.length ≤ 70 ∧ good l = true ∧ 0 ≤ i ∧ i < (l.length : Int)
  · obtain ⟨h1, h2, h3, h4⟩ := h
    obtain ⟨i, rfl⟩ := Int.eq_ofNat_of_zero_le h3
    exact set_in A cap l z i v _ w hz hv (List.getElem?_eq_getElem (show i < l.length by omega)) h1 h2 hL
  · exact set_other A cap l z i v w h hL
end Go.Proofs.Ytjmenekhdkpaaaa
