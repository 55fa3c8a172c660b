/-
  The walk of the reference's GetFields. Condition: the pairs lie in memory, at most a million.
-/
import Derived.Test.YtjmenekhdkpaaaaTo
namespace Go.Proofs.Ytjmenekhdkpaaaa
open Go.RowKit

theorem ucells_get' {l : List Nat} {j z : Nat} (h : l[j]? = some z) : (ucells l)[j]? = some (.int .u64 (z : Int)) := by
  unfold ucells; simp [h]
theorem ucells_append (a b : List Nat) : ucells a ++ ucells b = ucells (a ++ b) := by unfold ucells; simp
theorem words_of_own {w : World} {B : Nat} {e : TypeId} {v : Value} {n : Nat} {l : List Nat} (hn : n = l.length) (h : w.ownsRow B e 1 v n (ucells l)) : Words w v l := by
  subst hn
  rcases h.2 with ⟨rfl, h0⟩ | ⟨g, cap, cur, rfl, hb, hg, h1, h2, h3, h4⟩
  · exact ⟨none, 0, by rw [h0], fun hp => absurd hp (by omega)⟩
  · refine ⟨some ⟨g, 0, none⟩, cap, rfl, fun _ => ⟨g, 0, rfl, (Array.getElem?_eq_some_iff.1 hg).1, fun j z hz => ?_⟩⟩
    rw [Nat.zero_add, h.cellAt j (by have := (List.getElem?_eq_some_iff.1 hz).1; omega), ucells_get' hz]
theorem gets_succ {z : Nat} {l : List Fd} {i : Nat} {x : Fd} (h : l[i]? = some x) : gets z (l.take (i + 1)) = gets z (l.take i) ++ [x.get z] := by
  unfold gets
  rw [List.take_add_one, h, List.map_append]
  rfl
theorem bit_at {z n : Nat} {a : Int} (hz : z ≤ top) (hn : n < 64) (ha : a = (n : Int)) {b : Bool} (hb : z.testBit n = b) (w : World) :
    Calls Try.prog 27 #[.int .u64 (z : Int), .int .i64 a] w fun e w' => e = .returned (.bool b) ∧ w = w' := by
  subst ha hb
  exact bit_any z n hz hn w
theorem mod_yes {x j : Nat} (h : x.testBit j = true) : x % 2 ^ (j + 1) = x % 2 ^ j + 2 ^ j := by
  rw [Nat.testBit_eq_decide_div_mod_eq] at h
  rw [Nat.mod_pow_succ, of_decide_eq_true h, Nat.mul_one]
theorem mod_no {x j : Nat} (h : x.testBit j = false) : x % 2 ^ (j + 1) = x % 2 ^ j := by
  rw [Nat.testBit_eq_decide_div_mod_eq] at h
  have := of_decide_eq_false h
  have h2 : x / 2 ^ j % 2 = 0 := by omega
  rw [Nat.mod_pow_succ, h2, Nat.mul_zero, Nat.add_zero]

theorem Bld.keep {W w w' : World} {e : TypeId} {s : Nat} {v : Value} {n : Nat} {xs : List Value} (h : Bld W w e s v n xs) (hb : Below w.heap.size w w') : Bld W w' e s v n xs := by
  refine ⟨⟨h.own.1, ?_⟩, below_on h.old hb⟩
  rcases h.own.2 with h0 | ⟨g, cap, cur, e1, hb1, hg, h1, h2, h3, h4⟩
  · exact Or.inl h0
  · exact Or.inr ⟨g, cap, cur, e1, hb1, (hb.block g (Array.getElem?_eq_some_iff.1 hg).1).trans hg, h1, h2, h3, h4⟩

def GetORel (W : World) (n z : Nat) (l : List Fd) (k : Nat) (p q : Value) (wr : World) : Prop :=
  ∃ i : Nat, k + i = n ∧ q = .int .i64 i ∧ Bld W wr 27 1 p i (ucells (gets z (l.take i))) ∧ (good l = false → i = 0)
def GetIRel (W : World) (m z f i : Nat) (l : List Fd) (v : Value) (k : Nat) (p q : Value) (wr : World) : Prop :=
  ∃ j : Nat, k + j = m ∧ p = .int .u64 ((z / 2 ^ f % 2 ^ j : Nat) : Int) ∧ q = .int .i64 j ∧ Bld W wr 27 1 v i (ucells (gets z (l.take i)))

set_option maxHeartbeats 2000000 in
theorem getf_any (z : Nat) (A : Option Addr) (cap : Nat) (l : List Fd) (w : World) (hz : z ≤ top) (hl : l.length ≤ 1000000) (hL : FdsAt w w.heap.size A l) :
    Calls Try.prog 22 #[.int .u64 (z : Int), .slice A l.length cap] w fun e w' => ∃ v, e = .returned v ∧ Words w' v (gotten z l) ∧ Below w.heap.size w w' := by
  have LL := Lib.hid hL
  obtain ⟨n, hn⟩ : ∃ n, n = l.length := ⟨_, rfl⟩
  rw [← hn] at hl ⊢
  have HN := Lib.hid hn
  have HZ := Lib.hid hz
  clear hn hL hz
  have H0 : Hid (Bld w w 27 1 (.slice none 0 0) 0 []) := Lib.hid ⟨World.ownsRow_nil _ _ _ _, Below.refl _ _⟩
  go_enter Try.func22, Try.ntmps22
  go_wp2_with fail
  go_loopg [5, 6] n (fun k p q wr => GetORel w n z l k p q wr)
  case atStart => exact ⟨0, by omega, rfl, by simpa [gets, ucells] using H0.out, fun _ => rfl⟩
  case round =>
    obtain ⟨i, hk, rfl, hb, hgz⟩ := hrel
    have HK := Lib.hid hk
    have HB := Lib.hid hb
    have HGZ := Lib.hid hgz
    have LR := Lib.hid ((LL.out.below hb.old).mono hb.old.size)
    clear hk hb hgz H0
    by_cases hlt : i < n
    · have HLT := Lib.hid hlt
      have hlt2 : (i : Int) < (n : Int) := by omega
      cases hg : good l
      · have HG := Lib.hid hg
        clear hg
        go_wp2_with fail
        refine (fields_no HN.out hl LR.out HG.out).mono ?_
        rintro e w1 ⟨rfl, hb⟩
        have HB1 := Lib.hid (below_on HB.out.old hb)
        have HBW := Lib.hid (HB.out.keep hb)
        clear hb
        go_wp2_with fail
        go_ret
        refine ⟨_, rfl, ?_, HB1.out⟩
        have hgt : gotten z l = [] := by unfold gotten; rw [if_neg (by rw [HG.out]; decide)]
        have h1 := HBW.out.own
        have h2 := HGZ.out HG.out
        subst h2
        rw [hgt]
        exact words_of_own (l := []) rfl h1
      · have HG := Lib.hid hg
        clear hg
        go_wp2_with fail
        refine (fields_yes HN.out hl LR.out HG.out).mono ?_
        rintro e w1 ⟨rfl, hb⟩
        have HBW := Lib.hid (HB.out.keep hb)
        clear hb
        obtain ⟨b, o, rfl, hblk, hc⟩ := LL.out (by rw [← HN.out]; omega)
        obtain ⟨x, hx⟩ : ∃ x, l[i]? = some x := ⟨l[i]'(by rw [← HN.out]; exact hlt), List.getElem?_eq_getElem _⟩
        have HX := Lib.hid hx
        have HC := Lib.hid (hc i x hx)
        have HBL := Lib.hid hblk
        obtain ⟨f, m, hxe, h1, h2⟩ := inw_nat (good_inw HG.out hx)
        subst hxe
        clear hc hblk hx
        go_wp2_with fail
        go_loopg [7, 8] m (fun k p q wr => GetIRel w m z f i l u5 k p q wr)
        case atStart => exact ⟨0, by omega, by simp [Nat.mod_one], rfl, HBW.out⟩
        case round =>
          obtain ⟨j, hk, rfl, rfl, hb⟩ := hrel
          have HK2 := Lib.hid hk
          have HB2 := Lib.hid hb
          obtain ⟨c1, c2⟩ := HC.out
          rw [← hb.old.cell (p := ⟨b, _, none⟩) HBL.out] at c1 c2
          obtain ⟨y, hy⟩ : ∃ y, z / 2 ^ f % 2 ^ j = y := ⟨_, rfl⟩
          have HY := Lib.hid hy
          rw [hy]
          clear hk hb hy HBW
          by_cases hj : j < m
          · have HJ := Lib.hid hj
            have hj2 : (j : Int) < (m : Int) := by omega
            have hfj : f + j < 64 := by omega
            have HFJ := Lib.hid hfj
            have hj64 : j < 64 := by omega
            have HJ64 := Lib.hid hj64
            cases htb : z.testBit (f + j)
            · have HTB := Lib.hid htb
              clear htb
              go_wp2_with fail
              refine (bit_at HZ.out HFJ.out (by simp) HTB.out _).mono ?_
              rintro e w' ⟨rfl, rfl⟩
              go_wp2_with fail
              go_roundg (m - (j + 1))
              case measure => have := HK2.out; have := HJ.out; omega
              case rel =>
                refine ⟨j + 1, by have := HJ.out; omega, ?_, by go_num, HB2.out⟩
                have e1 : (z / 2 ^ f).testBit j = false := by rw [Nat.testBit_div_two_pow, Nat.add_comm]; exact HTB.out
                rw [mod_no e1, HY.out]
            · have HTB := Lib.hid htb
              obtain ⟨pj, hpj⟩ : ∃ pj, 2 ^ j = pj := ⟨_, rfl⟩
              have HPJ := Lib.hid hpj
              clear htb hpj
              go_wp2_with fail
              refine (bit_at HZ.out HFJ.out (by simp) HTB.out _).mono ?_
              rintro e w' ⟨rfl, rfl⟩
              go_wp2_with fail
              refine (two_at HJ64.out HPJ.out _).mono ?_
              rintro e w' ⟨rfl, rfl⟩
              go_wp2_with fail
              go_roundg (m - (j + 1))
              case measure => have := HK2.out; have := HJ.out; omega
              case rel =>
                refine ⟨j + 1, by have := HJ.out; omega, ?_, by go_num, HB2.out⟩
                have e1 : (z / 2 ^ f).testBit j = true := by rw [Nat.testBit_div_two_pow, Nat.add_comm]; exact HTB.out
                have e2 := mod_yes e1
                rw [HY.out, HPJ.out] at e2
                have e3 : z / 2 ^ f % 2 ^ (j + 1) ≤ z := Nat.le_trans (Nat.mod_le _ _) (Nat.div_le_self _ _)
                have hz := HZ.out
                rw [e2] at e3 ⊢
                rw [IntKind.wrap_u64]
                unfold top at hz
                congr 1
                omega
          · have hjm : j = m := by have := HK2.out; omega
            subst hjm
            have HYG : Hid (y = (⟨f, j⟩ : Fd).get z) := Lib.hid HY.out.symm
            have hb2 := HB2.out.alloc (.cells #[.int .u64 (y : Int)] 27)
            have HB3 := Lib.hid hb2
            have hnew : ∀ q u, [Value.int .u64 (y : Int)][q]? = some u → (wr.alloc (.cells #[.int .u64 (y : Int)] 27)).cell? ((⟨wr.heap.size, 0, none⟩ : Addr).add q) = some u := fun q u hu => by
              rw [Addr.add_mid, Nat.zero_add, cell_of_row _ _ q _ _ _ (heap_alloc_new wr _), ← hu]; simp
            have HNEW := Lib.hid hnew
            have HS : Hid (w.heap.size ≤ (wr.alloc (.cells #[.int .u64 (y : Int)] 27)).heap.size) := Lib.hid HB3.out.old.size
            have HONE : Hid (∀ u ∈ [Value.int .u64 (y : Int)], u.oneCell' = true) := Lib.hid (by intro u hu; simp at hu; subst hu; rfl)
            obtain ⟨i0, hii, hz0, hz1, hz2⟩ := info27_parts
            clear hb2 hnew
            go_wp2_with (at_builtin; refine wpList_append_own _ rfl _ _ 31 rfl w.heap.size 27 i0 (.int .u64 0) 1 8 Try.underlying31 hii hz0 hz1 hz2 rfl (by decide) _ i (ucells (gets z (l.take i))) rfl HB3.out.own ⟨wr.heap.size, 0, none⟩ 1 1 [.int .u64 (y : Int)] rfl rfl HNEW.out HONE.out ?c3 ?c4 HS.out ?_)
            case c3 => unfold maxLen; omega
            case c4 => omega
            intro v' w4 hown hgrow _
            have HB4 := Lib.hid (HB3.out.more hgrow hown)
            clear hown hgrow
            go_wp2
            go_roundg (n - (i + 1))
            case measure => have := HK.out; have := HN.out; have := HLT.out; omega
            case rel =>
              have hb4 := HB4.out
              rw [show [Value.int .u64 (y : Int)] = ucells [y] from rfl, ucells_append, HYG.out, ← gets_succ HX.out] at hb4
              exact ⟨i + 1, by have := HN.out; have := HLT.out; omega, by go_num, hb4, fun h => by rw [HG.out] at h; cases h⟩
    · go_wp2
      go_ret
      refine ⟨_, rfl, ?_, HB.out.old⟩
      have hi : i = l.length := by have := HK.out; have := HN.out; omega
      have hown := HB.out.own
      rw [List.take_of_length_le (by omega)] at hown
      have hgt : gotten z l = gets z l := by
        unfold gotten
        cases hg : good l
        · have h0 := HGZ.out hg
          have : l = [] := List.length_eq_zero_iff.1 (by omega)
          subst this; rfl
        · rfl
      rw [hgt]
      exact words_of_own (by unfold gets; simp [hi]) hown
end Go.Proofs.Ytjmenekhdkpaaaa
