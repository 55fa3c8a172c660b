/-
  The walk of the reference's PathGet. Condition: the number is a word.
-/
import Derived.Test.YtfcifheejjppfaaDoorHl
import Derived.Laws.AppendOwn
import Derived.Laws.OwnMore
import Derived.Laws.AppendOwnNone
namespace Go.Proofs.YtfcifheejjppfaaDoor
open Go.RowKit

/-- a list of the call's own; all that was there is as it was -/
structure Bi (W w : World) (v : Value) (l : List Int) : Prop where
  own : w.ownsRow W.heap.size 3 1 v l.length (icells l)
  old : Below W.heap.size W w
section
variable {W w w' : World} {v v' : Value} {l l' : List Int}
theorem Bi.alloc (h : Bi W w v l) (ob : Obj) : Bi W (w.alloc ob) v l := ⟨h.own.alloc ob, h.old.alloc h.old.size _⟩
theorem Bi.more (h : Bi W w v l) (hg : w.grownBy w' v.ownBlock) (ho : w'.ownsRow W.heap.size 3 1 v' l'.length (icells l')) : Bi W w' v' l' :=
  ⟨ho, h.old.grown hg h.old.size fun k hk => (h.own.lt k hk).1⟩
theorem Bi.ints (h : Bi W w v l) : ∃ A cap, v = .slice A l.length cap ∧ IntsAt w w.heap.size A l := by
  have ho := h.own
  rcases ho.2 with ⟨rfl, h0⟩ | ⟨g, cap, cur, rfl, hb, hg, h1, h2, h3, h4⟩
  · exact ⟨none, 0, by rw [h0], fun hp => absurd hp (by omega)⟩
  · refine ⟨some ⟨g, 0, none⟩, cap, rfl, fun _ => ⟨g, 0, rfl, (Array.getElem?_eq_some_iff.1 hg).1, fun j x hx => ?_⟩⟩
    have hj : j < l.length := (List.getElem?_eq_some_iff.1 hx).1
    have := ho.cellAt j (by omega)
    rw [Nat.zero_add, this, icells, List.getElem?_map, hx]
    rfl
end
theorem icells_append (l m : List Int) : icells (l ++ m) = icells l ++ icells m := List.map_append
theorem digs_succ : ∀ (n v : Nat), digs (n + 1) v = digs n v ++ [((v / 16 ^ n % 16 : Nat) : Int)]
  | 0, v => by simp [digs]
  | n + 1, v => by
    rw [digs, digs_succ n (v / 16), digs, Nat.div_div_eq_div_mul, Nat.pow_succ, Nat.mul_comm 16]
    rfl
/-- one number in memory, as a list -/
theorem one_new (w : World) (z : Int) : ∀ j u, [Value.int .i64 z][j]? = some u → (w.alloc (.cells #[.int .i64 z] 3)).cell? ((⟨w.heap.size, 0, none⟩ : Addr).add j) = some u := fun j u hu => by
  rw [Addr.add_mid, Nat.zero_add, cell_of_row _ _ j _ _ _ (heap_alloc_new w _), ← hu]
  simp
theorem one_plain (z : Int) : ∀ u ∈ [Value.int .i64 z], u.oneCell' = true := by
  intro u hu
  simp at hu
  subst hu
  rfl

def RGetRel (W : World) (n z : Nat) (k : Nat) (p q r : Value) (wr : World) : Prop :=
  ∃ i : Nat, k + i = n ∧ Bi W wr p (digs i (z / 16)) ∧ q = .int .u64 ((z / 16 / 16 ^ i : Nat) : Int) ∧ r = .int .i64 i

set_option maxHeartbeats 2000000 in
theorem rpget_any (z : Nat) (hz : z < 18446744073709551616) (w : World) : Calls Tryd.prog 32 #[.int .u64 (z : Int)] w fun e w' => ∃ A cap, e = .returned (.tuple #[.slice A ((pget z).getD []).length cap, .bool (pget z).isSome]) ∧ IntsAt w' w'.heap.size A ((pget z).getD []) ∧ Below w.heap.size w w' ∧ ∀ a, A = some a → w.heap.size ≤ a.block := by
  obtain ⟨n, hn⟩ : ∃ n, n = z % 16 := ⟨_, rfl⟩
  obtain ⟨y, hy⟩ : ∃ y, y = z / 16 := ⟨_, rfl⟩
  have h1 : (z : Int) % 16 = (n : Int) := by omega
  have h2 : (z : Int) / 16 = (y : Int) := by omega
  have h3 : IntKind.i64.wrap (n : Int) = (n : Int) := i64_in (by omega) (by omega)
  have h4 : IntKind.u64.wrap (y : Int) = (y : Int) := u64_in (by omega) (by omega)
  have HN := Lib.hid hn
  have HY := Lib.hid hy
  have HZ := Lib.hid hz
  have H0 : Hid (Bi w w (.slice none 0 0) []) := Lib.hid ⟨World.ownsRow_nil _ _ _ _, Below.refl _ _⟩
  clear hn hy hz
  go_enter Tryd.func32, Tryd.ntmps32
  go_wp2_with fail
  go_loopg [4, 6, 7] n (fun k p q r wr => RGetRel w n z k p q r wr)
  case atStart => exact ⟨0, by omega, H0.out, by rw [Nat.pow_zero, Nat.div_one, HY.out], rfl⟩
  case round =>
    obtain ⟨i, hk, hb, rfl, rfl⟩ := hrel
    have HK := Lib.hid hk
    clear hk H0
    obtain ⟨x, hx⟩ : ∃ x, x = z / 16 / 16 ^ i := ⟨_, rfl⟩
    rw [← hx]
    have HX := Lib.hid hx
    clear hx h1 h2 h3 h4
    by_cases hlt : i < n
    · have HLT := Lib.hid hlt
      have hlt2 : (i : Int) < (n : Int) := by omega
      obtain ⟨d, hd⟩ : ∃ d, d = x % 16 := ⟨_, rfl⟩
      obtain ⟨y2, hy2⟩ : ∃ y, y = x / 16 := ⟨_, rfl⟩
      have h1 : (x : Int) % 16 = (d : Int) := by omega
      have h2 : (x : Int) / 16 = (y2 : Int) := by omega
      have h3 : IntKind.i64.wrap (d : Int) = (d : Int) := i64_in (by omega) (by omega)
      have hx64 : x < 18446744073709551616 := by
        have h1 := Nat.div_le_self z 16
        have h2 := Nat.div_le_self (z / 16) (16 ^ i)
        have := HX.out
        have := HZ.out
        omega
      have h4 : IntKind.u64.wrap (y2 : Int) = (y2 : Int) := u64_in (by omega) (by omega)
      have HD : Hid (digs (i + 1) (z / 16) = digs i (z / 16) ++ [(d : Int)]) := Lib.hid (by rw [digs_succ, hd, HX.out])
      have HY2 : Hid (y2 = z / 16 / 16 ^ (i + 1)) := Lib.hid (by rw [hy2, HX.out, Nat.pow_succ, Nat.div_div_eq_div_mul])
      have HB1 := Lib.hid (hb.alloc (.cells #[.int .i64 (d : Int)] 3))
      have HNEW := Lib.hid (one_new wr d)
      have HS : Hid (w.heap.size ≤ (wr.alloc (.cells #[.int .i64 (d : Int)] 3)).heap.size) := Lib.hid HB1.out.old.size
      obtain ⟨i0, hii, hz0, hz1, hz2⟩ := info3_parts
      have HONE := Lib.hid (one_plain d)
      have hq : (digs i (z / 16)).length ≤ 15 := by rw [digs_length]; have := HN.out; omega
      clear hd hy2 hb hx64
      go_wp2_with (at_builtin; refine wpList_append_own _ rfl _ _ 23 rfl w.heap.size 3 i0 (.int .i64 0) 1 8 Tryd.underlying23 hii hz0 hz1 hz2 rfl (by decide) _ _ _ rfl HB1.out.own ⟨wr.heap.size, 0, none⟩ 1 1 [.int .i64 d] rfl rfl HNEW.out HONE.out ?c3 ?c4 HS.out ?_)
      case c3 => unfold maxLen; omega
      case c4 => omega
      intro v' w4 hown hgrow _
      have HB2 := Lib.hid (HB1.out.more (l' := digs (i + 1) (z / 16)) hgrow (by rw [HD.out, icells_append, List.length_append]; exact hown))
      clear hown hgrow HB1 HNEW HS HONE hq
      go_wp2
      go_roundg (n - (i + 1))
      case measure => have := HK.out; have := HLT.out; omega
      case rel => exact ⟨i + 1, by have := HLT.out; omega, HB2.out, by rw [HY2.out], (by refine congrArg _ ?_; have := HN.out; have := HLT.out; unfold wrap64; omega)⟩
    · have hin : i = n := by have := HK.out; omega
      subst hin
      have ho := hb.old
      have hown := hb.own.lt
      obtain ⟨A, cap, rfl, hi⟩ := hb.ints
      have HLO : Hid (∀ a, A = some a → w.heap.size ≤ a.block) := Lib.hid fun a e => (hown a.block (by rw [e]; rfl)).1
      clear hown
      rw [digs_length]
      have HO := Lib.hid ho
      have HI := Lib.hid hi
      have HL : Hid (i = (digs i (z / 16)).length) := Lib.hid (digs_length i _).symm
      have h15 : i ≤ 1000000 := by have := HN.out; omega
      clear hb hi ho hlt
      rcases hp : pgood (digs i (z / 16)) with _ | _
      · go_wp2_with fail
        refine (rgood_is HL.out h15 HI.out hp).mono ?_
        rintro e w2 ⟨rfl, hb⟩
        have HE : Hid (pget z = none) := Lib.hid (by rw [pget, ← HN.out, hp]; rfl)
        have HO2 := Lib.hid (below_on HO.out hb)
        clear hb hp
        go_wp2
        go_ret2
        rw [HE.out]
        exact ⟨none, 0, rfl, fun h => absurd h (by simp), HO2.out, fun a e => by cases e⟩
      · go_wp2_with fail
        refine (rgood_is HL.out h15 HI.out hp).mono ?_
        rintro e w2 ⟨rfl, hb⟩
        have HO2 := Lib.hid (below_on HO.out hb)
        have HI2 := Lib.hid (HI.out.on hb)
        by_cases hx0 : x = 0
        · have HE : Hid (pget z = some (digs i (z / 16))) := Lib.hid (by
            have hw := (pword_digs z).2 (by rw [← HN.out, ← HX.out]; exact hx0)
            rw [← HN.out] at hw
            rw [pget, ← HN.out, if_pos hp, if_pos hw])
          subst hx0
          clear hb hp
          go_wp2
          go_ret2
          rw [HE.out]
          exact ⟨A, cap, by rw [Option.getD_some, ← HL.out]; rfl, HI2.out, HO2.out, HLO.out⟩
        · have HE : Hid (pget z = none) := Lib.hid (by
            have hw : ¬ pword (digs (z % 16) (z / 16)) = z := fun e => hx0 (by rw [HX.out, HN.out]; exact (pword_digs z).1 e)
            rw [← HN.out] at hw
            rw [pget, ← HN.out, if_pos hp, if_neg hw])
          have hx0' : ¬ (x : Int) = 0 := by omega
          clear hb hp hx0
          go_wp2
          go_ret2
          rw [HE.out]
          exact ⟨none, 0, rfl, fun h => absurd h (by simp), HO2.out, fun a e => by cases e⟩
end Go.Proofs.YtfcifheejjppfaaDoor
