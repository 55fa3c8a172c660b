/-
  The texts Eg, Eh, Fc, Fd, Fe, Ff of this seat, one behind the other. Conditions: as each theorem says.
-/
import Derived.Test.YtfoklgenpafciaaB2
import Derived.Deep.RegionLaw
import Derived.Deep.AppendLies
import Derived.Lib.SliceRun
import Derived.StillTailTactics
namespace Go.Proofs.Ytfoklgenpafciaa
open Go.RowKit

/-- the places before k that are picked, and k if it has been met -/
def withK (u : List Nat) (k : Nat) (b : Bool) : List Int := toInts (if b = true then u ++ [k] else u)
def RB2 (W : World) (l : List Int) (u : List Nat) (k m : Nat) (f : Nat) (v q : Value) (wr : World) : Prop :=
  ∃ (z : Int) (b : Bool), (ups l z).length = f ∧ q = .int .i64 z ∧ z < l.length ∧ Bi W wr v (withK u k b) ∧ (above l k).contains m = (b || (ups l z).contains m) ∧ (b = true → m ∉ ups l z)
theorem fu_top {l : List Int} (h : Fo l) (k : Nat) : fu l k < l.length := by
  rcases neg_or (fu l k) with h0 | h0
  · omega
  · have := h.up k (fu l k).toNat (by omega)
    omega

theorem pick_more (p : Nat → Bool) {i n : Nat} (h : i ≤ n) : ∃ r, pick p n = pick p i ++ r := by
  induction h with
  | refl => exact ⟨[], by simp⟩
  | @step m _ ih =>
    obtain ⟨r, hr⟩ := ih
    cases hm : p m with
    | true => exact ⟨r ++ [m], by rw [pick_yes hm, hr, List.append_assoc]⟩
    | false => exact ⟨r, by rw [pick_no hm, hr]⟩
theorem flat_more {g : Nat → List Nat} {p : Nat → Bool} {i n : Nat} (h : i ≤ n) : ((pick p i).flatMap g).length ≤ ((pick p n).flatMap g).length := by
  obtain ⟨r, hr⟩ := pick_more p h
  rw [hr, List.flatMap_append, List.length_append]
  omega
def RDownRel (W : World) (n : Nat) (l : List Int) (f i : Nat) (pre : List Int) (k : Nat) (v q : Value) (wr : World) : Prop :=
  ∃ j : Nat, k + j = n ∧ Bi W wr v (pre ++ toInts (i :: (pick (fun k => decide (fu l k = (i : Int))) j).flatMap (down l f))) ∧ q = .int .i64 j

def ROrdRel (W : World) (n : Nat) (l : List Int) (k : Nat) (v q : Value) (wr : World) : Prop :=
  ∃ j : Nat, k + j = n ∧ Bi W wr v (toInts ((pick (fun k => decide (fu l k = -1)) j).flatMap (down l n))) ∧ q = .int .i64 j
end Go.Proofs.Ytfoklgenpafciaa
namespace Go.Proofs.Ytfoklgenpafciaa
open Go.RowKit

theorem add_plain' (b o j : Nat) : (⟨b, o, none⟩ : Addr).add j = ⟨b, o + j, none⟩ := Addr.add_mid b o j
/-- what a call that changes a forest answers -/
def Gives (w w' : World) (e : Ending) (r : Option (List Int)) : Prop := ∃ B cb, e = .returned (.tuple #[.slice B (r.getD []).length cb, .bool r.isSome]) ∧ IntsAt w' w'.heap.size B (r.getD []) ∧ Below w.heap.size w w'

/-- of the first j places those that name one are changed -/
def chg (l : List Int) (i x : Int) (j : Nat) : List Int := (l.take j).map (fun y => if y = i then x else y) ++ l.drop j
theorem chg_length (l : List Int) (i x : Int) (j : Nat) : (chg l i x j).length = l.length := by
  simp [chg]
  omega
theorem chg_at {l : List Int} (i x : Int) {j : Nat} (hj : j < l.length) : (chg l i x j)[j]? = some (fu l j) := by
  rw [chg, List.getElem?_append_right (by simp; omega)]
  have : ((l.take j).map fun y => if y = i then x else y).length = j := by simp; omega
  rw [this, Nat.sub_self, List.getElem?_drop, Nat.add_zero]
  exact fu_get hj
theorem chg_zero (l : List Int) (i x : Int) : chg l i x 0 = l := by simp [chg]
theorem chg_succ {l : List Int} (i x : Int) {j : Nat} (hj : j < l.length) : chg l i x (j + 1) = (chg l i x j).set j (if fu l j = i then x else fu l j) := by
  have h1 : ((l.take j).map fun y => if y = i then x else y).length = j := by simp; omega
  have h2 : l.drop j = fu l j :: l.drop (j + 1) := by
    have := fu_get hj
    obtain ⟨hi, e⟩ := List.getElem?_eq_some_iff.1 this
    rw [← e]
    exact List.drop_eq_getElem_cons hi
  rw [chg, chg, List.set_append_right _ _ (by omega), h1, Nat.sub_self, h2, List.set_cons_zero, List.take_add_one, fu_get hj, Option.toList_some, List.map_append, List.append_assoc]
  rfl
theorem chg_same {l : List Int} {i x : Int} {j : Nat} (hj : j < l.length) (h : fu l j ≠ i) : chg l i x (j + 1) = chg l i x j := by
  rw [chg_succ i x hj, if_neg h]
  refine List.ext_getElem? fun k => ?_
  by_cases e : k = j
  · subst e
    rw [List.getElem?_set_self (by rw [chg_length]; exact hj), chg_at i x hj]
  · rw [List.getElem?_set_ne (fun q => e q.symm)]
theorem chg_all (l : List Int) (i x : Int) : chg l i x l.length = l.map fun y => if y = i then x else y := by simp [chg]

def RChgRel (W : World) (n g cb : Nat) (l : List Int) (i x : Int) (k : Nat) (p : Value) (wr : World) : Prop :=
  ∃ j : Nat, k + j = n ∧ Bi W wr (.slice (some ⟨g, 0, none⟩) n cb) (chg l i x j) ∧ p = .int .i64 j
/-- these places are emptied -/
def cut (l : List Int) (bs : List Nat) : List Int := bs.foldl (fun a b => a.set b (-2)) l
theorem cut_length : ∀ (bs : List Nat) (l : List Int), (cut l bs).length = l.length
  | [], _ => rfl
  | b :: bs, l => by rw [cut, List.foldl_cons, ← cut, cut_length bs, List.length_set]
theorem cut_snoc (l : List Int) (bs : List Nat) (b : Nat) : cut l (bs ++ [b]) = (cut l bs).set b (-2) := by rw [cut, List.foldl_append]; rfl
theorem fu_cut : ∀ (bs : List Nat) (l : List Int), (∀ b ∈ bs, b < l.length) → ∀ k, fu (cut l bs) k = if k ∈ bs then -2 else fu l k
  | [], l, _, k => by simp [cut]
  | b :: bs, l, h, k => by
    rw [cut, List.foldl_cons, ← cut, fu_cut bs _ (fun x hx => by rw [List.length_set]; exact h x (List.mem_cons_of_mem _ hx)) k, fu_set (h b (List.mem_cons_self ..))]
    by_cases e : k ∈ bs
    · simp [e]
    · by_cases e2 : k = b <;> simp [e, e2]
theorem cut_below {l : List Int} (i : Nat) : cut l (belowN l i) = pruneL l i := by
  refine fu_ext (by rw [cut_length, prune_length]) fun k hk => ?_
  rw [cut_length] at hk
  rw [fu_cut _ _ (fun b hb => by rw [belowN, List.mem_filter, List.mem_range] at hb; exact hb.1), fu_prune]
  have : k ∈ belowN l i ↔ i ∈ above l k := by
    rw [belowN, List.mem_filter, List.mem_range, List.contains_iff_mem]
    exact ⟨fun h => h.2, fun h => ⟨hk, h⟩⟩
  by_cases e : i ∈ above l k
  · rw [if_pos (this.2 e), if_pos e]
  · rw [if_neg (fun h => e (this.1 h)), if_neg e]
def CellsOf (D : Option Addr) (L : List Int) (w : World) : Prop := ∀ gd, D = some ⟨gd, 0, none⟩ → ∀ (j : Nat) (x : Int), L[j]? = some x → w.cell? ⟨gd, j, none⟩ = some (.int .i64 x)
def RCutRel (W : World) (n g cb q : Nat) (l : List Int) (bs : List Nat) (D : Option Addr) (k : Nat) (p : Value) (wr : World) : Prop :=
  ∃ j : Nat, k + j = q ∧ Bi W wr (.slice (some ⟨g, 0, none⟩) n cb) (cut l (bs.take j)) ∧ p = .int .i64 j ∧ CellsOf D (toInts bs) wr
end Go.Proofs.Ytfoklgenpafciaa
namespace Go.Proofs.Ytfoklgenpafciaa
open Go.RowKit

/-- what is above something is nothing, or something -/
theorem fo_next {l : List Int} (h : Fo l) {m : Nat} (hm : fu l m ≠ -2) : fu l m = -1 ∨ ∃ j : Nat, fu l m = j ∧ j < l.length ∧ fu l j ≠ -2 := by
  rcases neg_or (fu l m) with h0 | h0
  · have := h.low m
    exact .inl (by omega)
  · obtain ⟨j, hj⟩ : ∃ j : Nat, fu l m = j := ⟨(fu l m).toNat, by omega⟩
    exact .inr ⟨j, hj, h.up m j hj⟩
def PDepRel (W : World) (l : List Int) (A : Option Addr) (n cap g d : Nat) (k : Nat) (p q : Value) (wr : World) : Prop :=
  ∃ (c : Nat) (z : Int), k + c = d ∧ p = .int .i64 c ∧ q = .int .i64 z ∧ (ups l z).length = k ∧ (z = -1 ∨ ∃ j : Nat, z = j ∧ j < l.length ∧ fu l j ≠ -2) ∧ Pbx W wr g (.slice A n cap)
def PIsBRel (W : World) (l : List Int) (A : Option Addr) (n cap g i m : Nat) (k : Nat) (q : Value) (wr : World) : Prop :=
  ∃ (z : Int), q = .int .i64 z ∧ (ups l z).length = k ∧ z < l.length ∧ (above l i).contains m = (ups l z).contains m ∧ Pbx W wr g (.slice A n cap)
end Go.Proofs.Ytfoklgenpafciaa
namespace Go.Proofs.Ytfoklgenpafciaa
open Go.RowKit

/-! ### in order -/
/-- from one world to a later one: what lies in blocks other than v's own is as it was, and the later list is none of these -/
def Apart (w : World) (v : Value) (w' : World) (v' : Value) : Prop :=
  w.heap.size ≤ w'.heap.size ∧ ∀ g, g < w.heap.size → v.ownBlock ≠ some g → v'.ownBlock ≠ some g ∧ w'.cell? ⟨g, 0, none⟩ = w.cell? ⟨g, 0, none⟩
theorem Apart.refl (w : World) (v : Value) : Apart w v w v := ⟨Nat.le_refl _, fun _ _ h => ⟨h, rfl⟩⟩
theorem Apart.trans {a b c : World} {u v x : Value} (h : Apart a u b v) (k : Apart b v c x) : Apart a u c x :=
  ⟨Nat.le_trans h.1 k.1, fun g hg hn => by
    obtain ⟨h1, h2⟩ := h.2 g hg hn
    obtain ⟨k1, k2⟩ := k.2 g (Nat.lt_of_lt_of_le hg h.1) h1
    exact ⟨k1, k2.trans h2⟩⟩
theorem Apart.below {w w' : World} {v : Value} (hb : Below w.heap.size w w') : Apart w v w' v := ⟨hb.size, fun g hg hn => ⟨hn, hb.cell (p := ⟨g, 0, none⟩) hg⟩⟩
theorem Apart.grown {w w' : World} {v : Value} {g' n cap : Nat} (hg : w.grownBy w' v.ownBlock) (hat : v.ownBlock = some g' ∨ g' = w.heap.size) : Apart w v w' (.slice (some ⟨g', 0, none⟩) n cap) :=
  ⟨hg.size, fun g hlt hn => ⟨fun e => by
    have e' : g' = g := by simpa [Value.ownBlock] using e
    subst e'
    rcases hat with h | h
    · exact hn h
    · omega, World.cell?_of_block (hg.block g hlt (fun e => hn e.symm))⟩⟩

def PDownRel (W : World) (n : Nat) (l : List Int) (f : Nat) (of : Int) (A : Option Addr) (cap : Nat) (w : World) (v0 : Value) (pre : List Int) (k : Nat) (v q : Value) (wr : World) : Prop :=
  ∃ j : Nat, k + j = n ∧ Bi W wr v (pre ++ toInts ((pick (fun k => decide (fu l k = of)) j).flatMap (down l f))) ∧ q = .int .i64 j ∧ wr.cell? ⟨w.heap.size, 0, none⟩ = some (.slice A n cap) ∧ w.heap.size < wr.heap.size ∧ v.ownBlock ≠ some w.heap.size ∧ Apart w v0 wr v

end Go.Proofs.Ytfoklgenpafciaa
namespace Go.Proofs.Ytfoklgenpafciaa
open Go.RowKit

set_option maxHeartbeats 2000000 in
theorem clone_is {b o n cap : Nat} {l : List Int} {w : World} (hn : n = l.length) (hn6 : n ≤ 1000000) (hc : ∀ k, k < n → w.cell? ⟨b, o + k, none⟩ = some (.int .i64 (fu l k))) (hb : b < w.heap.size) :
    Calls Try.prog 121 #[.slice (some ⟨b, o, none⟩) n cap] w fun e w' => ∃ v, e = .returned v ∧ Bi w w' v l := by
  have HN := Lib.hid hn
  have HB0 : Hid (Bi w (w.alloc (.cells #[] 3)) (.slice (some ⟨w.heap.size, 0, none⟩) 0 0) []) :=
    Lib.hid ⟨World.ownsRow_lit w _ 0 (Nat.le_refl _) (Nat.zero_le _) rfl, below_alloc _ _⟩
  have HNEW : Hid (∀ j u, (icells l)[j]? = some u → (w.alloc (.cells #[] 3)).cell? ((⟨b, o, none⟩ : Addr).add j) = some u) := Lib.hid fun j u hu => by
    rw [icells, List.getElem?_map, Option.map_eq_some_iff] at hu
    obtain ⟨x, hx, rfl⟩ := hu
    rw [add_plain', HB0.out.old.cell (p := ⟨b, _, none⟩) hb, hc j (by rw [hn]; exact (List.getElem?_eq_some_iff.1 hx).1), fu_at hx]
  have HSZ : Hid (w.heap.size ≤ (w.alloc (.cells #[] 3)).heap.size) := Lib.hid HB0.out.old.size
  obtain ⟨i0, hii, hz0, hz1, hz2⟩ := info3_parts
  have HONE : Hid (∀ u ∈ icells l, u.oneCell' = true) := Lib.hid fun u hu => by
    obtain ⟨x, _, rfl⟩ := List.mem_map.1 hu
    rfl
  have HLEN : Hid ((icells l).length = n * 1) := Lib.hid (by rw [icells, List.length_map, HN.out, Nat.mul_one])
  have q23 : ∀ (w : World) (a : Option Addr) (n c : Nat), (binOp .eql 33 (.slice a n c) (.slice none 0 0)).run Try.prog w = .ok (.bool a.isNone) w := fun w a n c => Lib.run_eql_slice_nil w 33 3 a n c 0 0 Try.underlying33
  clear hn hc hb
  go_enter Try.func121, Try.ntmps121
  go_wp2_with (at_builtin; refine wpList_append_own _ rfl _ _ 33 rfl w.heap.size 3 i0 (.int .i64 0) 1 8 Try.underlying33 hii hz0 hz1 hz2 rfl (by decide) _ _ _ rfl HB0.out.own ⟨b, o, none⟩ n cap (icells l) rfl HLEN.out HNEW.out HONE.out ?c3 ?c4 HSZ.out ?_)
  case c3 => unfold maxLen; simp; omega
  case c4 => simp; omega
  intro v5 w5 hown hgrow _
  have hB : Bi w w5 v5 l := HB0.out.more (l' := l) hgrow (by
    rw [HN.out] at hown
    exact hown)
  have HB := Lib.hid hB
  clear hown hgrow HB0 HNEW HSZ HONE HLEN hB
  go_wp2
  go_ret
  exact ⟨_, rfl, HB.out⟩

set_option maxHeartbeats 2000000 in
theorem rehang_is {A : Option Addr} {n cap : Nat} {l : List Int} {i x : Int} {w : World} (h0 : 0 < n) (hn : n = l.length) (hn6 : n ≤ 1000000) (hL : IntsAt w w.heap.size A l) :
    Calls Try.prog 117 #[.agg #[.slice A n cap], .int .i64 i, .int .i64 x] w fun e w' => ∃ v, e = .returned v ∧ Bi w w' v (l.map fun y => if y = i then x else y) := by
  have HN := Lib.hid hn
  have HPOS := Lib.hid h0
  have H6 := Lib.hid hn6
  have hK := Pbx.new w (.slice A n cap) 74
  have c0 := hK.c
  obtain ⟨b, o, rfl, hblk, hc⟩ := at_open hL (by omega)
  have HC : Hid (b < w.heap.size ∧ ∀ k, k < n → w.cell? ⟨b, o + k, none⟩ = some (.int .i64 (fu l k))) := Lib.hid ⟨hblk, fun k hk => hc k (by rw [← HN.out]; exact hk)⟩
  clear hL hn hn6 hc hblk h0
  go_enter Try.func117, Try.ntmps117
  go_wp2_with fail
  generalize w.alloc (.cells #[.slice (some ⟨b, o, none⟩) n cap] 74) = w1 at hK c0 ⊢
  have K := Lib.hid hK
  clear hK
  go_wp2_with fail
  refine (clone_is (w := w1) HN.out H6.out (fun k hk => by rw [K.out.old.cell (p := ⟨b, _, none⟩) HC.out.1]; exact HC.out.2 k hk) (Nat.lt_of_lt_of_le HC.out.1 K.out.old.size)).mono ?_
  rintro e w2 ⟨v, rfl, hB⟩
  obtain ⟨g, cb, rfl, hg1, hg2, _, _⟩ := hB.block (fun e => by have := HPOS.out; have := HN.out; rw [e] at this; simp at this; omega)
  rw [← HN.out] at hB
  rw [← HN.out]
  have HB := Lib.hid hB
  have HG : Hid (w.heap.size ≤ g) := Lib.hid (by have := K.out.old.size; omega)
  clear hB c0 hg1 hg2
  go_wp2_with fail
  go_loopg [15] n (fun k p wr => RChgRel w1 n g cb l i x k p wr)
  case atStart => exact ⟨0, by omega, by rw [chg_zero]; exact HB.out, rfl⟩
  case round =>
    obtain ⟨j, hk, hb, rfl⟩ := hrel
    have HK := Lib.hid hk
    have HB2 := Lib.hid hb
    clear hk hb HB
    have hlen : n = (chg l i x j).length := by rw [chg_length]; exact HN.out
    obtain ⟨g', cb', e, _, _, hgc, hgf⟩ := HB2.out.block (fun e => by have := HPOS.out; rw [e, List.length_nil] at hlen; omega)
    rw [← hlen] at e
    injection e with e1 e2 e3
    injection e1 with e1
    injection e1 with e1
    subst e1
    subst e3
    clear e2
    by_cases hlt : j < n
    · have HLT := Lib.hid hlt
      have hlt2 : (j : Int) < (n : Int) := by omega
      have c1 := hgc j _ (chg_at i x (by rw [← HN.out]; exact hlt))
      have c2 := hgf j
      obtain ⟨y, hy⟩ : ∃ y, fu l j = y := ⟨_, rfl⟩
      rw [hy] at c1
      by_cases hym : y = i
      · have HS : Hid (chg l i x (j + 1) = (chg l i x j).set j x) := Lib.hid (by rw [chg_succ _ _ (by rw [← HN.out]; exact hlt), hy, if_pos hym])
        have HP := Lib.hid (HB2.out.put' hlen j x)
        subst hym
        clear hgc hgf hy hlen
        go_wp2
        go_roundg (n - (j + 1))
        case measure => have := HK.out; have := HLT.out; omega
        case rel => exact ⟨j + 1, by have := HLT.out; omega, by rw [HS.out]; exact HP.out, (by refine congrArg _ ?_; have := H6.out; have := HLT.out; first | rfl | (unfold wrap64; omega))⟩
      · have HS : Hid (chg l i x (j + 1) = chg l i x j) := Lib.hid (chg_same (by rw [← HN.out]; exact hlt) (by rw [hy]; exact hym))
        have h3 : (y == i) = false := by simp [hym]
        clear hgc hgf hy hlen
        go_wp2
        go_roundg (n - (j + 1))
        case measure => have := HK.out; have := HLT.out; omega
        case rel => exact ⟨j + 1, by have := HLT.out; omega, by rw [HS.out]; exact HB2.out, (by refine congrArg _ ?_; have := H6.out; have := HLT.out; first | rfl | (unfold wrap64; omega))⟩
    · have hin : j = n := by have := HK.out; omega
      have hal : chg l i x j = l.map fun y => if y = i then x else y := by rw [hin, HN.out, chg_all]
      have hlt2 : ¬ (j : Int) < (n : Int) := by omega
      have hP := HB2.out
      rw [hal] at hP
      have HP := Lib.hid hP
      clear hgc hgf hlen hlt hal hP HB2
      go_wp2
      go_ret
      exact ⟨_, rfl, ⟨HP.out.own.1, HP.out.own.2.imp id fun ⟨g, c, cur, e, h, r⟩ => ⟨g, c, cur, e, by have := K.out.old.size; omega, r⟩⟩, below_on K.out.old HP.out.old⟩

/-- a forest's box and a result's, the call's own; what was before stands -/
structure Pfr (W w : World) (v r : Value) : Prop where
  c : w.cell? ⟨W.heap.size, 0, none⟩ = some v
  d : w.cell? ⟨W.heap.size + 1, 0, none⟩ = some r
  df : w.frozen? ⟨W.heap.size + 1, 0, none⟩ = false
  old : Below W.heap.size W w
  lt : W.heap.size + 1 < w.heap.size
theorem Pfr.new (w : World) (v r : Value) (s t : TypeId) : Pfr w ((w.alloc (.cells #[v] s)).alloc (.cells #[r] t)) v r := by
  have b1 := below_alloc w (.cells #[v] s)
  have b2 := below_alloc (w.alloc (.cells #[v] s)) (.cells #[r] t)
  have s1 : (w.alloc (.cells #[v] s)).heap.size = w.heap.size + 1 := by simp
  have h1 := heap_alloc_new w (.cells #[v] s)
  have h2 := heap_alloc_new (w.alloc (.cells #[v] s)) (.cells #[r] t)
  have b3 := below_on b1 b2
  rw [s1] at h2 b2
  rw [← b2.block w.heap.size (by omega)] at h1
  refine ⟨?_, ?_, ?_, b3, ?_⟩
  · rw [cell_of_row _ _ 0 _ _ _ h1]; rfl
  · rw [cell_of_row _ _ 0 _ _ _ h2]; rfl
  · exact frozen_of_row _ _ 0 _ _ h2
  · simp
theorem Pfr.on {W w w' : World} {v r : Value} (h : Pfr W w v r) (hb : Below w.heap.size w w') : Pfr W w' v r := by
  have hlt := h.lt
  refine ⟨by rw [hb.cell (p := ⟨W.heap.size, 0, none⟩) (by show W.heap.size < _; omega)]; exact h.c, by rw [hb.cell (p := ⟨W.heap.size + 1, 0, none⟩) hlt]; exact h.d, ?_, below_on h.old hb, Nat.lt_of_lt_of_le hlt hb.size⟩
  rw [World.frozen?_of_block (hb.block _ hlt)]; exact h.df
theorem Pfr.no {W w : World} {v r : Value} (h : Pfr W w v r) : GivesF W (w.setCell ⟨W.heap.size + 1, 0, none⟩ (.slice none 0 0)) (.returned (.tuple #[.agg #[.slice none 0 0], .bool false])) none :=
  ⟨none, 0, rfl, Nat.le_refl _, none_at _, h.old.setCell (by show W.heap.size ≤ W.heap.size + 1; omega) _⟩
theorem Pfr.yes {W w w2 : World} {v r : Value} {B : Option Addr} {n cb : Nat} {l : List Int} (h : Pfr W w v r) (hB : Bi w2 w (.slice B n cb) l) (h2 : W.heap.size + 1 < w2.heap.size) :
    GivesF W (w.setCell ⟨W.heap.size + 1, 0, none⟩ (.slice B n cb)) (.returned (.tuple #[.agg #[.slice B n cb], .bool true])) (some l) := by
  obtain ⟨A, cap, e, hle, hi⟩ := hB.ints'
  injection e with e1 e2 e3
  subst e2
  refine ⟨B, cb, rfl, by rw [e3]; exact hle, fun h0 => ?_, h.old.setCell (by show W.heap.size ≤ W.heap.size + 1; omega) _⟩
  rw [Option.getD_some] at h0
  obtain ⟨g, cap', e, hb, hlt, hc, hf⟩ := hB.block (fun q => by rw [q] at h0; simp at h0)
  injection e with e4 e5 e6
  refine ⟨g, 0, e4, by simpa [World.setCell] using hlt, fun j y hy => ?_⟩
  rw [World.cell?_setCell_other _ _ _ _ (fun q => by injection q with q; omega), Nat.zero_add]
  exact hc j y hy
end Go.Proofs.Ytfoklgenpafciaa
namespace Go.Proofs.Ytfoklgenpafciaa
open Go.RowKit

/-- a list of the call's own, not empty, by its block -/
theorem Bi.form {W w : World} {v : Value} {l : List Int} {n : Nat} (h : Bi W w v l) (hn : n = l.length) (h0 : 0 < n) : ∃ g cap, v = .slice (some ⟨g, 0, Option.none⟩) n cap ∧ W.heap.size ≤ g ∧ g < w.heap.size ∧
    (∀ k, k < n → w.cell? ⟨g, k, Option.none⟩ = some (.int .i64 (fu l k))) ∧ ∀ j, w.frozen? ⟨g, j, Option.none⟩ = false := by
  obtain ⟨g, cap, e, h1, h2, h3, h4⟩ := h.block (fun e => by rw [e] at hn; simp at hn; omega)
  exact ⟨g, cap, by rw [hn]; exact e, h1, h2, fun k hk => h3 k _ (fu_get (by rw [← hn]; exact hk)), h4⟩

set_option maxHeartbeats 4000000 in
theorem pmove_is {A : Option Addr} {n cap : Nat} {l : List Int} {i k : Int} {r : Option (List Int)} {w : World} (hn : n = l.length) (hn6 : n ≤ 1000000) (hL : IntsAt w w.heap.size A l) (hr : fmove l i k = r) :
    Calls Try.prog 103 #[.agg #[.slice A n cap], .int .i64 i, .int .i64 k] w fun e w' => GivesF w w' e r := by
  have HN := Lib.hid hn
  have HL := Lib.hid hL
  have H6 := Lib.hid hn6
  have hK := Pfr.new w (.slice A n cap) (.slice none 0 0) 74 74
  have c0 := hK.c
  rw [fmove_eq] at hr
  clear hn hL hn6
  go_enter Try.func103, Try.ntmps103
  go_wp2_with fail
  generalize (w.alloc (.cells #[.slice A n cap] 74)).alloc (.cells #[.slice none 0 0] 74) = w1 at hK c0 ⊢
  rcases ht : there l i with _ | _
  · have HE : Hid (r = none) := Lib.hid (by rw [← hr, ht]; rfl)
    refine (holds_is (w := w1) HN.out (HL.out.on hK.old) ht).mono ?_
    rintro e w2 ⟨rfl, hb⟩
    have HK := Lib.hid (hK.on hb)
    have c1 := HK.out.d
    have c2 := HK.out.df
    clear hb ht hK c0 hr
    go_wp2
    have e0 := World.cell?_setCell_same w2 ⟨w.heap.size + 1, 0, none⟩ (.slice none 0 0) c1
    refine bodyPost_ret (by simp [results, Try.results103, go_sem, e0]; rfl) rfl ?_
    rw [HE.out]
    exact HK.out.no
  refine (holds_is (w := w1) HN.out (HL.out.on hK.old) ht).mono ?_
  rintro e w2 ⟨rfl, hb⟩
  have HK := Lib.hid (hK.on hb)
  rw [ht, Bool.true_and] at hr
  obtain ⟨_, m, rfl, hml, hm2⟩ := there_iff.1 ht
  clear hb ht hK c0
  have c0 := HK.out.c
  rcases hv : vacantB l k with _ | _
  · have HE : Hid (r = none) := Lib.hid (by rw [← hr, hv]; rfl)
    have HV := Lib.hid hv
    clear hv hr hml hm2
    go_wp2_with fail
    refine (vacant_is (w := w2) HN.out (HL.out.on HK.out.old) HV.out).mono ?_
    rintro e w3 ⟨rfl, hb⟩
    have HK2 := Lib.hid (HK.out.on hb)
    have c1 := HK2.out.d
    have c2 := HK2.out.df
    clear hb c0
    go_wp2
    have e0 := World.cell?_setCell_same w3 ⟨w.heap.size + 1, 0, none⟩ (.slice none 0 0) c1
    refine bodyPost_ret (by simp [results, Try.results103, go_sem, e0]; rfl) rfl ?_
    rw [HE.out]
    exact HK2.out.no
  have HV := Lib.hid hv
  obtain ⟨q, rfl, hql, hq2⟩ := vacantB_iff.1 hv
  have HE : Hid (r = some (moveL l m q)) := Lib.hid (by rw [← hr, hv, if_pos rfl, Int.toNat_natCast, Int.toNat_natCast])
  have HQM : Hid (m ≠ q) := Lib.hid (fun e => hm2 (e ▸ hq2))
  have HML := Lib.hid hml
  have HQL := Lib.hid hql
  have hmn : (m : Int) < (n : Int) := by rw [HN.out]; omega
  have hqn : (q : Int) < (n : Int) := by rw [HN.out]; omega
  clear hv hr hml hm2 hql hq2
  go_wp2_with fail
  refine (vacant_is (w := w2) HN.out (HL.out.on HK.out.old) HV.out).mono ?_
  rintro e w3 ⟨rfl, hb⟩
  have HK2 := Lib.hid (HK.out.on hb)
  clear hb c0 HK
  have c0 := HK2.out.c
  go_wp2_with fail
  refine (rehang_is (w := w3) (by omega) HN.out H6.out (HL.out.on HK2.out.old)).mono ?_
  rintro e w4 ⟨v, rfl, hB⟩
  have HK3 := Lib.hid (HK2.out.on hB.old)
  have HLT := Lib.hid HK2.out.lt
  obtain ⟨b, o, rfl, hblk, hc⟩ := at_open HL.out (by have := HML.out; omega)
  have hlen : n = (l.map fun y => if y = (m : Int) then (q : Int) else y).length := by rw [List.length_map, HN.out]
  have c1 : w4.cell? ⟨b, o + m, none⟩ = some (.int .i64 (fu l m)) := by rw [HK3.out.old.cell (p := ⟨b, _, none⟩) hblk]; exact hc m HML.out
  obtain ⟨x, hx⟩ : ∃ x, fu l m = x := ⟨_, rfl⟩
  rw [hx] at c1
  have HX := Lib.hid hx
  obtain ⟨g, cb, rfl, hg1, hg2, hgc, hgf⟩ := hB.form hlen (by omega)
  have hP := hB.put' hlen m (-2)
  have hP2 := hP.put' (by rw [List.length_set]; exact hlen) q x
  have c2 := hgc m (by omega)
  have c3 := hgf m
  have c4 : (w4.setCell ⟨g, m, none⟩ (.int .i64 (-2))).cell? ⟨g, q, none⟩ = some (.int .i64 (fu (l.map fun y => if y = (m : Int) then (q : Int) else y) q)) := by
    rw [World.cell?_setCell_other _ _ _ _ (fun e => HQM.out (by injection e with _ e))]
    exact hgc q (by omega)
  have c5 : (w4.setCell ⟨g, m, none⟩ (.int .i64 (-2))).frozen? ⟨g, q, none⟩ = false := by rw [World.frozen?_setCell]; exact hgf q
  have hKP : Pfr w ((w4.setCell ⟨g, m, none⟩ (.int .i64 (-2))).setCell ⟨g, q, none⟩ (.int .i64 x)) (.slice (some ⟨b, o, none⟩) n cap) (.slice none 0 0) := HK2.out.on hP2.old
  have c6 := hKP.d
  have c7 := hKP.df
  have c8 := HK3.out.c
  have hset : ((l.map fun y => if y = (m : Int) then (q : Int) else y).set m (-2)).set q x = moveL l m q := by
    rw [moveL, List.set_comm _ _ (fun e => HQM.out e), HX.out]
  rw [hset] at hP2
  have HP := Lib.hid hP2
  have HKP := Lib.hid hKP
  clear hB hgc hgf hP hP2 hKP c0 hg1 hg2 hc hblk hx hset hlen HK2
  go_wp2
  have e0 := World.cell?_setCell_same _ ⟨w.heap.size + 1, 0, none⟩ (.slice (some ⟨g, 0, none⟩) n cb) c6
  refine bodyPost_ret (by simp [results, Try.results103, go_sem, e0]; rfl) rfl ?_
  rw [HE.out]
  exact HKP.out.yes HP.out HLT.out

def PCutRel (W : World) (n g cb q : Nat) (l : List Int) (bs : List Nat) (D : Option Addr) (k : Nat) (p : Value) (wr : World) : Prop :=
  ∃ j : Nat, k + j = q ∧ Bi W wr (.slice (some ⟨g, 0, none⟩) n cb) (cut l (bs.take j)) ∧ p = .int .i64 j ∧ CellsOf D (toInts bs) wr
end Go.Proofs.Ytfoklgenpafciaa
