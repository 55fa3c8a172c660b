/-
  Lists that a call makes: how they lie; the walks of package nvm's Words and Out. No condition.
-/
import Derived.Test.YtehfkibpcdcddaaNh
import Derived.Laws.AppendOwn
import Derived.Laws.OwnMore
import Derived.Laws.MakeOwn
import Derived.Deep.AppendLies
namespace Go.Proofs.Ytehfkibpcdcddaa
open Go.RowKit

/-- a list of the call's own grows; all that was there is as it was -/
structure Bld (W w : World) (e : TypeId) (v : Value) (n : Nat) (xs : List Value) : Prop where
  own : w.ownsRow W.heap.size e 1 v n xs
  old : Below W.heap.size W w
section
variable {W w w' : World} {e : TypeId} {v v' : Value} {n : Nat} {xs ys : List Value}
theorem Bld.alloc (h : Bld W w e v n xs) (ob : Obj) : Bld W (w.alloc ob) e v n xs := ⟨h.own.alloc ob, h.old.alloc h.old.size _⟩
theorem Bld.drewN (h : Bld W w e v n xs) (k : Nat) : Bld W (w.drewN k) e v n xs := ⟨h.own, below_draws h.old k⟩
theorem Bld.more {m : Nat} (h : Bld W w e v n xs) (hg : w.grownBy w' v.ownBlock) (ho : w'.ownsRow W.heap.size e 1 v' m ys) : Bld W w' e v' m ys :=
  ⟨ho, h.old.grown hg h.old.size fun k hk => (h.own.lt k hk).1⟩
end

/-- a list lies in a block from B on -/
def Lies (w : World) (B : Nat) (v : Value) (k : IntKind) (l : List Int) : Prop :=
  ∃ A cap, v = .slice A l.length cap ∧ (0 < l.length → ∃ g o, A = some ⟨g, o, none⟩ ∧ B ≤ g ∧ g < w.heap.size ∧ ∀ (j : Nat) (z : Int), l[j]? = some z → w.cell? ⟨g, o + j, none⟩ = some (.int k z))
section
variable {w w' : World} {B : Nat} {v : Value} {k : IntKind} {l : List Int}
theorem Lies.below (h : Lies w B v k l) (hb : Below w.heap.size w w') : Lies w' B v k l := by
  obtain ⟨A, cap, e, hc⟩ := h
  refine ⟨A, cap, e, fun h0 => ?_⟩
  obtain ⟨g, o, e1, h1, h2, h3⟩ := hc h0
  exact ⟨g, o, e1, h1, Nat.lt_of_lt_of_le h2 hb.size, fun j z hz => by rw [hb.cell (p := ⟨g, _, none⟩) h2]; exact h3 j z hz⟩
theorem Lies.own {b rb : Nat} (h : Lies w B v k l) (ho : Own b rb w w') (h1 : b < B) (h2 : rb < B) : Lies w' B v k l := by
  obtain ⟨A, cap, e, hc⟩ := h
  refine ⟨A, cap, e, fun h0 => ?_⟩
  obtain ⟨g, o, e1, g1, g2, g3⟩ := hc h0
  exact ⟨g, o, e1, g1, Nat.lt_of_lt_of_le g2 ho.size, fun j z hz => by rw [World.cell?_of_block (w := w) (a := ⟨g, _, none⟩) (ho.block g g2 (by omega) (by omega))]; exact g3 j z hz⟩
theorem lies_of_owns {e : TypeId} (h : w.ownsRow B e 1 v l.length (l.map (Value.int k))) : Lies w B v k l := by
  rcases h.2 with ⟨rfl, h0⟩ | ⟨g, cap, cur, rfl, hb, hg, h1, h2, h3, h4⟩
  · exact ⟨none, 0, by rw [h0], fun hp => absurd hp (by omega)⟩
  · refine ⟨some ⟨g, 0, none⟩, cap, rfl, fun _ => ⟨g, 0, rfl, hb, (Array.getElem?_eq_some_iff.1 hg).1, fun j z hz => ?_⟩⟩
    have := h.cellAt j (by have := (List.getElem?_eq_some_iff.1 hz).1; omega)
    rw [Nat.zero_add, this, List.getElem?_map, hz]; rfl
theorem WordsAt.lies {A : Option Addr} {cap B : Nat} (h : WordsAt w B A l) (hB : B ≤ w.heap.size) : Lies w 0 (.slice A l.length cap) .u64 l :=
  ⟨A, cap, rfl, fun h0 => by
    obtain ⟨b, o, e, h1, h2⟩ := h h0
    exact ⟨b, o, e, Nat.zero_le _, by omega, h2⟩⟩
end

theorem info28_all : (Try.prog.info? 28).map (fun i => (i.zero, i.size, i.bytes)) = some (some (.int .u64 0), 1, 8) := by kernel_rfl
theorem info28_parts : ∃ i : TypeInfo, Try.prog.info? 28 = some i ∧ i.zero = some (.int .u64 0) ∧ i.size = 1 ∧ i.bytes = 8 := by
  have h := info28_all
  cases hq : Try.prog.info? 28 with
  | none => simp [hq] at h
  | some i =>
    simp [hq] at h
    exact ⟨i, rfl, h.1, h.2.1, h.2.2⟩
theorem info3_all : (Try.prog.info? 3).map (fun i => (i.zero, i.size, i.bytes)) = some (some (.int .i64 0), 1, 8) := by kernel_rfl
theorem info3_parts : ∃ i : TypeInfo, Try.prog.info? 3 = some i ∧ i.zero = some (.int .i64 0) ∧ i.size = 1 ∧ i.bytes = 8 := by
  have h := info3_all
  cases hq : Try.prog.info? 3 with
  | none => simp [hq] at h
  | some i =>
    simp [hq] at h
    exact ⟨i, rfl, h.1, h.2.1, h.2.2⟩

theorem make_words (n : Nat) (hn : n ≤ 4096) (w : World) : (Instr.makeSlice 36 (.int .i64 0) (.int .i64 ((n : Int) * 8))).run Try.prog w = .ok (.slice (some ⟨w.heap.size, 0, none⟩) 0 (n * 8)) (w.alloc (.cells (madeCells #[.int .u64 0] (n * 8)) 28)) := by
  obtain ⟨i, h1, h2, h3, h4⟩ := info28_parts
  have := run_make w 36 28 i (.int .u64 0) Try.underlying36 h1 h2 .i64 .i64 0 ((n * 8 : Nat) : Int) (by omega) (by omega) (by rw [h4]; omega) (by omega)
  have ht : ((n : Int) * 8).toNat = n * 8 := by omega
  rw [h3] at this
  simpa [Value.cells, ht] using this

/-- the words of lines -/
def wordsOf (l : List Ln) : List Int := l.flatMap (·.N)
theorem wordsOf_length {l : List Ln} (h : ∀ r ∈ l, r.ok) : (wordsOf l).length = l.length * 8 := by
  unfold wordsOf
  induction l with
  | nil => rfl
  | cons r t ih =>
    rw [List.flatMap_cons, List.length_append, ih (fun x hx => h x (by simp [hx])), (h r (by simp)).2, List.length_cons]
    omega
theorem wordsOf_succ {l : List Ln} {i : Nat} {r : Ln} (h : l[i]? = some r) : wordsOf (l.take (i + 1)) = wordsOf (l.take i) ++ r.N := by
  unfold wordsOf
  rw [List.take_add_one, h, List.flatMap_append]
  simp
theorem wcells_append (a b : List Int) : wcells a ++ wcells b = wcells (a ++ b) := by unfold wcells; simp
def Mm.words (m : Mm) : List Int := wordsOf m.rows
theorem MAt.oks {w : World} {b rb F : Nat} {m : Mm} (h : MAt w b rb F m) : ∀ r ∈ m.rows, r.ok := fun r hr => by
  obtain ⟨i, hi, rfl⟩ := List.getElem_of_mem hr
  exact (h.rows.at_ hi).ok

def WordRel (W : World) (m : Mm) (k : Nat) (p3 p17 : Value) (wr : World) : Prop :=
  ∃ i : Nat, k + i = m.rows.length ∧ p17 = .int .i64 i ∧ Bld W wr 28 p3 (i * 8) (wcells (wordsOf (m.rows.take i)))

set_option maxHeartbeats 2000000 in
theorem mwords_any (b rb F : Nat) (m : Mm) (w : World) (h : MAt w b rb F m) :
    Calls Try.prog 17 #[.pointer (some ⟨b, 0, none⟩)] w fun e w' => ∃ v, e = .returned v ∧ Lies w' w.heap.size v .u64 m.words ∧ Below w.heap.size w w' := by
  have c0 := h.c0
  have HM := Lib.hid h
  have hf := h.few
  have HOK := Lib.hid h.oks
  clear h
  obtain ⟨n, hn⟩ : ∃ n, n = m.rows.length := ⟨_, rfl⟩
  rw [← hn] at c0 hf
  have HN := Lib.hid hn
  clear hn
  have hmk := make_words n hf
  have h0 : Bld w (w.alloc (.cells (madeCells #[.int .u64 0] (n * 8)) 28)) 28 (.slice (some ⟨w.heap.size, 0, none⟩) 0 (n * 8)) 0 [] :=
    ⟨World.ownsRow_made w _ _ (Nat.le_refl _) (by unfold maxLen; omega) (by rw [size_madeCells]; omega), (Below.refl _ _).alloc (Nat.le_refl _) _⟩
  have H0 := Lib.hid h0
  have hm1 := HM.out.below h0.old
  have c1 := hm1.c0
  rw [← HN.out] at c1
  clear h0 hm1
  go_enter Try.func17, Try.ntmps17
  go_wp2_with fail
  go_loopg [3, 17] n (fun k p q wr => WordRel w m k p q wr)
  case atStart => exact ⟨0, HN.out, rfl, by simpa [wordsOf, wcells] using H0.out⟩
  case round =>
    obtain ⟨i, hk, rfl, hb⟩ := hrel
    have HK := Lib.hid hk
    have HB := Lib.hid hb
    have HMW := Lib.hid (HM.out.below hb.old)
    clear hk hb H0 c0 c1
    by_cases hlt : i < n
    · have HLT := Lib.hid hlt
      have hlt2 : (i : Int) < (n : Int) := by omega
      obtain ⟨r, hr⟩ : ∃ r, m.rows[i]? = some r := ⟨m.rows[i]'(by rw [← HN.out]; exact hlt), List.getElem?_eq_getElem _⟩
      have HR := Lib.hid hr
      have ha := HMW.out.rows i r hr
      have HA := Lib.hid ha
      have c0 := HMW.out.c0
      rw [← HN.out] at c0
      have hnew : ∀ j u, (wcells r.N)[j]? = some u → wr.cell? ((⟨rb, i * 18 + 8, none⟩ : Addr).add j) = some u := fun j u hu => by
        rw [Addr.add_mid]; exact ha.rangeN j u hu
      have HNEW := Lib.hid hnew
      have HL : Hid ((wcells r.N).length = 8 * 1) := Lib.hid (by rw [wcells_length, ha.ok.2])
      have HS : Hid (w.heap.size ≤ wr.heap.size) := Lib.hid HB.out.old.size
      obtain ⟨i0, hii, hz0, hz1, hz2⟩ := info28_parts
      clear hr ha hnew
      go_wp2_with (at_builtin; refine wpList_append_own _ rfl _ _ 36 rfl w.heap.size 28 i0 (.int .u64 0) 1 8 Try.underlying36 hii hz0 hz1 hz2 rfl (by decide) _ (i * 8) (wcells (wordsOf (m.rows.take i))) rfl HB.out.own ⟨rb, i * 18 + 8, none⟩ 8 8 (wcells r.N) rfl HL.out HNEW.out wcells_one ?c3 ?c4 HS.out ?_)
      case c3 => unfold maxLen; omega
      case c4 => omega
      intro v' w4 hown hgrow _
      have HB2 := Lib.hid (HB.out.more hgrow hown)
      clear hown hgrow
      go_wp2
      go_roundg (n - (i + 1))
      case measure => have := HK.out; have := HN.out; have := HLT.out; omega
      case rel =>
        have hb2 := HB2.out
        rw [wcells_append, ← wordsOf_succ HR.out, show i * 8 + 8 = (i + 1) * 8 by omega] at hb2
        exact ⟨i + 1, by have := HN.out; have := HLT.out; omega, by go_num, hb2⟩
    · go_wp2
      go_ret
      refine ⟨_, rfl, ?_, HB.out.old⟩
      have hown := HB.out.own
      have hi : i = m.rows.length := by have := HK.out; have := HN.out; omega
      rw [List.take_of_length_le (by omega), hi, ← wordsOf_length HOK.out] at hown
      exact lies_of_owns hown
/-- which lines are out -/
def outsOf (l : List Ln) (n : Nat) : List Int := ((List.range n).filter fun i : Nat => (l[i]?.getD ⟨[], [], false, false⟩).out).map fun i : Nat => (i : Int)
theorem outsOf_length (l : List Ln) (n : Nat) : (outsOf l n).length ≤ n := by
  unfold outsOf
  rw [List.length_map]
  exact Nat.le_trans (List.length_filter_le _ _) (by simp)
theorem outsOf_yes {l : List Ln} {i : Nat} {r : Ln} (h : l[i]? = some r) (ho : r.out = true) : outsOf l (i + 1) = outsOf l i ++ [(i : Int)] := by
  unfold outsOf
  rw [List.range_succ, List.filter_append, List.map_append]
  simp [h, ho]
theorem outsOf_no {l : List Ln} {i : Nat} {r : Ln} (h : l[i]? = some r) (ho : r.out = false) : outsOf l (i + 1) = outsOf l i := by
  unfold outsOf
  rw [List.range_succ, List.filter_append, List.map_append]
  simp [h, ho]
def Mm.outs (m : Mm) : List Int := outsOf m.rows m.rows.length

def OutRel (W : World) (m : Mm) (k : Nat) (p3 p10 : Value) (wr : World) : Prop :=
  ∃ i : Nat, k + i = m.rows.length ∧ p10 = .int .i64 i ∧ Bld W wr 3 p3 (outsOf m.rows i).length ((outsOf m.rows i).map (Value.int .i64))

set_option maxHeartbeats 2000000 in
theorem mout_any (b rb F : Nat) (m : Mm) (w : World) (h : MAt w b rb F m) :
    Calls Try.prog 14 #[.pointer (some ⟨b, 0, none⟩)] w fun e w' => ∃ v, e = .returned v ∧ Lies w' w.heap.size v .i64 m.outs ∧ Below w.heap.size w w' := by
  have c0 := h.c0
  have HM := Lib.hid h
  have hf := h.few
  clear h
  obtain ⟨n, hn⟩ : ∃ n, n = m.rows.length := ⟨_, rfl⟩
  rw [← hn] at c0 hf
  have HN := Lib.hid hn
  clear hn
  have H0 : Hid (Bld w w 3 (.slice none 0 0) 0 []) := Lib.hid ⟨World.ownsRow_nil _ _ _ _, Below.refl _ _⟩
  go_enter Try.func14, Try.ntmps14
  go_wp2_with fail
  go_loopg [3, 10] n (fun k p q wr => OutRel w m k p q wr)
  case atStart => exact ⟨0, HN.out, rfl, by simpa [outsOf] using H0.out⟩
  case round =>
    obtain ⟨i, hk, rfl, hb⟩ := hrel
    have HK := Lib.hid hk
    have HB := Lib.hid hb
    have HMW := Lib.hid (HM.out.below hb.old)
    clear hk hb H0 c0
    by_cases hlt : i < n
    · have HLT := Lib.hid hlt
      have hlt2 : (i : Int) < (n : Int) := by omega
      obtain ⟨r, hr⟩ : ∃ r, m.rows[i]? = some r := ⟨m.rows[i]'(by rw [← HN.out]; exact hlt), List.getElem?_eq_getElem _⟩
      have HR := Lib.hid hr
      have ha := HMW.out.rows i r hr
      have c0 := HMW.out.c0
      rw [← HN.out] at c0
      have c1 := ha.out
      obtain ⟨ou, ho⟩ : ∃ ou, r.out = ou := ⟨_, rfl⟩
      have HO := Lib.hid ho
      rw [ho] at c1
      clear hr ha ho
      cases ou
      · go_wp2_with fail
        go_roundg (n - (i + 1))
        case measure => have := HK.out; have := HN.out; have := HLT.out; omega
        case rel =>
          exact ⟨i + 1, by have := HN.out; have := HLT.out; omega, by go_num, by rw [outsOf_no HR.out HO.out]; exact HB.out⟩
      · obtain ⟨q, hq⟩ : ∃ q, q = (outsOf m.rows i).length := ⟨_, rfl⟩
        have HQ := Lib.hid hq
        have hq2 : q ≤ 4096 := by have := outsOf_length m.rows i; omega
        have hb2 := HB.out.alloc (.cells #[.int .i64 i] 3)
        rw [← hq] at hb2
        have HB1 := Lib.hid hb2
        have hnew : ∀ j u, [Value.int .i64 (i : Int)][j]? = some u → (wr.alloc (.cells #[.int .i64 i] 3)).cell? ((⟨wr.heap.size, 0, none⟩ : Addr).add j) = some u := fun j u hu => by
          rw [Addr.add_mid, Nat.zero_add, cell_of_row _ _ j _ _ _ (heap_alloc_new wr _), ← hu]; simp
        have HNEW := Lib.hid hnew
        have HS : Hid (w.heap.size ≤ (wr.alloc (.cells #[.int .i64 i] 3)).heap.size) := Lib.hid HB1.out.old.size
        obtain ⟨i0, hii, hz0, hz1, hz2⟩ := info3_parts
        have HONE : Hid (∀ u ∈ [Value.int .i64 (i : Int)], u.oneCell' = true) := Lib.hid (by intro u hu; simp at hu; subst hu; rfl)
        clear hnew hb2 hq
        go_wp2_with (at_builtin; refine wpList_append_own _ rfl _ _ 33 rfl w.heap.size 3 i0 (.int .i64 0) 1 8 Try.underlying33 hii hz0 hz1 hz2 rfl (by decide) _ q ((outsOf m.rows i).map (Value.int .i64)) rfl HB1.out.own ⟨wr.heap.size, 0, none⟩ 1 1 [.int .i64 i] rfl rfl HNEW.out HONE.out ?c3 ?c4 HS.out ?_)
        case c3 => unfold maxLen; omega
        case c4 => omega
        intro v' w4 hown hgrow _
        have HB2 := Lib.hid (HB1.out.more hgrow hown)
        clear hown hgrow
        go_wp2
        go_roundg (n - (i + 1))
        case measure => have := HK.out; have := HN.out; have := HLT.out; omega
        case rel =>
          have hb2 := HB2.out
          refine ⟨i + 1, by have := HN.out; have := HLT.out; omega, by go_num, ?_⟩
          rw [outsOf_yes HR.out HO.out, List.length_append, List.map_append, ← HQ.out]
          exact hb2
    · go_wp2
      go_ret
      refine ⟨_, rfl, ?_, HB.out.old⟩
      have hi : i = m.rows.length := by have := HK.out; have := HN.out; omega
      subst hi
      exact lies_of_owns HB.out.own

def WordsRel (W : World) (n : Nat) (k : Nat) (p : Value) (wr : World) : Prop := ∃ i : Nat, k + i = n ∧ p = .int .i64 i ∧ Below W.heap.size W wr

set_option maxHeartbeats 1000000 in
theorem words_same (B1 B2 : Nat) (v1 v2 : Value) (l : List Int) (w : World) (h1 : Lies w B1 v1 .u64 l) (h2 : Lies w B2 v2 .u64 l) (hl : l.length ≤ 1000000) :
    Calls Try.prog 22 #[v1, v2] w fun e w' => e = .returned (.bool true) ∧ Below w.heap.size w w' := by
  obtain ⟨A1, p1, rfl, h1⟩ := h1
  obtain ⟨A2, p2, rfl, h2⟩ := h2
  obtain ⟨n, hn⟩ : ∃ n, n = l.length := ⟨_, rfl⟩
  rw [← hn] at hl ⊢
  have HN := Lib.hid hn
  have H1 := Lib.hid h1
  have H2 := Lib.hid h2
  clear hn h1 h2
  go_enter Try.func22, Try.ntmps22
  go_wp2_with fail
  go_loopg [5] n (fun k p wr => WordsRel w n k p wr)
  case atStart => exact ⟨0, by omega, rfl, Below.refl _ _⟩
  case round =>
    obtain ⟨i, hk, rfl, hb⟩ := hrel
    have HK := Lib.hid hk
    have HB := Lib.hid hb
    clear hk hb
    by_cases hlt : i < n
    · have HLT := Lib.hid hlt
      have hlt2 : (i : Int) < (n : Int) := by omega
      obtain ⟨g1, o1, rfl, _, x1, y1⟩ := H1.out (by rw [← HN.out]; omega)
      obtain ⟨g2, o2, rfl, _, x2, y2⟩ := H2.out (by rw [← HN.out]; omega)
      obtain ⟨z, hz⟩ : ∃ z, l[i]? = some z := ⟨l[i]'(by rw [← HN.out]; exact hlt), List.getElem?_eq_getElem _⟩
      have c1 : wr.cell? ⟨g1, o1 + i, none⟩ = some (.int .u64 z) := by rw [HB.out.cell (p := ⟨g1, _, none⟩) x1]; exact y1 i z hz
      have c2 : wr.cell? ⟨g2, o2 + i, none⟩ = some (.int .u64 z) := by rw [HB.out.cell (p := ⟨g2, _, none⟩) x2]; exact y2 i z hz
      clear x1 x2 y1 y2 hz H1 H2
      go_wp2_with fail
      go_quiet (fail)
      go_wp2
      go_roundg (n - (i + 1))
      case measure => have := HK.out; have := HLT.out; omega
      case rel => exact ⟨i + 1, by have := HLT.out; omega, by go_num, below_draws HB.out _⟩
    · go_wp2
      go_ret
      exact ⟨rfl, HB.out⟩

set_option maxHeartbeats 1000000 in
theorem ints_same (B1 B2 : Nat) (v1 v2 : Value) (l : List Int) (w : World) (h1 : Lies w B1 v1 .i64 l) (h2 : Lies w B2 v2 .i64 l) (hl : l.length ≤ 1000000) :
    Calls Try.prog 21 #[v1, v2] w fun e w' => e = .returned (.bool true) ∧ Below w.heap.size w w' := by
  obtain ⟨A1, p1, rfl, h1⟩ := h1
  obtain ⟨A2, p2, rfl, h2⟩ := h2
  obtain ⟨n, hn⟩ : ∃ n, n = l.length := ⟨_, rfl⟩
  rw [← hn] at hl ⊢
  have HN := Lib.hid hn
  have H1 := Lib.hid h1
  have H2 := Lib.hid h2
  clear hn h1 h2
  go_enter Try.func21, Try.ntmps21
  go_wp2_with fail
  go_loopg [5] n (fun k p wr => WordsRel w n k p wr)
  case atStart => exact ⟨0, by omega, rfl, Below.refl _ _⟩
  case round =>
    obtain ⟨i, hk, rfl, hb⟩ := hrel
    have HK := Lib.hid hk
    have HB := Lib.hid hb
    clear hk hb
    by_cases hlt : i < n
    · have HLT := Lib.hid hlt
      have hlt2 : (i : Int) < (n : Int) := by omega
      obtain ⟨g1, o1, rfl, _, x1, y1⟩ := H1.out (by rw [← HN.out]; omega)
      obtain ⟨g2, o2, rfl, _, x2, y2⟩ := H2.out (by rw [← HN.out]; omega)
      obtain ⟨z, hz⟩ : ∃ z, l[i]? = some z := ⟨l[i]'(by rw [← HN.out]; exact hlt), List.getElem?_eq_getElem _⟩
      have c1 : wr.cell? ⟨g1, o1 + i, none⟩ = some (.int .i64 z) := by rw [HB.out.cell (p := ⟨g1, _, none⟩) x1]; exact y1 i z hz
      have c2 : wr.cell? ⟨g2, o2 + i, none⟩ = some (.int .i64 z) := by rw [HB.out.cell (p := ⟨g2, _, none⟩) x2]; exact y2 i z hz
      clear x1 x2 y1 y2 hz H1 H2
      go_wp2_with fail
      go_quiet (fail)
      go_wp2
      go_roundg (n - (i + 1))
      case measure => have := HK.out; have := HLT.out; omega
      case rel => exact ⟨i + 1, by have := HLT.out; omega, by go_num, below_draws HB.out _⟩
    · go_wp2
      go_ret
      exact ⟨rfl, HB.out⟩
end Go.Proofs.Ytehfkibpcdcddaa
