/-
  The walks of package nvm's fall and begin. Condition: fewer counted than 2 to the 62.
-/
import Derived.Test.YtehfkibpcdcddaaNc
namespace Go.Proofs.Ytehfkibpcdcddaa
open Go.RowKit

/-- the first lines of a list are turned -/
def part (g : Nat → Ln → Ln) (l : List Ln) (i : Nat) : List Ln := l.mapIdx fun j r => if j < i then g j r else r
theorem part_length (g : Nat → Ln → Ln) (l : List Ln) (i : Nat) : (part g l i).length = l.length := by unfold part; simp
theorem part_get (g : Nat → Ln → Ln) (l : List Ln) (i : Nat) : (part g l i)[i]? = l[i]? := by
  unfold part; simp
theorem part_zero (g : Nat → Ln → Ln) (l : List Ln) : part g l 0 = l := by
  unfold part; apply List.ext_getElem?; intro j; simp
theorem part_all (g : Nat → Ln → Ln) (l : List Ln) (i : Nat) (h : l.length ≤ i) : part g l i = l.mapIdx g := by
  unfold part; apply List.ext_getElem?; intro j
  rw [List.getElem?_mapIdx, List.getElem?_mapIdx]
  rcases Nat.lt_or_ge j l.length with h1 | h1
  · rw [List.getElem?_eq_getElem h1]
    simp only [Option.map_some]
    rw [if_pos (by omega)]
  · rw [List.getElem?_eq_none h1]; rfl
theorem part_succ (g : Nat → Ln → Ln) (l : List Ln) (i : Nat) (r : Ln) (hr : l[i]? = some r) : (part g l i).set i (g i r) = part g l (i + 1) := by
  have hi : i < l.length := (List.getElem?_eq_some_iff.1 hr).1
  apply List.ext_getElem?; intro j
  by_cases e : i = j
  · subst e
    rw [List.getElem?_set_self (by rw [part_length]; exact hi)]
    unfold part
    rw [List.getElem?_mapIdx, hr]
    simp
  · rw [List.getElem?_set_ne e]
    unfold part
    rw [List.getElem?_mapIdx, List.getElem?_mapIdx]
    have : (j < i) ↔ (j < i + 1) := by omega
    simp only [this]

/-- the power goes -/
def Mm.down (m : Mm) (k : Nat → Bool) : Mm := ⟨m.rows.mapIdx fun i r => r.fall (k i), true, m.n, 0, fun _ => false⟩
theorem Mm.down_length (m : Mm) (k : Nat → Bool) : (m.down k).rows.length = m.rows.length := by unfold Mm.down; simp

def DownRel (W : World) (b rb F kb : Nat) (m : Mm) (f : Nat → Bool) (k : Nat) (p : Value) (wr : World) : Prop :=
  ∃ i : Nat, k + i = m.rows.length ∧ p = .int .i64 i ∧ MAt wr b rb F { m with rows := part (fun j r => r.fall (f j)) m.rows i } ∧ Own b rb W wr ∧ Marks wr kb m.rows.length f ∧ kb < wr.heap.size

theorem downed {w w' : World} {b rb F : Nat} {m : Mm} (f : Nat → Bool) (g : Mm) (hg : g = { m with rows := part (fun j r => r.fall (f j)) m.rows m.rows.length }) (h : MAt w b rb F g)
    (hw : w' = (w.setCell ⟨b, 1, none⟩ (.bool true)).setCells b 3 [.int .i64 0, .slice none 0 0]) : MAt w' b rb F (m.down f) ∧ Own b rb w w' := by
  have f1 : Fr w (w.setCell ⟨b, 1, none⟩ (.bool true)) b 1 4 := Fr.set_ w _ (by omega) (by omega)
  have f2 : Fr (w.setCell ⟨b, 1, none⟩ (.bool true)) w' b 1 4 := by rw [hw]; exact Fr.sets _ _ _ (by omega) (by simp)
  have f3 := f1.trans f2
  obtain ⟨v4, h4, _⟩ := h.c4
  have q : ∀ q, q < [Value.int .i64 0, Value.slice none 0 0].length → ((w.setCell ⟨b, 1, none⟩ (.bool true)).cell? ⟨b, 3 + q, none⟩).isSome = true := fun q hq => by
    rw [World.cell?_setCell_other _ _ _ _ (fun e => by injection e with _ e; omega)]
    match q, hq with
    | 0, _ => rw [h.c3]; rfl
    | 1, _ => rw [h4]; rfl
  have e3 := World.cell?_setCells_in b [Value.int .i64 0, Value.slice none 0 0] 3 (w.setCell ⟨b, 1, none⟩ (.bool true)) q 0 (by simp)
  have e4 := World.cell?_setCells_in b [Value.int .i64 0, Value.slice none 0 0] 3 (w.setCell ⟨b, 1, none⟩ (.bool true)) q 1 (by simp)
  have e1 : w'.cell? ⟨b, 1, none⟩ = some (.bool true) := by
    rw [hw, World.cell?_setCells_out b _ _ _ ⟨b, 1, none⟩ (fun _ _ => by show 1 < _ ∨ _ ≤ 1; omega), World.cell?_setCell_same _ _ _ h.c1]
  have e2 : w'.cell? ⟨b, 2, none⟩ = some (.int .i64 m.n) := by
    rw [hw, World.cell?_setCells_out b _ _ _ ⟨b, 2, none⟩ (fun _ _ => by show 2 < _ ∨ _ ≤ 2; omega), World.cell?_setCell_other _ _ _ _ (fun e => by injection e with _ e; omega), h.c2, hg]
  refine ⟨h.cells_ f3 (by rw [hg]; unfold Mm.down; simp only; rw [part_all _ _ _ (Nat.le_refl _)]) (Nat.le_refl _) (by unfold Mm.down; simp) e1 e2 (by rw [hw]; exact e3) ⟨_, by rw [hw]; exact e4, fun h0 => absurd h0 (by unfold Mm.down; simp)⟩, Own.fr f3⟩

set_option maxHeartbeats 1000000 in
theorem down_any (b rb F kb : Nat) (m : Mm) (f : Nat → Bool) (w : World) (h : MAt w b rb F m) (hk : Marks w kb m.rows.length f) (h1 : kb ≠ b) (h2 : kb ≠ rb) (h3 : kb < w.heap.size) :
    Calls Try.prog 45 #[.pointer (some ⟨b, 0, none⟩), .slice (some ⟨kb, 0, none⟩) m.rows.length m.rows.length] w fun e w' => e = .returned (.tuple #[]) ∧ MAt w' b rb F (m.down f) ∧ Own b rb w w' := by
  have c0 := h.c0
  have HM := Lib.hid h
  have HK := Lib.hid hk
  have H1 := Lib.hid h1
  have H2 := Lib.hid h2
  have H3 := Lib.hid h3
  have hf := h.few
  clear h hk h1 h2 h3
  obtain ⟨n, hn⟩ : ∃ n, n = m.rows.length := ⟨_, rfl⟩
  rw [← hn] at c0 hf ⊢
  have HN := Lib.hid hn
  clear hn
  go_enter Try.func45, Try.ntmps45
  go_wp2_with fail
  go_loopg [10] n (fun k p wr => DownRel w b rb F kb m f k p wr)
  case atStart => exact ⟨0, HN.out, rfl, by rw [part_zero]; exact HM.out, Own.refl _ _ _, HK.out, H3.out⟩
  case round =>
    obtain ⟨i, hk, rfl, hm, ho, hmk, hkb⟩ := hrel
    have HG := Lib.hid hk
    have HMW := Lib.hid hm
    have HO := Lib.hid ho
    have HMK := Lib.hid hmk
    have HKB := Lib.hid hkb
    clear hk hm ho hmk hkb c0
    by_cases hlt : i < n
    · have HLT := Lib.hid hlt
      have hlt2 : (i : Int) < (n : Int) := by omega
      obtain ⟨r, hr⟩ : ∃ r, m.rows[i]? = some r := ⟨m.rows[i]'(by rw [← HN.out]; exact hlt), List.getElem?_eq_getElem _⟩
      have HR := Lib.hid hr
      have HA := Lib.hid (HMW.out.rows i r (by rw [part_get]; exact hr))
      have c0 := HMW.out.c0
      simp only [part_length] at c0
      rw [← HN.out] at c0
      have c1 := HMK.out i (by rw [← HN.out]; exact hlt)
      clear hr
      have HD := Lib.hid (HA.out.drewN 1)
      go_wp2_with fail
      go_still_tail 10, (by kernel_rfl)
      change wpList _ _ _ _ _ wr.drew
      have HB := Lib.hid (HMW.out.drewN 1)
      have HMK1 := Lib.hid (HMK.out.keep (w' := wr.drew) rfl)
      have HO1 := Lib.hid (HO.out.trans (Own.drewN wr 1))
      clear HA HMK HO c0 c1
      generalize hw1 : wr.drew = w1
      replace HD : Hid (At w1 rb (i * 18) r) := by rw [← hw1]; exact HD
      replace HB : Hid (MAt w1 b rb F { m with rows := part (fun j r => r.fall (f j)) m.rows i }) := by rw [← hw1]; exact HB
      replace HMK1 : Hid (Marks w1 kb m.rows.length f) := by rw [← hw1]; exact HMK1
      replace HO1 : Hid (Own b rb w w1) := by rw [← hw1]; exact HO1
      replace HKB : Hid (kb < w1.heap.size) := by rw [← hw1]; exact HKB
      clear hw1 HMW
      go_wp2_with (go_at_call 57; refine (fall_any rb (i * 18) (f i) r _ HD.out).mono ?_; rintro e w' ⟨rfl, ht⟩; have HT := Lib.hid ht; clear ht)
      go_roundg (n - (i + 1))
      case measure => have := HG.out; have := HN.out; have := HLT.out; omega
      case rel =>
        have hrow := HB.out.row HT.out
        rw [part_succ _ _ _ _ HR.out] at hrow
        exact ⟨i + 1, by have := HN.out; have := HLT.out; omega, by go_num, hrow, HO1.out.trans (Own.fr2 HT.out.fr), HMK1.out.keep (HT.out.fr.block kb HKB.out H2.out), Nat.lt_of_lt_of_le HKB.out HT.out.fr.size⟩
    · have hi : i = n := by have := HG.out; have := HN.out; omega
      subst hi
      have c1 := HMW.out.c1
      have c2 := HMW.out.c2
      have c3 := HMW.out.c3
      obtain ⟨v4, c4, _⟩ := HMW.out.c4
      have f1 := HMW.out.free 1 (by omega)
      have f3 := HMW.out.free 3 (by omega)
      have f4 := HMW.out.free 4 (by omega)
      go_wp2
      go_end0
      have hd := downed (w := wr) f _ rfl (by rw [HN.out] at HMW; exact HMW.out) rfl
      exact ⟨rfl, hd.1, HO.out.trans hd.2⟩
/-- what a call that counts does first -/
def Mm.begin (m : Mm) (t : Bool) : Int × Mm :=
  if m.may t = 0 then (if m.calls = 1 then (12, m.down m.kept) else (0, { m with n := m.n + 1, calls := if 1 < m.calls then m.calls - 1 else m.calls })) else (m.may t, m)

theorem MAt.counts {w : World} {b rb F : Nat} {m : Mm} (h : MAt w b rb F m) (v : Int) : MAt (w.setCell ⟨b, 2, none⟩ (.int .i64 v)) b rb F { m with n := v } ∧ Own b rb w (w.setCell ⟨b, 2, none⟩ (.int .i64 v)) := by
  have f1 : Fr w (w.setCell ⟨b, 2, none⟩ (.int .i64 v)) b 1 4 := Fr.set_ w _ (by omega) (by omega)
  obtain ⟨x, h4, hz⟩ := h.c4
  have o : ∀ j, j ≠ 2 → (w.setCell ⟨b, 2, none⟩ (.int .i64 v)).cell? ⟨b, j, none⟩ = w.cell? ⟨b, j, none⟩ := fun j hj => World.cell?_setCell_other _ _ _ _ (fun e => by injection e with _ e; omega)
  exact ⟨h.cells_ f1 rfl (Nat.le_refl _) h.calls0 (by rw [o 1 (by omega)]; exact h.c1) (by rw [World.cell?_setCell_same _ _ _ h.c2]) (by rw [o 3 (by omega)]; exact h.c3) ⟨x, by rw [o 4 (by omega)]; exact h4, hz⟩, Own.fr f1⟩
theorem MAt.burns {w : World} {b rb F : Nat} {m : Mm} (h : MAt w b rb F m) (v : Int) (h0 : 0 < v) (h1 : v < m.calls) : MAt (w.setCell ⟨b, 3, none⟩ (.int .i64 v)) b rb F { m with calls := v } ∧ Own b rb w (w.setCell ⟨b, 3, none⟩ (.int .i64 v)) := by
  have f1 : Fr w (w.setCell ⟨b, 3, none⟩ (.int .i64 v)) b 1 4 := Fr.set_ w _ (by omega) (by omega)
  obtain ⟨x, h4, hz⟩ := h.c4
  have o : ∀ j, j ≠ 3 → (w.setCell ⟨b, 3, none⟩ (.int .i64 v)).cell? ⟨b, j, none⟩ = w.cell? ⟨b, j, none⟩ := fun j hj => World.cell?_setCell_other _ _ _ _ (fun e => by injection e with _ e; omega)
  exact ⟨h.cells_ f1 rfl (Nat.le_refl _) ⟨by simp only; omega, by have := h.calls0; simp only; omega⟩ (by rw [o 1 (by omega)]; exact h.c1) (by rw [o 2 (by omega)]; exact h.c2) (by rw [World.cell?_setCell_same _ _ _ h.c3]) ⟨x, by rw [o 4 (by omega)]; exact h4, fun _ => hz (by omega)⟩, Own.fr f1⟩

set_option maxHeartbeats 1000000 in
theorem begin_any (b rb F : Nat) (m : Mm) (t : Bool) (w : World) (h : MAt w b rb F m) (n0 : 0 ≤ m.n) (n1 : m.n < 4611686018427387904) :
    Calls Try.prog 40 #[.pointer (some ⟨b, 0, none⟩), .bool t] w fun e w' => e = .returned (.int .i64 (m.begin t).1) ∧ MAt w' b rb F (m.begin t).2 ∧ Own b rb w w' := by
  have HM := Lib.hid h
  have hcase : (∃ v : Int, m.may t = v ∧ (v == 0) = false ∧ m.begin t = (v, m)) ∨ (m.may t = 0 ∧ m.calls = 1 ∧ m.begin t = (12, m.down m.kept)) ∨
      (m.may t = 0 ∧ 1 < m.calls ∧ m.begin t = (0, { m with n := m.n + 1, calls := m.calls - 1 })) ∨ (m.may t = 0 ∧ m.calls = 0 ∧ m.begin t = (0, { m with n := m.n + 1 })) := by
    have h0 := h.calls0.1
    unfold Mm.begin
    by_cases e : m.may t = 0
    · simp only [if_pos e]
      by_cases e1 : m.calls = 1
      · exact .inr (.inl ⟨e, e1, by rw [if_pos e1]⟩)
      · rw [if_neg e1]
        by_cases e2 : 1 < m.calls
        · exact .inr (.inr (.inl ⟨e, e2, by rw [if_pos e2]⟩))
        · have e3 : m.calls = 0 := by omega
          exact .inr (.inr (.inr ⟨e, e3, by rw [if_neg e2]⟩))
    · exact .inl ⟨_, rfl, by simpa using e, by rw [if_neg e]⟩
  rcases hcase with ⟨v, hv, hv0, hb⟩ | ⟨hv, hc, hb⟩ | ⟨hv, hc, hb⟩ | ⟨hv, hc, hb⟩
  · rw [hb]
    have HV := Lib.hid hv
    clear h n0 n1 hv hb
    go_enter Try.func40, Try.ntmps40
    go_wp2_with (go_at_call 46; refine (may_any b rb F m t _ HM.out).mono ?_; rw [HV.out]; rintro e w' ⟨rfl, rfl⟩)
    go_ret
    exact ⟨rfl, HM.out, Own.refl _ _ _⟩
  · rw [hb]
    have HV := Lib.hid hv
    have c3 := h.c3
    rw [hc] at c3
    obtain ⟨x, c4, hz⟩ := h.c4
    obtain ⟨kb, rfl, k1, k2, k3⟩ := hz (by omega)
    have K1 := Lib.hid k1
    have K2 := Lib.hid k2
    have K3 := Lib.hid k3
    clear h n0 n1 hv hb hc hz k1 k2 k3
    go_enter Try.func40, Try.ntmps40
    go_wp2_with (first
      | (go_at_call 46; refine (may_any b rb F m t _ HM.out).mono ?_; rw [HV.out]; rintro e w' ⟨rfl, rfl⟩)
      | (go_at_call 45; refine (down_any b rb F kb m m.kept _ HM.out K3.out (by have := K1.out; have := HM.out.bF; omega) (by have := K1.out; have := HM.out.rF; omega) K2.out).mono ?_; rintro e w' ⟨rfl, hm, ho⟩; have HM2 := Lib.hid hm; have HO := Lib.hid ho; clear hm ho))
    go_ret
    exact ⟨rfl, HM2.out, HO.out⟩
  · rw [hb]
    have HV := Lib.hid hv
    have c3 := h.c3
    have f3 := h.free 3 (by omega)
    have cu := h.calls0.2
    have hbu := h.burns (m.calls - 1) (by omega) (by omega)
    have c2 := hbu.1.c2
    have f2 := hbu.1.free 2 (by omega)
    have hco := hbu.1.counts (m.n + 1)
    have HC := Lib.hid hco.1
    have HO := Lib.hid (hbu.2.trans hco.2)
    simp only at c2
    obtain ⟨k, hk⟩ : ∃ k, k = m.n := ⟨_, rfl⟩
    obtain ⟨q, hq⟩ : ∃ q, q = m.calls := ⟨_, rfl⟩
    rw [← hk] at n0 n1 c2 HC HO ⊢
    rw [← hq] at hc c2 c3 f2 cu HC HO ⊢
    have hq1 : decide (q = 1) = false := by simp; omega
    clear h hv hb hk hq hbu hco
    go_enter Try.func40, Try.ntmps40
    go_wp2_with (go_at_call 46; refine (may_any b rb F m t _ HM.out).mono ?_; rw [HV.out]; rintro e w' ⟨rfl, rfl⟩)
    go_ret
    exact ⟨rfl, HC.out, HO.out⟩
  · rw [hb]
    have HV := Lib.hid hv
    have c3 := h.c3
    rw [hc] at c3
    have c2 := h.c2
    have f2 := h.free 2 (by omega)
    have hco := h.counts (m.n + 1)
    have HC := Lib.hid hco.1
    have HO := Lib.hid hco.2
    obtain ⟨k, hk⟩ : ∃ k, k = m.n := ⟨_, rfl⟩
    rw [← hk] at n0 n1 c2 HC HO ⊢
    clear h hv hb hk hco hc
    go_enter Try.func40, Try.ntmps40
    go_wp2_with (go_at_call 46; refine (may_any b rb F m t _ HM.out).mono ?_; rw [HV.out]; rintro e w' ⟨rfl, rfl⟩)
    go_ret
    exact ⟨rfl, HC.out, HO.out⟩
end Go.Proofs.Ytehfkibpcdcddaa
