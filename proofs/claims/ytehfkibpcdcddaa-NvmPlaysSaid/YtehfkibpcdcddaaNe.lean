/-
  The walks of package nvm's Load, Store, Flush, Evict: what each answers, what becomes of the memory. Condition: fewer counted than 2 to the 62.
-/
import Derived.Test.YtehfkibpcdcddaaNd
namespace Go.Proofs.Ytehfkibpcdcddaa
open Go.RowKit

/-- the line of a number -/
def Mm.get (m : Mm) (i : Nat) : Ln := m.rows[i]?.getD ⟨[], [], false, false⟩
theorem Mm.get_some {m : Mm} {i : Nat} (h : i < m.rows.length) : m.rows[i]? = some (m.get i) := by
  unfold Mm.get; rw [List.getElem?_eq_getElem h]; rfl

def Mm.load (m : Mm) (i : Int) : Int × Int := if m.may (m.word i) = 0 then ((m.get (i.toNat / 8)).load ((i.toNat % 8 : Nat) : Int), 0) else (0, m.may (m.word i))

theorem may_zero {m : Mm} {t : Bool} (h : m.may t = 0) : t = true ∧ m.off = false := by
  unfold Mm.may at h
  cases ho : m.off <;> rw [ho] at h <;> cases t <;> simp at h
  exact ⟨rfl, rfl⟩

theorem may_cases (m : Mm) (t : Bool) : (∃ v : Int, m.may t = v ∧ (v == 0) = false) ∨ m.may t = 0 := by
  by_cases e : m.may t = 0
  · exact .inr e
  · exact .inl ⟨_, rfl, by simpa using e⟩

set_option maxHeartbeats 1000000 in
theorem mload_any (b rb F : Nat) (m : Mm) (i : Int) (w : World) (h : MAt w b rb F m) :
    Calls Try.prog 20 #[.pointer (some ⟨b, 0, none⟩), .int .i64 i] w fun e w' => e = .returned (.tuple #[.int .u64 (m.load i).1, .int .i64 (m.load i).2]) ∧ w = w' := by
  have HM := Lib.hid h
  rcases may_cases m (m.word i) with ⟨v, hv, hv0⟩ | hv
  · have hl : m.load i = (0, v) := by unfold Mm.load; rw [if_neg (by rw [hv]; simpa using hv0), hv]
    rw [hl]
    have HV := Lib.hid hv
    clear h hv hl
    go_enter Try.func20, Try.ntmps20
    go_wp2_with (first
      | (go_at_call 41; refine (word_any b rb F m i _ HM.out).mono ?_; rintro e w' ⟨rfl, rfl⟩)
      | (go_at_call 46; refine (may_any b rb F m _ _ HM.out).mono ?_; rw [HV.out]; rintro e w' ⟨rfl, rfl⟩))
    go_ret2
    exact ⟨rfl, rfl⟩
  · have hl : m.load i = ((m.get (i.toNat / 8)).load ((i.toNat % 8 : Nat) : Int), 0) := by unfold Mm.load; rw [if_pos hv]
    rw [hl]
    have HV := Lib.hid hv
    obtain ⟨x0, x1⟩ := inb_yes (may_zero hv).1
    obtain ⟨a, rfl⟩ := Int.eq_ofNat_of_zero_le x0
    have hlt : a / 8 < m.rows.length := by omega
    have c0 := h.c0
    have HA := Lib.hid (h.rows _ _ (Mm.get_some hlt))
    obtain ⟨n, hn⟩ : ∃ n, n = m.rows.length := ⟨_, rfl⟩
    have hf := h.few
    rw [← hn] at c0 hlt hf
    clear h hv hl x1 hn x0
    rw [Int.toNat_natCast]
    go_enter Try.func20, Try.ntmps20
    go_wp2_with (first
      | (go_at_call 41; refine (word_any b rb F m _ _ HM.out).mono ?_; rintro e w' ⟨rfl, rfl⟩)
      | (go_at_call 46; refine (may_any b rb F m _ _ HM.out).mono ?_; rw [HV.out]; rintro e w' ⟨rfl, rfl⟩)
      | (go_at_call 47; refine (load_any rb _ _ _ _ HA.out).mono ?_; rintro e w' ⟨rfl, rfl⟩))
    go_ret2
    exact ⟨rfl, rfl⟩

/-- one line is turned -/
def Mm.put (m : Mm) (i : Nat) (r : Ln) : Mm := { m with rows := m.rows.set i r }
def Mm.store (m : Mm) (i v : Int) : Int × Mm :=
  if (m.begin (m.word i)).1 = 0 then (0, (m.begin (m.word i)).2.put (i.toNat / 8) (((m.begin (m.word i)).2.get (i.toNat / 8)).store ((i.toNat % 8 : Nat) : Int) v)) else m.begin (m.word i)
def Mm.flush (m : Mm) (i : Int) : Int × Mm :=
  if (m.begin (m.line i)).1 = 0 then (0, (m.begin (m.line i)).2.put i.toNat ((m.begin (m.line i)).2.get i.toNat).flush) else m.begin (m.line i)
def Mm.evict (m : Mm) (i : Int) : Int × Mm := if m.may (m.line i) = 0 then (0, m.put i.toNat ((m.get i.toNat).fall true)) else (m.may (m.line i), m)

theorem begin_cases (m : Mm) (t : Bool) : (∃ v : Int, (m.begin t).1 = v ∧ (v == 0) = false) ∨ ((m.begin t).1 = 0 ∧ t = true ∧ m.off = false ∧ (m.begin t).2.rows = m.rows) := by
  by_cases e : (m.begin t).1 = 0
  · refine .inr ⟨e, ?_⟩
    unfold Mm.begin at e ⊢
    by_cases h0 : m.may t = 0
    · rw [if_pos h0] at e ⊢
      by_cases h1 : m.calls = 1
      · rw [if_pos h1] at e; simp at e
      · rw [if_neg h1]; exact ⟨(may_zero h0).1, (may_zero h0).2, rfl⟩
    · rw [if_neg h0] at e; exact absurd e h0
  · exact .inl ⟨_, rfl, by simpa using e⟩

set_option maxHeartbeats 1000000 in
theorem mstore_any (b rb F : Nat) (m : Mm) (i v : Int) (w : World) (h : MAt w b rb F m) (n0 : 0 ≤ m.n) (n1 : m.n < 4611686018427387904) :
    Calls Try.prog 12 #[.pointer (some ⟨b, 0, none⟩), .int .i64 i, .int .u64 v] w fun e w' => e = .returned (.int .i64 (m.store i v).1) ∧ MAt w' b rb F (m.store i v).2 ∧ Own b rb w w' := by
  have HM := Lib.hid h
  have N0 := Lib.hid n0
  have N1 := Lib.hid n1
  rcases begin_cases m (m.word i) with ⟨x, hx, hx0⟩ | ⟨hx, ht, hoff, hrow⟩
  · have hl : m.store i v = m.begin (m.word i) := by unfold Mm.store; rw [if_neg (by rw [hx]; simpa using hx0)]
    rw [hl, hx]
    have HX := Lib.hid hx
    clear h hx hl n0 n1
    go_enter Try.func12, Try.ntmps12
    go_wp2_with (first
      | (go_at_call 41; refine (word_any b rb F m i _ HM.out).mono ?_; rintro e w' ⟨rfl, rfl⟩)
      | (go_at_call 40; refine (begin_any b rb F m _ _ HM.out N0.out N1.out).mono ?_; rw [HX.out]; rintro e w' ⟨rfl, hm, ho⟩; have HM2 := Lib.hid hm; have HO := Lib.hid ho; clear hm ho))
    go_ret
    exact ⟨rfl, HM2.out, HO.out⟩
  · have hl : m.store i v = (0, (m.begin (m.word i)).2.put (i.toNat / 8) (((m.begin (m.word i)).2.get (i.toNat / 8)).store ((i.toNat % 8 : Nat) : Int) v)) := by unfold Mm.store; rw [if_pos hx]
    rw [hl]
    have HX := Lib.hid hx
    have HR := Lib.hid hrow
    obtain ⟨x0, x1⟩ := inb_yes ht
    obtain ⟨a, rfl⟩ := Int.eq_ofNat_of_zero_le x0
    have hlt : a / 8 < m.rows.length := by omega
    have HLT := Lib.hid hlt
    have HP := Lib.hid h.pos
    obtain ⟨n, hn⟩ : ∃ n, n = m.rows.length := ⟨_, rfl⟩
    have HN := Lib.hid hn
    have hf := h.few
    rw [← hn] at hlt hf
    clear h hx hl x1 hn x0 n0 n1 ht hoff hrow
    rw [Int.toNat_natCast]
    go_enter Try.func12, Try.ntmps12
    go_wp2_with (first
      | (go_at_call 41; refine (word_any b rb F m _ _ HM.out).mono ?_; rintro e w' ⟨rfl, rfl⟩)
      | (go_at_call 40
         refine (begin_any b rb F m _ _ HM.out N0.out N1.out).mono ?_
         rw [HX.out]
         rintro e w' ⟨rfl, hm, ho⟩
         have c0 := hm.c0
         rw [HR.out, ← HN.out] at c0
         have HA := Lib.hid (hm.rows _ _ (Mm.get_some (i := a / 8) (by rw [HR.out]; exact HLT.out)))
         have HM2 := Lib.hid hm
         have HO := Lib.hid ho
         clear hm ho)
      | (go_at_call 38; refine (store_any rb _ _ _ _ _ HA.out).mono ?_; rintro e w' ⟨rfl, ht⟩; have HT := Lib.hid ht; clear ht))
    go_ret
    exact ⟨rfl, HM2.out.row HT.out, HO.out.trans (Own.fr2 HT.out.fr)⟩

set_option maxHeartbeats 1000000 in
theorem mflush_any (b rb F : Nat) (m : Mm) (i : Int) (w : World) (h : MAt w b rb F m) (n0 : 0 ≤ m.n) (n1 : m.n < 4611686018427387904) :
    Calls Try.prog 13 #[.pointer (some ⟨b, 0, none⟩), .int .i64 i] w fun e w' => e = .returned (.int .i64 (m.flush i).1) ∧ MAt w' b rb F (m.flush i).2 ∧ Own b rb w w' := by
  have HM := Lib.hid h
  have N0 := Lib.hid n0
  have N1 := Lib.hid n1
  rcases begin_cases m (m.line i) with ⟨x, hx, hx0⟩ | ⟨hx, ht, hoff, hrow⟩
  · have hl : m.flush i = m.begin (m.line i) := by unfold Mm.flush; rw [if_neg (by rw [hx]; simpa using hx0)]
    rw [hl, hx]
    have HX := Lib.hid hx
    clear h hx hl n0 n1
    go_enter Try.func13, Try.ntmps13
    go_wp2_with (first
      | (go_at_call 42; refine (line_any b rb F m i _ HM.out).mono ?_; rintro e w' ⟨rfl, rfl⟩)
      | (go_at_call 40; refine (begin_any b rb F m _ _ HM.out N0.out N1.out).mono ?_; rw [HX.out]; rintro e w' ⟨rfl, hm, ho⟩; have HM2 := Lib.hid hm; have HO := Lib.hid ho; clear hm ho))
    go_ret
    exact ⟨rfl, HM2.out, HO.out⟩
  · have hl : m.flush i = (0, (m.begin (m.line i)).2.put i.toNat ((m.begin (m.line i)).2.get i.toNat).flush) := by unfold Mm.flush; rw [if_pos hx]
    rw [hl]
    have HX := Lib.hid hx
    have HR := Lib.hid hrow
    obtain ⟨x0, x1⟩ := inb_yes ht
    obtain ⟨a, rfl⟩ := Int.eq_ofNat_of_zero_le x0
    have hlt : a < m.rows.length := by omega
    have HLT := Lib.hid hlt
    obtain ⟨n, hn⟩ : ∃ n, n = m.rows.length := ⟨_, rfl⟩
    have HN := Lib.hid hn
    have hf := h.few
    rw [← hn] at hlt hf
    have hlt2 : (a : Int) < (n : Int) := by omega
    clear h hx hl x1 hn x0 n0 n1 ht hoff hrow
    rw [Int.toNat_natCast]
    go_enter Try.func13, Try.ntmps13
    go_wp2_with (first
      | (go_at_call 42; refine (line_any b rb F m _ _ HM.out).mono ?_; rintro e w' ⟨rfl, rfl⟩)
      | (go_at_call 40
         refine (begin_any b rb F m _ _ HM.out N0.out N1.out).mono ?_
         rw [HX.out]
         rintro e w' ⟨rfl, hm, ho⟩
         have c0 := hm.c0
         rw [HR.out, ← HN.out] at c0
         have HA := Lib.hid (hm.rows _ _ (Mm.get_some (i := a) (by rw [HR.out]; exact HLT.out)))
         have HM2 := Lib.hid hm
         have HO := Lib.hid ho
         clear hm ho)
      | (go_at_call 43; refine (flush_any rb _ _ _ HA.out).mono ?_; rintro e w' ⟨rfl, ht⟩; have HT := Lib.hid ht; clear ht))
    go_ret
    exact ⟨rfl, HM2.out.row HT.out, HO.out.trans (Own.fr2 HT.out.fr)⟩

set_option maxHeartbeats 1000000 in
theorem mevict_any (b rb F : Nat) (m : Mm) (i : Int) (w : World) (h : MAt w b rb F m) :
    Calls Try.prog 31 #[.pointer (some ⟨b, 0, none⟩), .int .i64 i] w fun e w' => e = .returned (.int .i64 (m.evict i).1) ∧ MAt w' b rb F (m.evict i).2 ∧ Own b rb w w' := by
  have HM := Lib.hid h
  rcases may_cases m (m.line i) with ⟨x, hx, hx0⟩ | hx
  · have hl : m.evict i = (x, m) := by unfold Mm.evict; rw [if_neg (by rw [hx]; simpa using hx0), hx]
    rw [hl]
    have HX := Lib.hid hx
    clear h hx hl
    go_enter Try.func31, Try.ntmps31
    go_wp2_with (first
      | (go_at_call 42; refine (line_any b rb F m i _ HM.out).mono ?_; rintro e w' ⟨rfl, rfl⟩)
      | (go_at_call 46; refine (may_any b rb F m _ _ HM.out).mono ?_; rw [HX.out]; rintro e w' ⟨rfl, rfl⟩))
    go_ret
    exact ⟨rfl, HM.out, Own.refl _ _ _⟩
  · have hl : m.evict i = (0, m.put i.toNat ((m.get i.toNat).fall true)) := by unfold Mm.evict; rw [if_pos hx]
    rw [hl]
    have HX := Lib.hid hx
    obtain ⟨x0, x1⟩ := inb_yes (may_zero hx).1
    obtain ⟨a, rfl⟩ := Int.eq_ofNat_of_zero_le x0
    have hlt : a < m.rows.length := by omega
    have c0 := h.c0
    have HA := Lib.hid (h.rows _ _ (Mm.get_some hlt))
    obtain ⟨n, hn⟩ : ∃ n, n = m.rows.length := ⟨_, rfl⟩
    have hf := h.few
    rw [← hn] at c0 hlt hf
    have hlt2 : (a : Int) < (n : Int) := by omega
    clear h hx hl x1 hn x0
    rw [Int.toNat_natCast]
    go_enter Try.func31, Try.ntmps31
    go_wp2_with (first
      | (go_at_call 42; refine (line_any b rb F m _ _ HM.out).mono ?_; rintro e w' ⟨rfl, rfl⟩)
      | (go_at_call 46; refine (may_any b rb F m _ _ HM.out).mono ?_; rw [HX.out]; rintro e w' ⟨rfl, rfl⟩)
      | (go_at_call 39; refine (evict_any rb _ _ _ HA.out).mono ?_; rintro e w' ⟨rfl, ht⟩; have HT := Lib.hid ht; clear ht))
    go_ret
    exact ⟨rfl, HM.out.row HT.out, Own.fr2 HT.out.fr⟩

theorem moff_any (b rb F : Nat) (m : Mm) (w : World) (h : MAt w b rb F m) :
    Calls Try.prog 16 #[.pointer (some ⟨b, 0, none⟩)] w fun e w' => e = .returned (.bool m.off) ∧ w = w' := by
  have c1 := h.c1
  clear h
  go_enter Try.func16, Try.ntmps16
  go_wp2
  go_ret
  exact ⟨rfl, rfl⟩
theorem mcount_any (b rb F : Nat) (m : Mm) (w : World) (h : MAt w b rb F m) :
    Calls Try.prog 24 #[.pointer (some ⟨b, 0, none⟩)] w fun e w' => e = .returned (.int .i64 m.n) ∧ w = w' := by
  have c2 := h.c2
  clear h
  go_enter Try.func24, Try.ntmps24
  go_wp2
  go_ret
  exact ⟨rfl, rfl⟩
theorem mrows_any (b rb F : Nat) (m : Mm) (w : World) (h : MAt w b rb F m) :
    Calls Try.prog 23 #[.pointer (some ⟨b, 0, none⟩)] w fun e w' => e = .returned (.int .i64 m.rows.length) ∧ w = w' := by
  have c0 := h.c0
  have hf := h.few
  obtain ⟨n, hn⟩ : ∃ n, n = m.rows.length := ⟨_, rfl⟩
  rw [← hn] at c0 hf ⊢
  clear h hn
  go_enter Try.func23, Try.ntmps23
  go_wp2
  go_ret
  exact ⟨rfl, rfl⟩

def Mm.on (m : Mm) : Mm := { m with off := false }
theorem MAt.turnsOn {w : World} {b rb F : Nat} {m : Mm} (h : MAt w b rb F m) : MAt (w.setCell ⟨b, 1, none⟩ (.bool false)) b rb F m.on ∧ Own b rb w (w.setCell ⟨b, 1, none⟩ (.bool false)) := by
  have f1 : Fr w (w.setCell ⟨b, 1, none⟩ (.bool false)) b 1 4 := Fr.set_ w _ (by omega) (by omega)
  obtain ⟨x, h4, hz⟩ := h.c4
  have o : ∀ j, j ≠ 1 → (w.setCell ⟨b, 1, none⟩ (.bool false)).cell? ⟨b, j, none⟩ = w.cell? ⟨b, j, none⟩ := fun j hj => World.cell?_setCell_other _ _ _ _ (fun e => by injection e with _ e; omega)
  exact ⟨h.cells_ f1 rfl (Nat.le_refl _) h.calls0 (by rw [World.cell?_setCell_same _ _ _ h.c1]; rfl) (by rw [o 2 (by omega)]; exact h.c2) (by rw [o 3 (by omega)]; exact h.c3) ⟨x, by rw [o 4 (by omega)]; exact h4, hz⟩, Own.fr f1⟩
theorem mon_any (b rb F : Nat) (m : Mm) (w : World) (h : MAt w b rb F m) :
    Calls Try.prog 18 #[.pointer (some ⟨b, 0, none⟩)] w fun e w' => e = .returned (.tuple #[]) ∧ MAt w' b rb F m.on ∧ Own b rb w w' := by
  have c1 := h.c1
  have f1 := h.free 1 (by omega)
  have H1 := Lib.hid h.turnsOn
  clear h
  go_enter Try.func18, Try.ntmps18
  go_wp2
  go_end0
  exact ⟨rfl, H1.out.1, H1.out.2⟩
end Go.Proofs.Ytehfkibpcdcddaa
