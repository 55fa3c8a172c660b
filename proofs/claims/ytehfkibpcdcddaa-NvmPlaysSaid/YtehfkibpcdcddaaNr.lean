/-
  The walks of the reference's count, Load, Store, Swap, Flush, Fence, Evict, Fuse. Conditions: fewer counted than 2 to the 62; lists shorter than a million.
-/
import Derived.Test.YtehfkibpcdcddaaNq
namespace Go.Proofs.Ytehfkibpcdcddaa
open Go.RowKit

/-- it counts, or the power goes -/
def Mm.tick (m : Mm) : Bool × Mm := if m.calls = 1 then (false, m.down m.kept) else (true, { m with n := m.n + 1, calls := if 1 < m.calls then m.calls - 1 else m.calls })
theorem begin_tick (m : Mm) (t : Bool) : m.begin t = if m.may t = 0 then ((if m.tick.1 = true then 0 else 12), m.tick.2) else (m.may t, m) := by
  unfold Mm.begin Mm.tick
  by_cases h : m.may t = 0
  · rw [if_pos h, if_pos h]
    by_cases h1 : m.calls = 1
    · rw [if_pos h1, if_pos h1]; rfl
    · rw [if_neg h1, if_neg h1]; rfl
  · rw [if_neg h, if_neg h]

theorem Lies.apart {w : World} {F b rb : Nat} {A : Option Addr} {cap : Nat} {l : List Int} (h : Lies w F (.slice A l.length cap) .i64 l) (h1 : b < F) (h2 : rb < F) : Apart w b rb A l := by
  obtain ⟨A', cap', e, hc⟩ := h
  injection e with e1 e2 e3
  subst e1
  intro h0
  obtain ⟨g, o, e4, g1, g2, g3⟩ := hc h0
  exact ⟨g, o, e4, by omega, by omega, g2, g3⟩

set_option maxHeartbeats 1000000 in
theorem rcount_any (b rb F : Nat) (m : Mm) (w : World) (h : RAt w b rb F m) (hoff : m.off = false) (n0 : 0 ≤ m.n) (n1 : m.n < 4611686018427387904) :
    Calls Try.prog 49 #[.pointer (some ⟨b, 0, none⟩)] w fun e w' => e = .returned (.bool m.tick.1) ∧ RAt w' b rb F m.tick.2 ∧ Own b rb w w' := by
  have HM := Lib.hid h
  obtain ⟨z, v, c3, c4, hz, hzz⟩ := h.c34
  have f2 := h.free 2 (by omega)
  have f3 := h.free 3 (by omega)
  have HOF := Lib.hid hoff
  clear hoff
  rcases hzz with ⟨hz0, hc0⟩ | ⟨hz0, hzc, l, hL, hll, hkp⟩
  · have ht : m.tick = (true, { m with n := m.n + 1 }) := by unfold Mm.tick; rw [if_neg (by omega), if_neg (by omega)]
    rw [ht]
    have c2 := h.c2
    have s1 := h.cell_ { m with n := m.n + 1 } 2 (.int .i64 (m.n + 1)) rfl (by omega) (by omega) (.inl rfl) (fun q => absurd q (by decide)) (fun q => absurd rfl q) (fun _ => rfl) (fun z v _ _ hz => ⟨z, v, fun q => absurd q (by decide), fun _ => rfl, fun q => absurd q (by decide), fun _ => rfl, hz⟩)
    have H1 := Lib.hid s1
    obtain ⟨k, hk⟩ : ∃ k, k = m.n := ⟨_, rfl⟩
    rw [← hk] at n0 n1 c2 H1 ⊢
    have g : ¬ 0 < z := by omega
    clear h ht s1 hk hc0 hz
    go_enter Try.func49, Try.ntmps49
    go_wp2
    go_ret
    exact ⟨rfl, H1.out⟩
  · by_cases h1 : m.calls = 1
    · have ht : m.tick = (false, m.down m.kept) := by unfold Mm.tick; rw [if_pos h1]
      rw [ht]
      have hz1 : z = 1 := by omega
      subst hz1
      have s1 := h.cell_ { m with calls := 0 } 3 (.int .i64 0) rfl (by omega) (by omega) (.inl rfl) (fun q => absurd q (by decide)) (fun _ => rfl) (fun q => absurd q (by decide)) (fun z v _ _ _ => ⟨0, v, fun _ => rfl, fun q => absurd rfl q, fun q => absurd q (by decide), fun _ => rfl, by omega, .inl ⟨Int.le_refl _, rfl⟩⟩)
      have H1 := Lib.hid s1
      have hv : (w.setCell ⟨b, 3, none⟩ (.int .i64 0)).cell? ⟨b, 4, none⟩ = some v := (World.cell?_setCell_other _ _ _ _ (fun e => by injection e with _ e; omega)).trans c4
      have hL2 := hL.own s1.2 h.bF h.rF
      obtain ⟨A, cap, rfl, hc⟩ := hL2
      have hap := Lies.apart (b := b) (rb := rb) (cap := cap) ⟨A, cap, rfl, hc⟩ h.bF h.rF
      have HAP := Lib.hid hap
      have HLL := Lib.hid hll
      have hcr : ({ m with calls := 0 } : Mm).crash l = m.down m.kept := by
        unfold Mm.crash
        rw [if_neg (by show ¬ m.off = true; rw [HOF.out]; simp)]
        have : m.kept = fun k : Nat => decide ((k : Int) ∈ l) := funext hkp
        rw [this]; rfl
      have HCR := Lib.hid hcr
      clear h ht s1 hL hc hap hcr hkp hll hzc h1 c4 hz
      go_enter Try.func49, Try.ntmps49
      go_wp2_with (go_at_call 33; refine (rcrash_any b rb F _ A cap l _ H1.out.1 HLL.out HAP.out).mono ?_; rw [HCR.out]; rintro e w' ⟨rfl, hm, ho⟩; have HM2 := Lib.hid hm; have HO := Lib.hid ho; clear hm ho)
      go_ret
      exact ⟨rfl, HM2.out, H1.out.2.trans HO.out⟩
    · have h2 : 1 < m.calls := by omega
      have ht : m.tick = (true, { m with n := m.n + 1, calls := m.calls - 1 }) := by unfold Mm.tick; rw [if_neg h1, if_pos h2]
      rw [ht]
      have s1 := h.cell_ { m with calls := m.calls - 1 } 3 (.int .i64 (z - 1)) rfl (by omega) (by omega) (.inl rfl) (fun q => absurd q (by decide)) (fun _ => rfl) (fun q => absurd q (by decide)) (fun z' v' h3 h4 hr => ⟨z - 1, v', fun _ => rfl, fun q => absurd rfl q, fun q => absurd q (by decide), fun _ => rfl, by omega, .inr ⟨by omega, by simp only; omega, by
          rw [c4] at h4
          injection h4 with h4
          subst h4
          exact ⟨l, hL, hll, hkp⟩⟩⟩)
      have c2 := s1.1.c2
      have s2 := s1.1.cell_ { m with n := m.n + 1, calls := m.calls - 1 } 2 (.int .i64 (m.n + 1)) rfl (by omega) (by omega) (.inl rfl) (fun q => absurd q (by decide)) (fun q => absurd rfl q) (fun _ => rfl) (fun z v _ _ hz => ⟨z, v, fun q => absurd q (by decide), fun _ => rfl, fun q => absurd q (by decide), fun _ => rfl, hz⟩)
      have H2 := Lib.hid s2.1
      have HO := Lib.hid (s1.2.trans s2.2)
      simp only at c2
      obtain ⟨k, hk⟩ : ∃ k, k = m.n := ⟨_, rfl⟩
      rw [← hk] at n0 n1 c2 H2 HO ⊢
      have g : ((z - 1 : Int) == 0) = false := by simp; omega
      clear h ht s1 s2 hL hkp hll hzc h1 hk h2
      go_enter Try.func49, Try.ntmps49
      go_wp2
      go_ret
      exact ⟨rfl, H2.out, HO.out⟩
theorem word_look (m : Mm) (i : Int) (n : Nat) (h : n = m.rows.length) : inb (8 * (n : Int)) i = m.word i := by
  unfold Mm.word; rw [h, Int.mul_comm]
theorem line_look (m : Mm) (i : Int) (n : Nat) (h : n = m.rows.length) : inb (n : Int) i = m.line i := by
  unfold Mm.line; rw [h]

set_option maxHeartbeats 1000000 in
theorem rload_any (b rb F : Nat) (m : Mm) (i : Int) (w : World) (h : RAt w b rb F m) :
    Calls Try.prog 35 #[.pointer (some ⟨b, 0, none⟩), .int .i64 i] w fun e w' => e = .returned (.tuple #[.int .u64 (m.load i).1, .int .i64 (m.load i).2]) ∧ w = w' := by
  have HM := Lib.hid h
  have c0 := h.c0
  have hf := h.few
  obtain ⟨n, hn⟩ : ∃ n, n = m.rows.length := ⟨_, rfl⟩
  rw [← hn] at c0 hf
  have HW := Lib.hid (word_look m i n hn)
  rcases may_cases m (m.word i) with ⟨v, hv, hv0⟩ | hv
  · have hl : m.load i = (0, v) := by unfold Mm.load; rw [if_neg (by rw [hv]; simpa using hv0), hv]
    rw [hl]
    have HV := Lib.hid hv
    clear h hv hl hn
    go_enter Try.func35, Try.ntmps35
    go_wp2_with (go_at_call 48; refine (look_any b rb F m i _ _ HM.out).mono ?_; rw [HW.out, HV.out]; rintro e w' ⟨rfl, rfl⟩)
    go_ret2
    exact ⟨rfl, rfl⟩
  · have hl : m.load i = ((m.get (i.toNat / 8)).load ((i.toNat % 8 : Nat) : Int), 0) := by unfold Mm.load; rw [if_pos hv]
    rw [hl]
    have HV := Lib.hid hv
    obtain ⟨x0, x1⟩ := inb_yes (may_zero hv).1
    obtain ⟨a, rfl⟩ := Int.eq_ofNat_of_zero_le x0
    have hlt : a / 8 < m.rows.length := by omega
    have ha := h.rows _ _ (Mm.get_some hlt)
    rw [← hn] at hlt
    have hld : (m.get (a / 8)).load ((a % 8 : Nat) : Int) = (m.get (a / 8)).N.getD (a % 8) 0 := by
      unfold Ln.load
      rw [if_pos (by unfold inl; simp; omega), Int.toNat_natCast]
    rw [Int.toNat_natCast, hld]
    have c1 := ha.N (j := a % 8) (by omega)
    have h8 : (a : Int) % 8 < 8 := by omega
    clear h hv hl x1 hn x0 ha hld
    go_enter Try.func35, Try.ntmps35
    go_wp2_with (go_at_call 48; refine (look_any b rb F m _ _ _ HM.out).mono ?_; rw [HW.out, HV.out]; rintro e w' ⟨rfl, rfl⟩)
    go_ret2
    exact ⟨rfl, rfl⟩

set_option maxHeartbeats 1000000 in
theorem rmstore_any (b rb F : Nat) (m : Mm) (i v : Int) (w : World) (h : RAt w b rb F m) (n0 : 0 ≤ m.n) (n1 : m.n < 4611686018427387904) :
    Calls Try.prog 26 #[.pointer (some ⟨b, 0, none⟩), .int .i64 i, .int .u64 v] w fun e w' => e = .returned (.int .i64 (m.store i v).1) ∧ RAt w' b rb F (m.store i v).2 ∧ Own b rb w w' := by
  have HM := Lib.hid h
  have N0 := Lib.hid n0
  have N1 := Lib.hid n1
  have c0 := h.c0
  have hf := h.few
  obtain ⟨n, hn⟩ : ∃ n, n = m.rows.length := ⟨_, rfl⟩
  rw [← hn] at c0 hf
  have HW := Lib.hid (word_look m i n hn)
  have HN := Lib.hid hn
  rcases may_cases m (m.word i) with ⟨x, hx, hx0⟩ | hx
  · have hb : m.begin (m.word i) = (x, m) := by rw [begin_tick, if_neg (by rw [hx]; simpa using hx0), hx]
    have hl : m.store i v = (x, m) := by unfold Mm.store; rw [hb, if_neg (by simpa using hx0)]
    rw [hl]
    have HX := Lib.hid hx
    clear h hx hl n0 n1 hn hb
    go_enter Try.func26, Try.ntmps26
    go_wp2_with (go_at_call 48; refine (look_any b rb F m i _ _ HM.out).mono ?_; rw [HW.out, HX.out]; rintro e w' ⟨rfl, rfl⟩)
    go_ret
    exact ⟨rfl, HM.out, Own.refl _ _ _⟩
  · have HX := Lib.hid hx
    have HOF := Lib.hid (may_zero hx).2
    obtain ⟨x0, x1⟩ := inb_yes (may_zero hx).1
    obtain ⟨a, rfl⟩ := Int.eq_ofNat_of_zero_le x0
    have hlt : a / 8 < m.rows.length := by omega
    have HLT := Lib.hid hlt
    rw [← hn] at hlt
    have hb : m.begin (m.word a) = ((if m.tick.1 = true then 0 else 12), m.tick.2) := by rw [begin_tick, if_pos hx]
    rcases htk : m.tick with ⟨t, m2⟩
    rw [htk] at hb
    have HTK := Lib.hid htk
    cases t
    · have hl : m.store a v = (12, m2) := by unfold Mm.store; rw [hb]; rfl
      rw [hl]
      clear h hx hl n0 n1 hn hb htk x0 x1
      go_enter Try.func26, Try.ntmps26
      go_wp2_with (first
        | (go_at_call 48; refine (look_any b rb F m _ _ _ HM.out).mono ?_; rw [HW.out, HX.out]; rintro e w' ⟨rfl, rfl⟩)
        | (go_at_call 49; refine (rcount_any b rb F m _ HM.out HOF.out N0.out N1.out).mono ?_; rw [HTK.out]; rintro e w' ⟨rfl, hm, ho⟩; have HM2 := Lib.hid hm; have HO := Lib.hid ho; clear hm ho))
      go_ret
      exact ⟨rfl, HM2.out, HO.out⟩
    · have hl : m.store a v = (0, m2.put (a / 8) ((m2.get (a / 8)).store ((a % 8 : Nat) : Int) v)) := by unfold Mm.store; rw [hb]; rfl
      rw [hl]
      have hrow : m2.rows = m.rows := by
        unfold Mm.tick at htk
        split at htk
        · injection htk with h1 _; cases h1
        · injection htk with _ h2; rw [← h2]
      have HR := Lib.hid hrow
      clear h hx hl n0 n1 hn hb htk hrow x0 x1
      go_enter Try.func26, Try.ntmps26
      go_wp2_with (first
        | (go_at_call 48; refine (look_any b rb F m _ _ _ HM.out).mono ?_; rw [HW.out, HX.out]; rintro e w' ⟨rfl, rfl⟩)
        | (go_at_call 49
           refine (rcount_any b rb F m _ HM.out HOF.out N0.out N1.out).mono ?_
           rw [HTK.out]
           rintro e w' ⟨rfl, hm, ho⟩
           have c0 := hm.c0
           rw [HR.out, ← HN.out] at c0
           have HA := Lib.hid (hm.rows _ _ (Mm.get_some (i := a / 8) (by rw [HR.out]; exact HLT.out)))
           have HM2 := Lib.hid hm
           have HO := Lib.hid ho
           clear hm ho)
        | (go_at_call 50; refine (rstore_any rb _ _ _ _ _ HA.out).mono ?_; rintro e w' ⟨rfl, ht⟩; have HT := Lib.hid ht; clear ht))
      go_ret
      exact ⟨rfl, HM2.out.row HT.out, HO.out.trans (Own.fr2 HT.out.fr)⟩

set_option maxHeartbeats 1000000 in
theorem rmflush_any (b rb F : Nat) (m : Mm) (i : Int) (w : World) (h : RAt w b rb F m) (n0 : 0 ≤ m.n) (n1 : m.n < 4611686018427387904) :
    Calls Try.prog 28 #[.pointer (some ⟨b, 0, none⟩), .int .i64 i] w fun e w' => e = .returned (.int .i64 (m.flush i).1) ∧ RAt w' b rb F (m.flush i).2 ∧ Own b rb w w' := by
  have HM := Lib.hid h
  have N0 := Lib.hid n0
  have N1 := Lib.hid n1
  have c0 := h.c0
  have hf := h.few
  obtain ⟨n, hn⟩ : ∃ n, n = m.rows.length := ⟨_, rfl⟩
  rw [← hn] at c0 hf
  have HW := Lib.hid (line_look m i n hn)
  have HN := Lib.hid hn
  rcases may_cases m (m.line i) with ⟨x, hx, hx0⟩ | hx
  · have hb : m.begin (m.line i) = (x, m) := by rw [begin_tick, if_neg (by rw [hx]; simpa using hx0), hx]
    have hl : m.flush i = (x, m) := by unfold Mm.flush; rw [hb, if_neg (by simpa using hx0)]
    rw [hl]
    have HX := Lib.hid hx
    clear h hx hl n0 n1 hn hb
    go_enter Try.func28, Try.ntmps28
    go_wp2_with (go_at_call 48; refine (look_any b rb F m i _ _ HM.out).mono ?_; rw [HW.out, HX.out]; rintro e w' ⟨rfl, rfl⟩)
    go_ret
    exact ⟨rfl, HM.out, Own.refl _ _ _⟩
  · have HX := Lib.hid hx
    have HOF := Lib.hid (may_zero hx).2
    obtain ⟨x0, x1⟩ := inb_yes (may_zero hx).1
    obtain ⟨a, rfl⟩ := Int.eq_ofNat_of_zero_le x0
    have hlt : a < m.rows.length := by omega
    have HLT := Lib.hid hlt
    rw [← hn] at hlt
    have hlt2 : (a : Int) < (n : Int) := by omega
    have hb : m.begin (m.line a) = ((if m.tick.1 = true then 0 else 12), m.tick.2) := by rw [begin_tick, if_pos hx]
    rcases htk : m.tick with ⟨t, m2⟩
    rw [htk] at hb
    have HTK := Lib.hid htk
    cases t
    · have hl : m.flush a = (12, m2) := by unfold Mm.flush; rw [hb]; rfl
      rw [hl]
      clear h hx hl n0 n1 hn hb htk x0 x1
      go_enter Try.func28, Try.ntmps28
      go_wp2_with (first
        | (go_at_call 48; refine (look_any b rb F m _ _ _ HM.out).mono ?_; rw [HW.out, HX.out]; rintro e w' ⟨rfl, rfl⟩)
        | (go_at_call 49; refine (rcount_any b rb F m _ HM.out HOF.out N0.out N1.out).mono ?_; rw [HTK.out]; rintro e w' ⟨rfl, hm, ho⟩; have HM2 := Lib.hid hm; have HO := Lib.hid ho; clear hm ho))
      go_ret
      exact ⟨rfl, HM2.out, HO.out⟩
    · have hl : m.flush a = (0, m2.put a (m2.get a).flush) := by unfold Mm.flush; rw [hb]; rfl
      rw [hl]
      have hrow : m2.rows = m.rows := by
        unfold Mm.tick at htk
        split at htk
        · injection htk with h1 _; cases h1
        · injection htk with _ h2; rw [← h2]
      have HR := Lib.hid hrow
      clear h hx hl n0 n1 hn hb htk hrow x0 x1
      go_enter Try.func28, Try.ntmps28
      go_wp2_with (first
        | (go_at_call 48; refine (look_any b rb F m _ _ _ HM.out).mono ?_; rw [HW.out, HX.out]; rintro e w' ⟨rfl, rfl⟩)
        | (go_at_call 49
           refine (rcount_any b rb F m _ HM.out HOF.out N0.out N1.out).mono ?_
           rw [HTK.out]
           rintro e w' ⟨rfl, hm, ho⟩
           have c0 := hm.c0
           rw [HR.out, ← HN.out] at c0
           have HA := Lib.hid (hm.rows _ _ (Mm.get_some (i := a) (by rw [HR.out]; exact HLT.out)))
           have HM2 := Lib.hid hm
           have HO := Lib.hid ho
           clear hm ho)
        | (go_at_call 51; refine (rflush_any rb _ _ _ HA.out).mono ?_; rintro e w' ⟨rfl, ht⟩; have HT := Lib.hid ht; clear ht))
      go_ret
      exact ⟨rfl, HM2.out.row HT.out, HO.out.trans (Own.fr2 HT.out.fr)⟩

set_option maxHeartbeats 1000000 in
theorem rmevict_any (b rb F : Nat) (m : Mm) (i : Int) (w : World) (h : RAt w b rb F m) :
    Calls Try.prog 32 #[.pointer (some ⟨b, 0, none⟩), .int .i64 i] w fun e w' => e = .returned (.int .i64 (m.evict i).1) ∧ RAt w' b rb F (m.evict i).2 ∧ Own b rb w w' := by
  have HM := Lib.hid h
  have c0 := h.c0
  have hf := h.few
  obtain ⟨n, hn⟩ : ∃ n, n = m.rows.length := ⟨_, rfl⟩
  rw [← hn] at c0 hf
  have HW := Lib.hid (line_look m i n hn)
  rcases may_cases m (m.line i) with ⟨x, hx, hx0⟩ | hx
  · have hl : m.evict i = (x, m) := by unfold Mm.evict; rw [if_neg (by rw [hx]; simpa using hx0), hx]
    rw [hl]
    have HX := Lib.hid hx
    clear h hx hl hn
    go_enter Try.func32, Try.ntmps32
    go_wp2_with (go_at_call 48; refine (look_any b rb F m i _ _ HM.out).mono ?_; rw [HW.out, HX.out]; rintro e w' ⟨rfl, rfl⟩)
    go_ret
    exact ⟨rfl, HM.out, Own.refl _ _ _⟩
  · have hl : m.evict i = (0, m.put i.toNat ((m.get i.toNat).fall true)) := by unfold Mm.evict; rw [if_pos hx]
    rw [hl]
    have HX := Lib.hid hx
    obtain ⟨x0, x1⟩ := inb_yes (may_zero hx).1
    obtain ⟨a, rfl⟩ := Int.eq_ofNat_of_zero_le x0
    have hlt : a < m.rows.length := by omega
    have HA := Lib.hid (h.rows _ _ (Mm.get_some hlt))
    rw [← hn] at hlt
    have hlt2 : (a : Int) < (n : Int) := by omega
    clear h hx hl x1 hn x0
    rw [Int.toNat_natCast]
    go_enter Try.func32, Try.ntmps32
    go_wp2_with (first
      | (go_at_call 48; refine (look_any b rb F m _ _ _ HM.out).mono ?_; rw [HW.out, HX.out]; rintro e w' ⟨rfl, rfl⟩)
      | (go_at_call 54; refine (revict_any rb _ _ _ HA.out).mono ?_; rintro e w' ⟨rfl, ht⟩; have HT := Lib.hid ht; clear ht))
    go_ret
    exact ⟨rfl, HM.out.row HT.out, Own.fr2 HT.out.fr⟩

set_option maxHeartbeats 1000000 in
theorem rswap_any (b rb F : Nat) (m : Mm) (i o v : Int) (w : World) (h : RAt w b rb F m) (n0 : 0 ≤ m.n) (n1 : m.n < 4611686018427387904) :
    Calls Try.prog 27 #[.pointer (some ⟨b, 0, none⟩), .int .i64 i, .int .u64 o, .int .u64 v] w fun e w' => e = .returned (.tuple #[.bool (m.swap i o v).1.1, .int .i64 (m.swap i o v).1.2]) ∧ RAt w' b rb F (m.swap i o v).2 ∧ Own b rb w w' := by
  have HM := Lib.hid h
  have N0 := Lib.hid n0
  have N1 := Lib.hid n1
  clear h n0 n1
  obtain ⟨x, hx⟩ : ∃ x, (m.load i).1 = x := ⟨_, rfl⟩
  obtain ⟨y, hy⟩ : ∃ y, (m.load i).2 = y := ⟨_, rfl⟩
  have HX := Lib.hid hx
  have HY := Lib.hid hy
  by_cases e1 : y = 0
  · subst e1
    by_cases e2 : x = o
    · subst e2
      have hs : m.swap i x v = (((m.store i v).1 == 0, (m.store i v).1), (m.store i v).2) := by unfold Mm.swap; rw [if_pos ⟨hy, hx⟩]
      rw [hs]
      clear hs hx hy
      obtain ⟨z, hz⟩ : ∃ z, (m.store i v).1 = z := ⟨_, rfl⟩
      have HZ := Lib.hid hz
      rw [hz]
      clear hz
      go_enter Try.func27, Try.ntmps27
      go_wp2_with (first
        | (go_at_call 35; refine (rload_any b rb F m i _ HM.out).mono ?_; rw [HX.out, HY.out]; rintro e w' ⟨rfl, rfl⟩)
        | (go_at_call 26; refine (rmstore_any b rb F m i v _ HM.out N0.out N1.out).mono ?_; rw [HZ.out]; rintro e w' ⟨rfl, hm, ho⟩; have HM2 := Lib.hid hm; have HO := Lib.hid ho; clear hm ho))
      go_ret2
      exact ⟨rfl, HM2.out, HO.out⟩
    · have hs : m.swap i o v = ((false, 0), m) := by unfold Mm.swap; rw [if_neg (by rw [hx]; exact fun h => e2 h.2), hy]
      rw [hs]
      have hd : (x == o) = false := by simpa using e2
      clear hs hx hy e2
      go_enter Try.func27, Try.ntmps27
      go_wp2_with (go_at_call 35; refine (rload_any b rb F m i _ HM.out).mono ?_; rw [HX.out, HY.out]; rintro e w' ⟨rfl, rfl⟩)
      go_ret2
      exact ⟨rfl, HM.out, Own.refl _ _ _⟩
  · have hs : m.swap i o v = ((false, y), m) := by unfold Mm.swap; rw [if_neg (by rw [hy]; exact fun h => e1 h.1), hy]
    rw [hs]
    have hd : (y == 0) = false := by simpa using e1
    clear hs hx hy e1
    go_enter Try.func27, Try.ntmps27
    go_wp2_with (go_at_call 35; refine (rload_any b rb F m i _ HM.out).mono ?_; rw [HX.out, HY.out]; rintro e w' ⟨rfl, rfl⟩)
    go_ret2
    exact ⟨rfl, HM.out, Own.refl _ _ _⟩
end Go.Proofs.Ytehfkibpcdcddaa
