/-
  The walk of the reference's Same: two states held against each other. Condition: both lie in memory, at most a thousand slots and things.
-/
import Derived.Test.YtloemadjiombhaaJg
namespace Go.Proofs.Ytloemadjiombhaa
open Go.RowKit

theorem eqgeo (a b : Gd) (w : World) : (Op.equalIn 10000 58 (.agg #[.int .i64 a.t, .int .i64 a.s, .int .i64 a.k]) (.agg #[.int .i64 b.t, .int .i64 b.s, .int .i64 b.k])).run Try.prog w = .ok (a.eq b) w := by
  obtain ⟨x, y, z⟩ := a
  obtain ⟨x', y', z'⟩ := b
  by_cases h1 : x = x' <;> by_cases h2 : y = y' <;> by_cases h3 : z = z'
  all_goals simp [go_sem, Gd.eq, h1, h2, h3]
def Sl.val (x : Sl) : Value := .agg #[.int .i64 x.c.ty, .int .i64 x.c.th, .int .i64 x.c.ri, .int .i64 x.c.ba, .int .i64 x.up]
theorem eqslot (x y : Sl) (w : World) : (Op.equalIn 10000 86 x.val y.val).run Try.prog w = .ok (x.eq y) w := by
  obtain ⟨⟨a, b, c, d⟩, u⟩ := x
  obtain ⟨⟨a', b', c', d'⟩, u'⟩ := y
  unfold Sl.val
  by_cases h1 : a = a' <;> by_cases h2 : b = b' <;> by_cases h3 : c = c' <;> by_cases h4 : d = d' <;> by_cases h5 : u = u'
  all_goals simp [go_sem, Sl.eq, Cp.eq, h1, h2, h3, h4, h5]
theorem sl_ext {l m : List Sl} (h : l.length = m.length) (e : ∀ j, j < l.length → slAt l j = slAt m j) : l = m := by
  refine List.ext_getElem? fun j => ?_
  rcases Nat.lt_or_ge j l.length with hj | hj
  · rw [slAt_get hj, slAt_get (h ▸ hj), e j hj]
  · rw [List.getElem?_eq_none hj, List.getElem?_eq_none (h ▸ hj)]
theorem th_ext {l m : List Tng} (h : l.length = m.length) (e : ∀ j, j < l.length → thAt l j = thAt m j) : l = m := by
  refine List.ext_getElem? fun j => ?_
  rcases Nat.lt_or_ge j l.length with hj | hj
  · rw [thAt_get hj, thAt_get (h ▸ hj), e j hj]
  · rw [List.getElem?_eq_none hj, List.getElem?_eq_none (h ▸ hj)]
/-- two states' boxes -/
structure Two (W w : World) (g h : Nat) (a b c : Int) (A : Option Addr) (n ca : Nat) (C : Option Addr) (m cc : Nat) (a' b' c' : Int) (A' : Option Addr) (n' ca' : Nat) (C' : Option Addr) (m' cc' : Nat) : Prop where
  x : Sbx W w g a b c A n ca C m cc
  y : Sbx W w h a' b' c' A' n' ca' C' m' cc'
theorem Two.on {W w w' : World} {g h : Nat} {a b c : Int} {A : Option Addr} {n ca : Nat} {C : Option Addr} {m cc : Nat} {a' b' c' : Int} {A' : Option Addr} {n' ca' : Nat} {C' : Option Addr} {m' cc' : Nat} (k : Two W w g h a b c A n ca C m cc a' b' c' A' n' ca' C' m' cc') (hb : Below w.heap.size w w') : Two W w' g h a b c A n ca C m cc a' b' c' A' n' ca' C' m' cc' := ⟨k.x.on hb, k.y.on hb⟩
theorem Sbx.also {W w : World} (h : Below W.heap.size W w) (a b c : Int) (A : Option Addr) (n ca : Nat) (C : Option Addr) (m cc : Nat) (t : TypeId) : Sbx W (w.alloc (.cells #[.int .i64 a, .int .i64 b, .int .i64 c, .slice A n ca, .slice C m cc] t)) w.heap.size a b c A n ca C m cc := by
  have k := Sbx.new w a b c A n ca C m cc t
  exact ⟨k.c0, k.c1, k.c2, k.c3, k.c4, below_on h k.old, h.size, k.lt⟩
def SaRel {α : Type} (W : World) (g h : Nat) (a b c : Int) (A : Option Addr) (n ca : Nat) (C : Option Addr) (m cc : Nat) (a' b' c' : Int) (A' : Option Addr) (n' ca' : Nat) (C' : Option Addr) (m' cc' : Nat) (N : Nat) (P Q : Nat → α) (f : Nat) (p : Value) (wr : World) : Prop :=
  ∃ i : Nat, f + i = N ∧ p = .int .i64 i ∧ (∀ j, j < i → P j = Q j) ∧ Two W wr g h a b c A n ca C m cc a' b' c' A' n' ca' C' m' cc'
set_option maxHeartbeats 8000000 in
theorem rsame_is {s t : St} {a b c a' b' c' : Int} {A C A' C' : Option Addr} {n ca m cc n' ca' m' cc' : Nat} {r : Bool} {w : World} (hS : StAt w s A C) (hT : StAt w t A' C') (hg : s.g = ⟨a, b, c⟩) (hg' : t.g = ⟨a', b', c'⟩) (hn : n = s.sl.length) (hm : m = s.th.length) (hn' : n' = t.sl.length) (hm' : m' = t.th.length) (few : n ≤ 1000) (few2 : m ≤ 1000) (hr : s.same t = r) :
    Calls Try.prog 23 #[.agg #[.int .i64 a, .int .i64 b, .int .i64 c, .slice A n ca, .slice C m cc], .agg #[.int .i64 a', .int .i64 b', .int .i64 c', .slice A' n' ca', .slice C' m' cc']] w fun e w' => e = .returned (.bool r) ∧ Below w.heap.size w w' := by
  have k1 := Sbx.new w a b c A n ca C m cc 62
  have k2 := Sbx.also k1.old a' b' c' A' n' ca' C' m' cc' 62
  have hK : Two w _ w.heap.size (w.heap.size + 1) a b c A n ca C m cc a' b' c' A' n' ca' C' m' cc' := ⟨k1.on (below_alloc _ _), by simpa using k2⟩
  have heq : ∀ w, (Op.equalIn 10000 58 (.agg #[.int .i64 a, .int .i64 b, .int .i64 c]) (.agg #[.int .i64 a', .int .i64 b', .int .i64 c'])).run Try.prog w = .ok (Gd.eq ⟨a, b, c⟩ ⟨a', b', c'⟩) w := fun w => eqgeo ⟨a, b, c⟩ ⟨a', b', c'⟩ w
  have HS := Lib.hid hS
  have HT := Lib.hid hT
  have HN := Lib.hid hn
  have HM := Lib.hid hm
  have HN' := Lib.hid hn'
  have HM' := Lib.hid hm'
  have HR : Hid (s ≠ t → r = false) := Lib.hid fun h => by rw [← hr]; exact Bool.eq_false_iff.2 fun e => h (St.same_iff.1 e)
  have HY : Hid (s = t → r = true) := Lib.hid fun h => by rw [← hr]; exact St.same_iff.2 h
  have HGE : Hid (Gd.eq ⟨a, b, c⟩ ⟨a', b', c'⟩ = true ↔ s.g = t.g) := Lib.hid (by rw [hg, hg', Gd.eq_iff])
  clear hS hT hn hm hn' hm' hr hg hg' k1 k2
  generalize Gd.eq ⟨a, b, c⟩ ⟨a', b', c'⟩ = z at heq HGE
  rcases z with _ | _
  · have HF : Hid (r = false) := Lib.hid (HR.out fun e => by have := HGE.out.2 (by rw [e]); cases this)
    go_enter Try.func23, Try.ntmps23
    go_wp2
    go_ret
    exact ⟨by rw [HF.out]; rfl, hK.x.old⟩
  by_cases h1 : n = n'
  rotate_left
  · have HF : Hid (r = false) := Lib.hid (HR.out fun e => by have := HN.out; have := HN'.out; rw [e] at *; omega)
    have h2 : (n != n') = true := by simpa using h1
    have h3 : ((n : Int) != (n' : Int)) = true := by simpa using (fun q : (n : Int) = (n' : Int) => h1 (by omega))
    clear h1
    go_enter Try.func23, Try.ntmps23
    go_wp2
    go_ret
    exact ⟨by rw [HF.out]; rfl, hK.x.old⟩
  subst h1
  by_cases h1 : m = m'
  rotate_left
  · have HF : Hid (r = false) := Lib.hid (HR.out fun e => by have := HM.out; have := HM'.out; rw [e] at *; omega)
    have h2 : (m != m') = true := by simpa using h1
    have h3 : ((m : Int) != (m' : Int)) = true := by simpa using (fun q : (m : Int) = (m' : Int) => h1 (by omega))
    clear h1
    go_enter Try.func23, Try.ntmps23
    go_wp2
    go_ret
    exact ⟨by rw [HF.out]; rfl, hK.x.old⟩
  subst h1
  have HGG : Hid (s.g = t.g) := Lib.hid (HGE.out.1 rfl)
  clear HGE
  go_enter Try.func23, Try.ntmps23
  go_wp2_with fail
  clear heq
  obtain ⟨g, hg⟩ : ∃ g, g = w.heap.size := ⟨_, rfl⟩
  obtain ⟨h, hh⟩ : ∃ h, h = w.heap.size + 1 := ⟨_, rfl⟩
  rw [← hh, ← hg] at hK ⊢
  clear hg hh
  generalize (w.alloc _).alloc _ = w1 at hK ⊢
  have HK := Lib.hid hK
  clear hK
  go_loopg [5] n (fun f p wr => SaRel w g h a b c A n ca C m cc a' b' c' A' n ca' C' m cc' n (slAt s.sl) (slAt t.sl) f p wr)
  case atStart => exact ⟨0, by omega, rfl, fun j h => by omega, HK.out⟩
  case round =>
    obtain ⟨i, hk, rfl, ha, hb⟩ := hrel
    have HI := Lib.hid hk
    have HA := Lib.hid ha
    have HB := Lib.hid hb
    obtain ⟨⟨-, -, -, c3, c4, old, -, lt⟩, ⟨-, -, -, d3, d4, -, -, lt'⟩⟩ := hb
    clear hk ha
    by_cases hlt : i < n
    · have HLT := Lib.hid hlt
      have hlt2 : (i : Int) < (n : Int) := by omega
      obtain ⟨sb, sp, rfl, hsb, hc⟩ := HS.out.sl (by rw [← HN.out]; omega)
      obtain ⟨sb', sp', rfl, hsb', hc'⟩ := HT.out.sl (by rw [← HN'.out]; omega)
      have hT : SlC wr sb (sp + i * 5) (slAt s.sl i) := (hc i (by rw [← HN.out]; exact hlt)).same fun k => old.cell (p := ⟨sb, k, none⟩) hsb
      have hT' : SlC wr sb' (sp' + i * 5) (slAt t.sl i) := (hc' i (by rw [← HN'.out]; exact hlt)).same fun k => old.cell (p := ⟨sb', k, none⟩) hsb'
      have hE : Sl.eq (slAt s.sl i) (slAt t.sl i) = true ↔ slAt s.sl i = slAt t.sl i := Sl.eq_iff
      have heq := fun w => eqslot (slAt s.sl i) (slAt t.sl i) w
      generalize Sl.eq (slAt s.sl i) (slAt t.sl i) = z at heq hE
      have HE1 : Hid (z = true → slAt s.sl i = slAt t.sl i) := Lib.hid hE.1
      have HE2 : Hid (z = false → r = false) := Lib.hid fun q => HR.out fun e => by rw [e] at hE; rw [hE.2 rfl] at q; cases q
      clear hE
      generalize slAt s.sl i = x at hT heq
      generalize slAt t.sl i = y at hT' heq
      obtain ⟨⟨x0, x1, x2, x3⟩, x4⟩ := x
      obtain ⟨⟨y0, y1, y2, y3⟩, y4⟩ := y
      obtain ⟨s0, s1, s2, s3, s4⟩ := hT
      obtain ⟨q0, q1, q2, q3, q4⟩ := hT'
      unfold Sl.val at heq
      simp only at s0 s1 s2 s3 s4 q0 q1 q2 q3 q4 heq
      clear hc hc' hsb hsb'
      rcases z with _ | _
      · have HF := Lib.hid (HE2.out rfl)
        go_wp2_with fail
        go_big_quiet (fail)
        go_wp2
        go_ret
        exact ⟨by rw [HF.out]; rfl, below_draws HB.out.x.old _⟩
      · have HEQ := Lib.hid (HE1.out rfl)
        go_wp2_with fail
        go_big_quiet (fail)
        have HB2 := Lib.hid (HB.out.on (below_draws (below_self wr) nq))
        go_wp2
        go_roundg (n - (i + 1))
        case measure => have := HI.out; have := HLT.out; omega
        case rel =>
          refine ⟨i + 1, by have := HI.out; have := HLT.out; omega, by go_num, fun k hk => ?_, HB2.out⟩
          by_cases e : k = i
          · subst e; exact HEQ.out
          · exact HA.out k (by omega)
    · have hlt2 : ¬ (i : Int) < (n : Int) := by omega
      have HSL : Hid (s.sl = t.sl) := Lib.hid (sl_ext (by rw [← HN.out, HN'.out]) fun j hj => HA.out j (by have := HI.out; have := HN.out; omega))
      clear hlt HA HI
      go_wp2_with fail
      clear c3 c4 old lt d3 d4 lt'
      go_loopg [6] m (fun f p wr => SaRel w g h a b c A n ca C m cc a' b' c' A' n ca' C' m cc' m (thAt s.th) (thAt t.th) f p wr)
      case atStart => exact ⟨0, by omega, rfl, fun j h => by omega, HB.out⟩
      case round =>
        clear HB
        obtain ⟨i, hk, rfl, ha, hb⟩ := hrel
        have HI := Lib.hid hk
        have HA := Lib.hid ha
        have HB := Lib.hid hb
        obtain ⟨⟨-, -, -, -, c4, old, -, lt⟩, ⟨-, -, -, -, d4, -, -, lt'⟩⟩ := hb
        clear hk ha
        by_cases hlt : i < m
        · have HLT := Lib.hid hlt
          have hlt2 : (i : Int) < (m : Int) := by omega
          obtain ⟨sb, sp, rfl, hsb, hc⟩ := HS.out.th (by rw [← HM.out]; omega)
          obtain ⟨sb', sp', rfl, hsb', hc'⟩ := HT.out.th (by rw [← HM'.out]; omega)
          have hT : ThC wr sb (sp + i * 13) (thAt s.th i) := (hc i (by rw [← HM.out]; exact hlt)).same fun k => old.cell (p := ⟨sb, k, none⟩) hsb
          have hT' : ThC wr sb' (sp' + i * 13) (thAt t.th i) := (hc' i (by rw [← HM'.out]; exact hlt)).same fun k => old.cell (p := ⟨sb', k, none⟩) hsb'
          have hE : Tng.eq (thAt s.th i) (thAt t.th i) = true ↔ thAt s.th i = thAt t.th i := Tng.eq_iff
          have heq := fun w => teq36 (thAt s.th i) (thAt t.th i) w
          generalize Tng.eq (thAt s.th i) (thAt t.th i) = z at heq hE
          have HE1 : Hid (z = true → thAt s.th i = thAt t.th i) := Lib.hid hE.1
          have HE2 : Hid (z = false → r = false) := Lib.hid fun q => HR.out fun e => by rw [e] at hE; rw [hE.2 rfl] at q; cases q
          clear hE
          generalize thAt s.th i = x at hT heq
          generalize thAt t.th i = y at hT' heq
          obtain ⟨x0, x1, x2, x3, x4, x5, x6, x7, x8, x9, x10, x11, x12⟩ := x
          obtain ⟨y0, y1, y2, y3, y4, y5, y6, y7, y8, y9, y10, y11, y12⟩ := y
          obtain ⟨s0, s1, s2, s3, s4, s5, s6, s7, s8, s9, s10, s11, s12⟩ := hT
          obtain ⟨q0, q1, q2, q3, q4, q5, q6, q7, q8, q9, q10, q11, q12⟩ := hT'
          unfold Tng.val at heq
          simp only at s0 s1 s2 s3 s4 s5 s6 s7 s8 s9 s10 s11 s12 q0 q1 q2 q3 q4 q5 q6 q7 q8 q9 q10 q11 q12 heq
          clear hc hc' hsb hsb'
          rcases z with _ | _
          · have HF := Lib.hid (HE2.out rfl)
            go_wp2_with fail
            go_big_quiet (fail)
            go_wp2
            go_ret
            exact ⟨by rw [HF.out]; rfl, below_draws HB.out.x.old _⟩
          · have HEQ := Lib.hid (HE1.out rfl)
            go_wp2_with fail
            go_big_quiet (fail)
            have HB2 := Lib.hid (HB.out.on (below_draws (below_self wr) nq))
            go_wp2
            go_roundg (m - (i + 1))
            case measure => have := HI.out; have := HLT.out; omega
            case rel =>
              refine ⟨i + 1, by have := HI.out; have := HLT.out; omega, by go_num, fun k hk => ?_, HB2.out⟩
              by_cases e : k = i
              · subst e; exact HEQ.out
              · exact HA.out k (by omega)
        · have hlt2 : ¬ (i : Int) < (m : Int) := by omega
          have HTH : Hid (s.th = t.th) := Lib.hid (th_ext (by rw [← HM.out, HM'.out]) fun j hj => HA.out j (by have := HI.out; have := HM.out; omega))
          have HF : Hid (r = true) := Lib.hid (HY.out (by
            obtain ⟨g, sl, th⟩ := s
            obtain ⟨g', sl', th'⟩ := t
            have h1 := HGG.out
            have h2 := HSL.out
            have h3 := HTH.out
            simp only at h1 h2 h3
            rw [h1, h2, h3]))
          go_wp2
          go_ret
          exact ⟨by rw [HF.out]; rfl, HB.out.x.old⟩
end Go.Proofs.Ytloemadjiombhaa
