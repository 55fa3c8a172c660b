/-
  What the program's calls on states answer, gathered; the laws' heavy and awake walked over it. Condition: states lie in memory.
-/
import Derived.Test.YtggaadknaiogmaaJk
import Derived.Test.YtggaadknaiogmaaJm
namespace Go.Proofs.Ytggaadknaiogmaa
open Go.RowKit

/-- a state of the call's own: its lists are new, and may be written -/
structure Fsh (W w : World) (s : St) (A C : Option Addr) : Prop where
  lies : StAt w s A C
  sl : 0 < s.sl.length → ∃ b, A = some ⟨b, 0, none⟩ ∧ W.heap.size ≤ b ∧ b < w.heap.size ∧ ∀ k, w.frozen? ⟨b, k, none⟩ = false
  th : 0 < s.th.length → ∃ b, C = some ⟨b, 0, none⟩ ∧ W.heap.size ≤ b ∧ b < w.heap.size ∧ ∀ k, w.frozen? ⟨b, k, none⟩ = false
  ne : 0 < s.sl.length → 0 < s.th.length → A ≠ C
/-- a new state, or the error -/
def NewF (w w' : World) (e : Ending) : Option St → Prop
  | none => ∃ A ca C cc, e = .returned (.tuple #[.agg #[.int .i64 0, .int .i64 0, .int .i64 0, .slice A 0 ca, .slice C 0 cc], .int .i64 1]) ∧ Below w.heap.size w w'
  | some s => ∃ A ca C cc, e = .returned (.tuple #[.agg #[.int .i64 s.g.t, .int .i64 s.g.s, .int .i64 s.g.k, .slice A s.sl.length ca, .slice C s.th.length cc], .int .i64 0]) ∧ s.sl.length ≤ ca ∧ s.th.length ≤ cc ∧ Fsh w w' s A C ∧ Below w.heap.size w w'
/-- another one, alike -/
def CloneF (w w' : World) (e : Ending) (a b c : Int) (n m : Nat) (s : St) : Prop := ∃ A ca C cc, e = .returned (.agg #[.int .i64 a, .int .i64 b, .int .i64 c, .slice A n ca, .slice C m cc]) ∧ n ≤ ca ∧ m ≤ cc ∧ Fsh w w' s A C ∧ Below w.heap.size w w'
def ForestF (w w' : World) (e : Ending) (L : List Int) : Prop := ∃ B cb, e = .returned (.agg #[.slice B L.length cb]) ∧ L.length ≤ cb ∧ IntsAt w' w'.heap.size B L ∧ Below w.heap.size w w'
/-- how a state is handed over -/
structure StH (w : World) (s : St) (a b c : Int) (A : Option Addr) (n ca : Nat) (C : Option Addr) (m cc : Nat) : Prop where
  lies : StAt w s A C
  hg : s.g = ⟨a, b, c⟩
  hn : n = s.sl.length
  hm : m = s.th.length
  few : n ≤ 1000
  fewm : m ≤ 1000
  hca : n ≤ ca
  hcc : m ≤ cc
theorem StH.on {w w' : World} {s : St} {a b c : Int} {A : Option Addr} {n ca : Nat} {C : Option Addr} {m cc : Nat} (h : StH w s a b c A n ca C m cc) (hb : Below w.heap.size w w') : StH w' s a b c A n ca C m cc := ⟨h.lies.on hb, h.hg, h.hn, h.hm, h.few, h.fewm, h.hca, h.hcc⟩
/-- what each call answers, of any state of at most a thousand slots and things -/
structure Cos : Prop where
  good : ∀ {w : World} {s : St} {a b c : Int} {A : Option Addr} {n ca : Nat} {C : Option Addr} {m cc : Nat} {r : Bool}, StH w s a b c A n ca C m cc → sgood s = r → Calls Try.prog 8 #[.agg #[.int .i64 a, .int .i64 b, .int .i64 c, .slice A n ca, .slice C m cc]] w fun e w' => e = .returned (.bool r) ∧ Below w.heap.size w w'
  owner : ∀ {w : World} {s : St} {a b c : Int} {A : Option Addr} {n ca : Nat} {C : Option Addr} {m cc : Nat} {k r : Int}, StH w s a b c A n ca C m cc → optI (sowner s k) = r → Calls Try.prog 9 #[.agg #[.int .i64 a, .int .i64 b, .int .i64 c, .slice A n ca, .slice C m cc], .int .i64 k] w fun e w' => e = .returned (.int .i64 r) ∧ Below w.heap.size w w'
  free : ∀ {w : World} {s : St} {a b c : Int} {A : Option Addr} {n ca : Nat} {C : Option Addr} {m cc : Nat} {r : Int}, StH w s a b c A n ca C m cc → optI (sfree s) = r → Calls Try.prog 10 #[.agg #[.int .i64 a, .int .i64 b, .int .i64 c, .slice A n ca, .slice C m cc]] w fun e w' => e = .returned (.int .i64 r) ∧ Below w.heap.size w w'
  gap : ∀ {w : World} {s : St} {a b c : Int} {A : Option Addr} {n ca : Nat} {C : Option Addr} {m cc : Nat} {k : Int} {r : Option Nat}, StH w s a b c A n ca C m cc → sgap s k = r → Calls Try.prog 7 #[.agg #[.int .i64 a, .int .i64 b, .int .i64 c, .slice A n ca, .slice C m cc], .int .i64 k] w fun e w' => e = .returned (gv r) ∧ Below w.heap.size w w'
  hold : ∀ {w : World} {s : St} {a b c : Int} {A : Option Addr} {n ca : Nat} {C : Option Addr} {m cc : Nat} {k : Int} {L : List Int}, StH w s a b c A n ca C m cc → toInts (shold s k) = L → Calls Try.prog 11 #[.agg #[.int .i64 a, .int .i64 b, .int .i64 c, .slice A n ca, .slice C m cc], .int .i64 k] w fun e w' => ListF w w' e L
  inside : ∀ {w : World} {s : St} {a b c : Int} {A : Option Addr} {n ca : Nat} {C : Option Addr} {m cc : Nat} {x y : Int} {r : Bool}, StH w s a b c A n ca C m cc → sinside s x y = r → Calls Try.prog 17 #[.agg #[.int .i64 a, .int .i64 b, .int .i64 c, .slice A n ca, .slice C m cc], .int .i64 x, .int .i64 y] w fun e w' => e = .returned (.bool r) ∧ Below w.heap.size w w'
  forest : ∀ {w : World} {s : St} {a b c : Int} {A : Option Addr} {n ca : Nat} {C : Option Addr} {m cc : Nat} {L : List Int}, StH w s a b c A n ca C m cc → upsOf s.sl = L → Calls Try.prog 13 #[.agg #[.int .i64 a, .int .i64 b, .int .i64 c, .slice A n ca, .slice C m cc]] w fun e w' => ForestF w w' e L
  clone : ∀ {w : World} {s : St} {a b c : Int} {A : Option Addr} {n ca : Nat} {C : Option Addr} {m cc : Nat}, StH w s a b c A n ca C m cc → Calls Try.prog 12 #[.agg #[.int .i64 a, .int .i64 b, .int .i64 c, .slice A n ca, .slice C m cc]] w fun e w' => CloneF w w' e a b c n m s
  same : ∀ {w : World} {s t : St} {a b c a' b' c' : Int} {A C A' C' : Option Addr} {n ca m cc n' ca' m' cc' : Nat} {r : Bool}, StH w s a b c A n ca C m cc → StH w t a' b' c' A' n' ca' C' m' cc' → s.same t = r → Calls Try.prog 14 #[.agg #[.int .i64 a, .int .i64 b, .int .i64 c, .slice A n ca, .slice C m cc], .agg #[.int .i64 a', .int .i64 b', .int .i64 c', .slice A' n' ca', .slice C' m' cc']] w fun e w' => e = .returned (.bool r) ∧ Below w.heap.size w w'
  new : ∀ {w : World} {a b c x : Int} {r : Option St}, snew ⟨a, b, c⟩ x = r → Calls Try.prog 5 #[.agg #[.int .i64 a, .int .i64 b, .int .i64 c], .int .i64 x] w fun e w' => NewF w w' e r

/-! ### heavy -/
/-! ### awake -/
def s64 : St := snewS ⟨2, 32, 16⟩ 64
theorem s64_new : snew ⟨2, 32, 16⟩ 64 = some s64 := by
  rw [snew, if_pos ⟨by decide +kernel, by decide +kernel⟩]
  rfl
theorem s64_good : sgood s64 = true := snew_good (by decide +kernel) (by decide +kernel)
theorem s64_slots : s64.sl.length = 32 := by decide +kernel
theorem s64_things : s64.th.length = 16 := by decide +kernel
theorem s64_geo : s64.g = ⟨2, 32, 16⟩ := rfl
def nonempty (l : List Sl) (i : Nat) : Bool := !(slAt l i).c.non
theorem s64_full : (pick (nonempty s64.sl) 32).length = 3 := by decide +kernel
def AwRel (V : World) (n : Nat) (l : List Sl) (f : Nat) (p q : Value) (wr : World) : Prop :=
  ∃ i : Nat, f + i = n ∧ p = .int .i64 ((pick (nonempty l) i).length : Int) ∧ q = .int .i64 i ∧ Below V.heap.size V wr
set_option maxHeartbeats 4000000 in
theorem awake_any (K : Cos) (w : World) : Calls Try.prog 4 #[] w fun e w' => e = .returned (.bool true) ∧ Below w.heap.size w w' := by
  go_enter Try.func4, Try.ntmps4
  go_wp2_with fail
  refine (plain_any w).mono ?_
  rintro e w1 ⟨rfl, hb1⟩
  have HB1 := Lib.hid hb1
  clear hb1
  go_wp2_with fail
  refine (K.new s64_new).mono ?_
  rintro e w2 ⟨A, ca, C, cc, rfl, hca, hcc, hF, hb2⟩
  have hS := hF.lies
  have HB2 := Lib.hid (below_on HB1.out hb2)
  simp only [s64_geo, s64_slots, s64_things] at hca hcc ⊢
  have HS := Lib.hid hS
  have HCA := Lib.hid hca
  have HCC := Lib.hid hcc
  clear hF hb2 hS hca hcc HB1
  have hK := Sbx.also HB2.out 2 32 16 A 32 ca C 16 cc 28
  have HS3 := Lib.hid (HS.out.on (below_alloc w2 (.cells #[.int .i64 2, .int .i64 32, .int .i64 16, .slice A 32 ca, .slice C 16 cc] 28)))
  go_wp2_with fail
  obtain ⟨g, hg⟩ : ∃ g, g = w2.heap.size := ⟨_, rfl⟩
  rw [← hg] at hK ⊢
  clear hg HS
  generalize w2.alloc _ = w3 at hK HS3 ⊢
  have HK := Lib.hid hK
  clear hK
  go_loopg [3, 4] 32 (fun f p q wr => AwRel w3 32 s64.sl f p q wr)
  case atStart => exact ⟨0, by omega, rfl, rfl, below_self _⟩
  case round =>
    obtain ⟨i, hk, rfl, rfl, hb⟩ := hrel
    have HI := Lib.hid hk
    have HB := Lib.hid hb
    obtain ⟨b0, b1, b2, c3, c4, -, -, lt⟩ := HK.out.on hb
    clear hk hb
    have hpl := pick_len (nonempty s64.sl) i
    by_cases hlt : i < 32
    · have HLT := Lib.hid hlt
      have hlt2 : (i : Int) < 32 := by omega
      obtain ⟨sb, sp, rfl, hsb, hc⟩ := (HS3.out.on HB.out).sl (by rw [s64_slots]; omega)
      have hT := hc i (by rw [s64_slots]; exact hlt)
      have hP : nonempty s64.sl i = !(slAt s64.sl i).c.non := rfl
      generalize slAt s64.sl i = y at hT hP
      obtain ⟨⟨ty, th, ri, ba⟩, up⟩ := y
      obtain ⟨s0, s1, s2, s3, -⟩ := hT
      simp only at s0 s1 s2 s3 hP
      obtain ⟨z, hz⟩ : ∃ z, Cp.non ⟨ty, th, ri, ba⟩ = z := ⟨_, rfl⟩
      rw [hz] at hP
      have HZ := Lib.hid hz
      have HP := Lib.hid hP
      obtain ⟨k, hk⟩ : ∃ k, (pick (nonempty s64.sl) i).length = k := ⟨_, rfl⟩
      rw [hk] at hpl ⊢
      have HKK := Lib.hid hk
      clear hc hsb hP hz hk
      go_wp2_with fail
      refine (non_at HZ.out wr).mono ?_
      rintro e w4 ⟨rfl, hb⟩
      have HB4 := Lib.hid (below_on HB.out hb)
      clear hb s0 s1 s2 s3 b0 b1 b2 c3 c4 lt
      rcases z with _ | _
      · have HL : Hid ((pick (nonempty s64.sl) (i + 1)).length = k + 1) := Lib.hid (by rw [pick_yes (by rw [HP.out]; rfl), List.length_append, HKK.out]; rfl)
        go_wp2
        go_roundg (32 - (i + 1))
        case measure => have := HI.out; have := HLT.out; omega
        case rel => exact ⟨i + 1, by have := HI.out; have := HLT.out; omega, by rw [HL.out]; go_num, by go_num, HB4.out⟩
      · have HL : Hid ((pick (nonempty s64.sl) (i + 1)).length = k) := Lib.hid (by rw [pick_no (by rw [HP.out]; rfl), HKK.out])
        go_wp2
        go_roundg (32 - (i + 1))
        case measure => have := HI.out; have := HLT.out; omega
        case rel => exact ⟨i + 1, by have := HI.out; have := HLT.out; omega, by rw [HL.out], by go_num, HB4.out⟩
    · have hlt2 : ¬ (i : Int) < 32 := by omega
      have hi : i = 32 := by have := HI.out; omega
      rw [show ((pick (nonempty s64.sl) i).length : Int) = 3 by rw [hi, s64_full]; rfl]
      have HH : Hid (StH wr s64 2 32 16 A 32 ca C 16 cc) := Lib.hid ⟨HS3.out.on HB.out, s64_geo, s64_slots.symm, s64_things.symm, by omega, by omega, HCA.out, HCC.out⟩
      clear hlt hi hpl
      go_wp2_with fail
      refine (K.good HH.out s64_good).mono ?_
      rintro e w4 ⟨rfl, hb⟩
      have HB4 := Lib.hid (below_on HB.out hb)
      clear b0 b1 b2 c3 c4 lt
      obtain ⟨b0, b1, b2, c3, c4, -, -, lt⟩ := HK.out.on (below_on HB.out hb)
      clear hb
      go_wp2
      go_ret
      exact ⟨rfl, below_on HK.out.old HB4.out⟩
end Go.Proofs.Ytggaadknaiogmaa
