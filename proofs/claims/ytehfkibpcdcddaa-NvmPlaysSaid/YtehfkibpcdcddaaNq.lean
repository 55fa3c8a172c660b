/-
  The walks of the reference's Crash and count. Conditions: the list lies apart from the memory; fewer counted than 2 to the 62.
-/
import Derived.Test.YtehfkibpcdcddaaNp
namespace Go.Proofs.Ytehfkibpcdcddaa
open Go.RowKit

/-- a list that lies apart from two blocks -/
def Apart (w : World) (b rb : Nat) (A : Option Addr) (l : List Int) : Prop :=
  0 < l.length → ∃ g o, A = some ⟨g, o, none⟩ ∧ g ≠ b ∧ g ≠ rb ∧ g < w.heap.size ∧ ∀ (j : Nat) (z : Int), l[j]? = some z → w.cell? ⟨g, o + j, none⟩ = some (.int .i64 z)
theorem Apart.own {w w' : World} {b rb : Nat} {A : Option Addr} {l : List Int} (h : Apart w b rb A l) (ho : Own b rb w w') : Apart w' b rb A l := fun h0 => by
  obtain ⟨g, o, e, h1, h2, h3, h4⟩ := h h0
  exact ⟨g, o, e, h1, h2, Nat.lt_of_lt_of_le h3 ho.size, fun j z hz => (World.cell?_of_block (w := w) (a := ⟨g, _, none⟩) (ho.block g h3 h1 h2)).trans (h4 j z hz)⟩
theorem IntsAt.apart {w : World} {B b rb : Nat} {A : Option Addr} {l : List Int} (h : IntsAt w B A l) (h1 : B ≤ b) (h2 : B ≤ rb) (h3 : B ≤ w.heap.size) : Apart w b rb A l := fun h0 => by
  obtain ⟨g, o, e, h4, h5⟩ := h h0
  exact ⟨g, o, e, by omega, by omega, by omega, h5⟩

theorem eq_beq' (a b : Int) : decide (a = b) = (b == a) := by
  by_cases h : a = b
  · subst h; simp
  · have h2 : ¬ b = a := fun e => h e.symm
    simp [h, h2]
/-- does the list hold it? -/
def HoldRel (X : World) (l : List Int) (r : Nat) (k : Nat) (p5 p6 : Value) (wr : World) : Prop :=
  ∃ i : Nat, k + i = l.length ∧ p5 = .bool (decide ((r : Int) ∈ l.take i)) ∧ p6 = .int .i64 i ∧ wr = X
def CrashRel (W : World) (b rb F : Nat) (m : Mm) (l : List Int) (A : Option Addr) (k : Nat) (p : Value) (wr : World) : Prop :=
  ∃ i : Nat, k + i = m.rows.length ∧ p = .int .i64 i ∧ RAt wr b rb F { m with rows := part (fun j r => r.fall (decide ((j : Int) ∈ l))) m.rows i } ∧ Own b rb W wr ∧ Apart wr b rb A l

theorem holds_next {l : List Int} {i : Nat} {r : Int} {z : Int} {f : Bool} (hz : l[i]? = some z) (hf : decide (r ∈ l.take i) = f) : decide (r ∈ l.take (i + 1)) = (f || (z == r)) := by
  rw [List.take_add_one, hz, ← hf]
  simp only [Option.toList_some, List.mem_append, List.mem_singleton, Bool.decide_or]
  rw [eq_beq']

set_option maxRecDepth 100000 in
set_option maxHeartbeats 2000000 in
theorem rcrash_any (b rb F : Nat) (m : Mm) (A : Option Addr) (cap : Nat) (l : List Int) (w : World) (h : RAt w b rb F m) (hl : l.length ≤ 1000000) (hL : Apart w b rb A l) :
    Calls Try.prog 33 #[.pointer (some ⟨b, 0, none⟩), .slice A l.length cap] w fun e w' => e = .returned (.tuple #[]) ∧ RAt w' b rb F (m.crash l) ∧ Own b rb w w' := by
  have c1 := h.c1
  have HM := Lib.hid h
  have LL := Lib.hid hL
  have hf := h.few
  obtain ⟨n, hn⟩ : ∃ n, n = m.rows.length := ⟨_, rfl⟩
  rw [← hn] at hf
  have HN := Lib.hid hn
  obtain ⟨q, hq⟩ : ∃ q, q = l.length := ⟨_, rfl⟩
  rw [← hq] at hl ⊢
  have HQ := Lib.hid hq
  obtain ⟨of, ho⟩ : ∃ of, m.off = of := ⟨_, rfl⟩
  have hc : m.crash l = if of = true then m else m.down fun k => decide ((k : Int) ∈ l) := by unfold Mm.crash; rw [ho]
  rw [hc]
  rw [ho] at c1
  clear h hL hn hq ho hc
  cases of
  · rw [if_neg (by simp)]
    go_enter Try.func33, Try.ntmps33
    go_wp2_with fail
    go_loopg [4] n (fun k p wr => CrashRel w b rb F m l A k p wr)
    case atStart => exact ⟨0, HN.out, rfl, by rw [part_zero]; exact HM.out, Own.refl _ _ _, LL.out⟩
    case round =>
      obtain ⟨i, hk, rfl, hm, ho, ha⟩ := hrel
      have HK := Lib.hid hk
      have HMW := Lib.hid hm
      have HO := Lib.hid ho
      have HA := Lib.hid ha
      have c0 := hm.c0
      simp only [part_length] at c0
      rw [← HN.out] at c0
      clear hk hm ho ha c1
      by_cases hlt : i < n
      · have HLT := Lib.hid hlt
        have hlt2 : (i : Int) < (n : Int) := by omega
        go_wp2_with fail
        go_loopg [5, 6] q (fun k p p' w' => HoldRel wr l i k p p' w')
        case atStart => exact ⟨0, by rw [← HQ.out]; omega, by simp, rfl, rfl⟩
        case round =>
          obtain ⟨j, hk, rfl, rfl, rfl⟩ := hrel
          have HKJ := Lib.hid hk
          clear hk
          obtain ⟨f, hf⟩ : ∃ f, decide ((i : Int) ∈ l.take j) = f := ⟨_, rfl⟩
          have HF := Lib.hid hf
          rw [hf]
          clear hf
          by_cases hlt : j < q
          · have HLJ := Lib.hid hlt
            have hlt3 : (j : Int) < (q : Int) := by omega
            obtain ⟨g, o, rfl, _, _, hblk, hcs⟩ := HA.out (by rw [← HQ.out]; omega)
            obtain ⟨z, hz⟩ : ∃ z, l[j]? = some z := ⟨l[j]'(by rw [← HQ.out]; exact hlt), List.getElem?_eq_getElem _⟩
            have c2 := hcs j z hz
            have HNX := Lib.hid (holds_next (r := (i : Int)) hz HF.out)
            clear hcs hblk hz
            cases f
            · go_wp2
              go_roundg (q - (j + 1))
              case measure => have := HKJ.out; have := HLJ.out; have := HQ.out; omega
              case rel => exact ⟨j + 1, by have := HLJ.out; have := HQ.out; omega, by rw [HNX.out]; simp, by go_num, rfl⟩
            · go_wp2
              go_roundg (q - (j + 1))
              case measure => have := HKJ.out; have := HLJ.out; have := HQ.out; omega
              case rel => exact ⟨j + 1, by have := HLJ.out; have := HQ.out; omega, by rw [HNX.out]; simp, by go_num, rfl⟩
          · have hff : decide ((i : Int) ∈ l) = f := by
              have := HF.out
              rwa [List.take_of_length_le (by rw [← HQ.out]; omega)] at this
            have HFF := Lib.hid hff
            obtain ⟨r, hr⟩ : ∃ r, m.rows[i]? = some r := ⟨m.rows[i]'(by rw [← HN.out]; exact HLT.out), List.getElem?_eq_getElem _⟩
            have HR := Lib.hid hr
            have HRA := Lib.hid (HMW.out.rows i r (by rw [part_get]; exact hr))
            clear hff hr
            go_wp2_with (go_at_call 55; refine (rfall_any rb (i * 18) f r _ HRA.out).mono ?_; rintro e w' ⟨rfl, ht⟩; have HT := Lib.hid ht; clear ht)
            go_roundg (n - (i + 1))
            case measure => have := HK.out; have := HN.out; have := HLT.out; omega
            case rel =>
              have hrow := HMW.out.row HT.out
              simp only at hrow
              have hs : (part (fun j r => r.fall (decide ((j : Int) ∈ l))) m.rows i).set i (r.fall f) = part (fun j r => r.fall (decide ((j : Int) ∈ l))) m.rows (i + 1) := by
                rw [← HFF.out]; exact part_succ (fun j r => r.fall (decide ((j : Int) ∈ l))) _ _ _ HR.out
              rw [hs] at hrow
              have hown : Own b rb wr _ := Own.fr2 HT.out.fr
              exact ⟨i + 1, by have := HN.out; have := HLT.out; omega, by go_num, hrow, HO.out.trans hown, HA.out.own hown⟩
      · have hi : i = n := by have := HK.out; have := HN.out; omega
        subst hi
        have hmw := HMW.out
        rw [part_all _ _ _ (by rw [← HN.out]; omega)] at hmw
        have c1 := hmw.c1
        obtain ⟨z, v, c3, c4, hz⟩ := hmw.c34
        have f1 := hmw.free 1 (by omega)
        have f3 := hmw.free 3 (by omega)
        have s1 := hmw.cell_ { m with rows := m.rows.mapIdx fun j r => r.fall (decide ((j : Int) ∈ l)), off := true } 1 (.bool true) rfl (by omega) (by omega) (.inr ⟨rfl, rfl⟩) (fun _ => rfl) (fun _ => rfl) (fun q => absurd q (by decide)) (fun z v _ _ hz => ⟨z, v, fun q => absurd q (by decide), fun _ => rfl, fun q => absurd q (by decide), fun _ => rfl, hz⟩)
        have s2 := s1.1.cell_ (m.down fun k => decide ((k : Int) ∈ l)) 3 (.int .i64 0) rfl (by omega) (by omega) (.inl rfl) (fun q => absurd q (by decide)) (fun _ => rfl) (fun q => absurd q (by decide)) (fun z v _ _ _ => ⟨0, v, fun _ => rfl, fun q => absurd rfl q, fun q => absurd q (by decide), fun _ => rfl, by omega, .inl ⟨Int.le_refl _, rfl⟩⟩)
        have H2 := Lib.hid s2.1
        have HO2 := Lib.hid (HO.out.trans (s1.2.trans s2.2))
        clear hmw hz s1 s2
        go_wp2
        go_end0
        exact ⟨rfl, H2.out, HO2.out⟩
  · rw [if_pos rfl]
    go_enter Try.func33, Try.ntmps33
    go_wp2
    refine bodyPost_ret (results_none rfl _ _ _) rfl ?_
    exact ⟨rfl, HM.out, Own.refl _ _ _⟩
end Go.Proofs.Ytehfkibpcdcddaa
