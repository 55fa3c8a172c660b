/-
  The walk of package path's Text. Condition: the steps lie in memory.
-/
import Derived.Test.YtfcifheejjppfaaDoorVa
import Derived.Test.YtfcifheejjppfaaDoorAf
namespace Go.Proofs.YtfcifheejjppfaaDoor
open Go.RowKit

theorem info9_all : (Tryd.prog.info? 9).map (fun i => (i.zero, i.size, i.bytes)) = some (some (.string ByteArray.empty), 1, 16) := by kernel_rfl
theorem info9_parts : ∃ i : TypeInfo, Tryd.prog.info? 9 = some i ∧ i.zero = some (.string ByteArray.empty) ∧ i.size = 1 ∧ i.bytes = 16 := by
  have h := info9_all
  cases hq : Tryd.prog.info? 9 with
  | none => simp [hq] at h
  | some i =>
    simp [hq] at h
    exact ⟨i, rfl, h.1, h.2.1, h.2.2⟩
theorem make_strs (k : IntKind) (n : Nat) (hn : n ≤ 4096) (w : World) : (Instr.makeSlice 60 (.int k (n : Int)) (.int k (n : Int))).run Tryd.prog w = .ok (.slice (some ⟨w.heap.size, 0, none⟩) n n) (w.alloc (.cells (madeCells #[.string ByteArray.empty] n) 9)) := by
  obtain ⟨i, h1, h2, h3, h4⟩ := info9_parts
  have := run_make w 60 9 i (.string ByteArray.empty) Tryd.underlying60 h1 h2 k k n n (by omega) (by omega) (by rw [h4]; omega) (by omega)
  rw [h3] at this
  simpa [Value.cells] using this

/-- texts that Text has made -/
structure Tw (W w : World) (S n : Nat) (f : Nat → ByteArray) : Prop where
  at_ : ∀ j, j < n → w.cell? ⟨S, j, none⟩ = some (.string (f j))
  free : ∀ j, w.frozen? ⟨S, j, none⟩ = false
  old : Below W.heap.size W w
  base : W.heap.size ≤ S
  lt : S < w.heap.size
theorem Tw.put {W w : World} {S n i : Nat} {f : Nat → ByteArray} (h : Tw W w S n f) (hi : i < n) (x : ByteArray) : Tw W (w.setCell ⟨S, i, none⟩ (.string x)) S n (fun j => if j = i then x else f j) := by
  have hlt := h.lt
  refine ⟨fun j hj => ?_, fun j => ?_, h.old.setCell h.base _, h.base, by simpa [World.setCell] using hlt⟩
  · by_cases e : j = i
    · subst e
      rw [World.cell?_setCell_same _ _ _ (h.at_ j hj), if_pos rfl]
    · rw [World.cell?_setCell_other _ _ _ _ (fun q => e (by injection q with _ q; exact q.symm)), if_neg e]
      exact h.at_ j hj
  · rw [World.frozen?_setCell]; exact h.free j
theorem Tw.same {W w : World} {S n : Nat} {f g : Nat → ByteArray} (h : Tw W w S n f) (e : ∀ j, j < n → f j = g j) : Tw W w S n g := ⟨fun j hj => (e j hj) ▸ h.at_ j hj, h.free, h.old, h.base, h.lt⟩
theorem Tw.start {W w : World} (h : Below W.heap.size W w) (n : Nat) : Tw W (w.alloc (.cells (madeCells #[.string ByteArray.empty] n) 9)) w.heap.size n (fun _ => ByteArray.empty) := by
  have hg := heap_alloc_new w (.cells (madeCells #[.string ByteArray.empty] n) 9)
  refine ⟨fun j hj => ?_, fun j => frozen_of_row _ _ j _ _ hg, below_on h (below_alloc _ _), h.size, by simp⟩
  rw [cell_of_row _ _ j _ _ _ hg]
  unfold madeCells
  simp [hj, Nat.mod_one]

/-- a step's text -/
def decB (n : Nat) : ByteArray := ⟨(pdec n).toArray⟩
theorem ptext_no {A : Option Addr} {n cap : Nat} {l : List Int} {w : World} (hn : n = l.length) (hL : IntsAt w w.heap.size A l) (hg : pgood l = false) :
    Calls Tryd.prog 24 #[.agg #[.slice A n cap]] w fun e w' => e = .returned (.string ⟨#[]⟩) ∧ Below w.heap.size w w' := by
  have HN := Lib.hid hn
  have HG := Lib.hid hg
  have hK := Hbx.new w (.slice A n cap) 25
  have HL := Lib.hid hL
  clear hn hg hL
  go_enter Tryd.func24, Tryd.ntmps24
  go_wp2_with fail
  generalize w.alloc (.cells #[.slice A n cap] 25) = w1 at hK ⊢
  refine (good_is (w := w1) HN.out (HL.out.on hK.old) HG.out).mono ?_
  rintro e w2 ⟨rfl, hb⟩
  have K2 := Lib.hid (hK.on hb)
  clear hK hb
  go_wp2
  go_ret
  exact ⟨rfl, K2.out.old⟩

def PTextRel (W : World) (S n : Nat) (l : List Int) (k : Nat) (p : Value) (wr : World) : Prop :=
  ∃ i : Nat, k + i = n ∧ p = .int .i64 i ∧ Tw W wr S n (fun j => if j < i then decB ((l[j]?.getD 0).toNat) else ByteArray.empty)

theorem ptext_yes {A : Option Addr} {n cap : Nat} {l : List Int} {w : World} (hn : n = l.length) (hL : IntsAt w w.heap.size A l) (hg : pgood l = true) :
    Calls Tryd.prog 24 #[.agg #[.slice A n cap]] w fun e w' => e = .returned (.string ⟨(ptext l).toArray⟩) ∧ Below w.heap.size w w' := by
  have HN := Lib.hid hn
  have HG := Lib.hid hg
  have hK := Hbx.new w (.slice A n cap) 25
  have HL := Lib.hid hL
  have h3 : n ≤ 3 := hn ▸ (pgood_len hg).2
  have H3 := Lib.hid h3
  clear hn hg hL h3
  go_enter Tryd.func24, Tryd.ntmps24
  go_wp2_with fail
  generalize w.alloc (.cells #[.slice A n cap] 25) = w1 at hK ⊢
  refine (good_is (w := w1) HN.out (HL.out.on hK.old) HG.out).mono ?_
  rintro e w2 ⟨rfl, hb⟩
  have K2 := Lib.hid (hK.on hb)
  have c0 := K2.out.c
  have hmk := make_strs .i64 n (by have := H3.out; omega) w2
  have c1 := (K2.out.on (below_alloc w2 (.cells (madeCells #[.string ByteArray.empty] n) 9))).c
  have HS := Lib.hid (Tw.start K2.out.old n)
  clear hK hb
  go_wp2_with fail
  clear c0 c1 hmk K2
  obtain ⟨S, hS⟩ : ∃ S, S = w2.heap.size := ⟨_, rfl⟩
  rw [← hS] at HS ⊢
  clear hS
  generalize w2.alloc (.cells (madeCells #[.string ByteArray.empty] n) 9) = w3 at HS ⊢
  clear w2 w1
  go_loopg [16] n (fun k p wr => PTextRel w S n l k p wr)
  case atStart => exact ⟨0, by omega, rfl, HS.out.same fun j _ => by simp⟩
  case round =>
    obtain ⟨i, hk, rfl, hp⟩ := hrel
    have HK := Lib.hid hk
    clear hk HS
    by_cases hlt : i < n
    · have HLT := Lib.hid hlt
      have hlt2 : (i : Int) < (n : Int) := by omega
      obtain ⟨b, o, rfl, hblk, hc⟩ := HL.out (by rw [← HN.out]; omega)
      obtain ⟨z, hz⟩ : ∃ z, l[i]? = some z := ⟨l[i]'(by rw [← HN.out]; exact hlt), List.getElem?_eq_getElem _⟩
      obtain ⟨m, rfl, hm⟩ := pgood_at HG.out hz
      have HZ := Lib.hid hz
      have c1 := hc i _ hz
      rw [← hp.old.cell (p := ⟨b, _, none⟩) hblk] at c1
      have HP := Lib.hid hp
      have HM := Lib.hid hm
      clear hc hblk hz hp hm
      go_wp2_with fail
      refine (Tryd.strconv_Itoa_small m (by have := HM.out; omega) _).mono ?_
      rintro e w4 ⟨rfl, rfl⟩
      rw [dec_eq HM.out]
      have c2 := HP.out.at_ i hlt
      have c3 := HP.out.free i
      have c4 : (⟨(pdec m).toArray⟩ : ByteArray) = decB m := rfl
      rw [c4]
      clear c4
      go_wp2
      go_roundg (n - (i + 1))
      case measure => have := HK.out; have := HLT.out; omega
      case rel =>
        refine ⟨i + 1, by have := HLT.out; omega, (by refine congrArg _ ?_; have := H3.out; have := HLT.out; unfold wrap64; omega), (HP.out.put HLT.out (decB m)).same fun j _ => ?_⟩
        by_cases e : j = i
        · subst e
          rw [if_pos rfl, if_pos (by omega), HZ.out]
          rfl
        · rw [if_neg e]
          by_cases h : j < i
          · rw [if_pos h, if_pos (by omega)]
          · rw [if_neg h, if_neg (by omega)]
    · have hin : i = n := by have := HK.out; omega
      subst hin
      have hxl : (l.map fun z => decB z.toNat).length = i := by rw [List.length_map, ← HN.out]
      have hj := Tryd.strings_Join S 0 i (l.map fun z => decB z.toNat) ⟨#[46]⟩ wr (fun j x hx => by
        have hj : j < i := by
          have := (List.getElem?_eq_some_iff.1 hx).1
          rwa [hxl] at this
        have := hp.at_ j hj
        rw [if_pos hj] at this
        rw [Nat.zero_add, this]
        rw [List.getElem?_map, Option.map_eq_some_iff] at hx
        obtain ⟨y, hy, rfl⟩ := hx
        rw [hy]
        rfl) hp.lt (by rw [hxl]; have := H3.out; omega) (by rw [hxl]; exact Nat.le_refl _) (by
        have e : (l.map fun z => decB z.toNat).map (·.data.toList) = l.map fun z => pdec z.toNat := by
          rw [List.map_map]
          rfl
        have := ptext_length HG.out
        rw [ptext, if_pos HG.out] at this
        rw [e]
        exact Nat.le_trans this (by decide))
      rw [hxl] at hj
      have e : (l.map fun z => decB z.toNat).map (·.data.toList) = l.map fun z => pdec z.toNat := by
        rw [List.map_map]
        rfl
      rw [e] at hj
      have e2 : Lib.join (l.map fun z => pdec z.toNat) ([46] : List UInt8) = ptext l := by rw [ptext, if_pos HG.out]
      have HJ := Lib.hid hj
      have HO := Lib.hid hp.old
      have HE := Lib.hid e2
      clear hp hlt hj e e2 hxl
      go_wp2_with fail
      refine HJ.out.mono ?_
      rintro e w4 ⟨rfl, hb⟩
      clear HJ
      go_wp2
      go_ret
      exact ⟨by rw [← HE.out]; rfl, below_on HO.out hb⟩
/-- what Text answers -/
theorem ptext_any (A : Option Addr) (cap : Nat) (l : List Int) (w : World) (hL : IntsAt w w.heap.size A l) :
    Calls Tryd.prog 24 #[.agg #[.slice A l.length cap]] w fun e w' => e = .returned (.string ⟨(ptext l).toArray⟩) ∧ Below w.heap.size w w' := by
  rcases h : pgood l with _ | _
  · have e : ptext l = [] := by rw [ptext, h]; rfl
    rw [e]
    exact ptext_no rfl hL h
  · exact ptext_yes rfl hL h
end Go.Proofs.YtfcifheejjppfaaDoor
