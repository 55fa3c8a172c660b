/-
  The walk of the law NvmSure: it answers true. Condition: the lists lie in memory.
-/
import Derived.Test.YtehfkibpcdcddaaNn
namespace Go.Proofs.Ytehfkibpcdcddaa
open Go.RowKit

/-- the memory, and all that was there -/
structure MS (W w : World) (b rb F : Nat) (m : Mm) : Prop where
  mem : MAt w b rb F m
  wb : W.heap.size ≤ b
  wr : W.heap.size ≤ rb
  old : Below W.heap.size W w
section
variable {W w w' : World} {b rb F : Nat} {m m' : Mm}
theorem MS.own (h : MS W w b rb F m) (hm : MAt w' b rb F m') (ho : Own b rb w w') : MS W w' b rb F m' :=
  ⟨hm, h.wb, h.wr, h.old.trans (ho.below h.wb h.wr h.old.size)⟩
theorem MS.below (h : MS W w b rb F m) (hb : Below w.heap.size w w') : MS W w' b rb F m :=
  ⟨h.mem.below hb, h.wb, h.wr, h.old.trans (hb.mono h.old.size)⟩
theorem MS.drewN (h : MS W w b rb F m) (n : Nat) : MS W (w.drewN n) b rb F m := ⟨h.mem.drewN n, h.wb, h.wr, below_draws h.old n⟩
end

theorem eq_beq (a b : Int) : decide (a = b) = (b == a) := by
  by_cases h : a = b
  · subst h; simp
  · have h2 : ¬ b = a := fun e => h e.symm
    simp [h, h2]
theorem lies_mono {w : World} {B B' : Nat} {v : Value} {k : IntKind} {l : List Int} (h : Lies w B v k l) (hB : B' ≤ B) : Lies w B' v k l := by
  obtain ⟨A, cap, e, hc⟩ := h
  refine ⟨A, cap, e, fun h0 => ?_⟩
  obtain ⟨g, o, e1, h1, h2, h3⟩ := hc h0
  exact ⟨g, o, e1, by omega, h2, h3⟩
def StoresRel (W : World) (b rb F n : Nat) (P : Mm → Prop) (Q : World → Prop) (c : Int) (k : Nat) (p : Value) (wr : World) : Prop :=
  ∃ (i : Nat) (m : Mm), k + i = n ∧ p = .int .i64 i ∧ MS W wr b rb F m ∧ Calm m (c + i) ∧ P m ∧ Q wr
def FlushRel (W : World) (b rb F : Nat) (m0 : Mm) (c : Int) (k : Nat) (p : Value) (wr : World) : Prop :=
  ∃ (i : Nat) (m : Mm), k + i = 4 ∧ p = .int .i64 i ∧ MS W wr b rb F m ∧ Calm m (c + i) ∧ m.rows = part (fun _ r => r.flush) m0.rows i
/-- does the list hold it? -/
def HoldsRel (X : World) (l : List Int) (r : Nat) (k : Nat) (p16 p17 : Value) (wr : World) : Prop :=
  ∃ i : Nat, k + i = l.length ∧ p16 = .bool (decide ((r : Int) ∈ l.take i)) ∧ p17 = .int .i64 i ∧ Below X.heap.size X wr
def WordRel8 (X : World) (r : Nat) (k : Nat) (p : Value) (wr : World) : Prop :=
  ∃ i : Nat, k + i = 8 ∧ p = .int .i64 ((8 * r + i : Nat) : Int) ∧ Below X.heap.size X wr
def LinesRel (X : World) (k : Nat) (p : Value) (wr : World) : Prop := ∃ i : Nat, k + i = 4 ∧ p = .int .i64 i ∧ Below X.heap.size X wr

set_option maxRecDepth 100000 in
set_option maxHeartbeats 8000000 in
theorem sure_in (A : Option Addr) (cap : Nat) (l : List Ac) (A1 : Option Addr) (cap1 : Nat) (l1 : List Ac) (A2 : Option Addr) (cap2 : Nat) (ks : List Int) (w : World)
    (hl : l.length ≤ 40) (hl1 : l1.length ≤ 40) (hl2 : ks.length ≤ 20) (hL : ActsAt w w.heap.size A l) (hL1 : ActsAt w w.heap.size A1 l1) (hK : IntsAt w w.heap.size A2 ks) :
    Calls Try.prog 5 #[.slice A l.length cap, .slice A1 l1.length cap1, .slice A2 ks.length cap2] w fun e w' => e = .returned (.bool true) ∧ Below w.heap.size w w' := by
  have LL := Lib.hid hL
  have LL1 := Lib.hid hL1
  have KK := Lib.hid hK
  have HKL := Lib.hid hl2
  obtain ⟨n, hn⟩ : ∃ m, m = l.length := ⟨_, rfl⟩
  obtain ⟨n1, hn1⟩ : ∃ m, m = l1.length := ⟨_, rfl⟩
  obtain ⟨q, hq⟩ : ∃ m, m = ks.length := ⟨_, rfl⟩
  rw [← hn] at hl ⊢
  rw [← hn1] at hl1 ⊢
  rw [← hq] at hl2 ⊢
  have HN := Lib.hid hn
  have HN1 := Lib.hid hn1
  have HQ := Lib.hid hq
  clear hn hn1 hq hL hL1 hK
  have g1 : decide ((40 : Int) < (n : Int)) = false := by simp; omega
  have g2 : decide ((40 : Int) < (n1 : Int)) = false := by simp; omega
  have g3 : decide ((20 : Int) < (q : Int)) = false := by simp; omega
  go_enter Try.func5, Try.ntmps5
  go_wp2_with fail
  refine (awake_any _).mono ?_
  rintro e w0 ⟨rfl, hb⟩
  have B0 := Lib.hid hb
  clear hb
  go_wp2_with fail
  refine (new_any 4 (by omega) (by omega) w0).mono ?_
  rintro e x0 ⟨rfl, hm, hs, hb⟩
  have S : Hid (MS w x0 (w0.heap.size + 1) w0.heap.size (w0.heap.size + 2) (fresh 4)) := Lib.hid ⟨hm, by have := B0.out.size; omega, B0.out.size, B0.out.trans (hb.mono B0.out.size)⟩
  generalize w0.heap.size + 2 = F at S
  obtain ⟨b, hbb⟩ : ∃ b, b = w0.heap.size + 1 := ⟨_, rfl⟩
  obtain ⟨rb, hrb⟩ : ∃ rb, rb = w0.heap.size := ⟨_, rfl⟩
  rw [← hbb, ← hrb] at S
  rw [← hbb]
  clear hbb hrb hm hs hb B0
  go_wp2_with fail
  go_loopg [9] n (fun k p wr => StoresRel w b rb F n G1 (fun _ => True) 0 k p wr)
  case atStart => exact ⟨0, _, by omega, rfl, S.out, ⟨rfl, rfl, rfl, by decide, by decide⟩, g1_fresh, trivial⟩
  case round =>
    obtain ⟨i, m, hk, rfl, hs, hc, hg, _⟩ := hrel
    have HK := Lib.hid hk
    have HS := Lib.hid hs
    have HC := Lib.hid hc
    have HG := Lib.hid hg
    clear hk hs hc hg S
    by_cases hlt : i < n
    · have HLT := Lib.hid hlt
      have hlt2 : (i : Int) < (n : Int) := by omega
      obtain ⟨bb, o, rfl, hblk, hcs⟩ := LL.out (by rw [← HN.out]; omega)
      obtain ⟨a, ha⟩ : ∃ a, l[i]? = some a := ⟨l[i]'(by rw [← HN.out]; exact hlt), List.getElem?_eq_getElem _⟩
      obtain ⟨_, h1, _, h3, _⟩ := hcs i a ha
      have c1 : wr.cell? ⟨bb, o + i * 5 + 1, none⟩ = some (.int .i64 a.at_) := by rw [← h1]; exact HS.out.old.cell hblk
      have c3 : wr.cell? ⟨bb, o + i * 5 + 3, none⟩ = some (.int .u64 a.v) := by rw [← h3]; exact HS.out.old.cell hblk
      clear hcs hblk ha h1 h3
      go_wp2_with fail
      go_still_tail 11, (by kernel_rfl)
      change wpList _ _ _ _ _ wr.drew
      have HD := Lib.hid (HS.out.drewN 1)
      go_wp2_with (go_at_call 12; refine (mstore_any b rb F m a.at_ a.v _ HD.out.mem HC.out.n0 (by have := HC.out.nc; have := HLT.out; omega)).mono ?_; rintro e w' ⟨rfl, hm, ho⟩; have HS2 := Lib.hid (HD.out.own hm ho); clear hm ho)
      go_roundg (n - (i + 1))
      case measure => have := HK.out; have := HLT.out; omega
      case rel =>
        have hst := (HC.out.store a.at_ a.v).1
        exact ⟨i + 1, _, by have := HLT.out; omega, by go_num, HS2.out, by rw [show (0 : Int) + ((i + 1 : Nat) : Int) = 0 + (i : Int) + 1 by omega]; exact hst, HG.out.store HC.out _ _, trivial⟩
    · have hi : i = n := by have := HK.out; omega
      subst hi
      go_wp2_with fail
      go_loopg [10] 4 (fun k p wr => FlushRel w b rb F m i k p wr)
      case atStart => exact ⟨0, m, by omega, rfl, HS.out, by have := HC.out; simpa using this, by rw [part_zero]⟩
      case round =>
        obtain ⟨j, m2, hk, rfl, hs, hc, hr⟩ := hrel
        have HK2 := Lib.hid hk
        have HS2 := Lib.hid hs
        have HC2 := Lib.hid hc
        have HR := Lib.hid hr
        clear hk hs hc hr
        by_cases hlt : j < 4
        · have HLT := Lib.hid hlt
          have hlt2 : (j : Int) < 4 := by omega
          obtain ⟨r, hr⟩ : ∃ r, m.rows[j]? = some r := ⟨m.rows[j]'(by rw [HC.out.four]; exact hlt), List.getElem?_eq_getElem _⟩
          have HRR := Lib.hid hr
          have hfl := HC2.out.flush j r (by rw [HR.out, part_get]; exact hr)
          have HFL := Lib.hid hfl
          clear hr hfl
          go_wp2_with (go_at_call 13; refine (mflush_any b rb F m2 j _ HS2.out.mem HC2.out.n0 (by have := HC2.out.nc; have := HLT.out; omega)).mono ?_; rw [HFL.out]; rintro e w' ⟨rfl, hm, ho⟩; have HS3 := Lib.hid (HS2.out.own hm ho); clear hm ho)
          go_roundg (4 - (j + 1))
          case measure => have := HK2.out; have := HLT.out; omega
          case rel =>
            have := HC2.out
            refine ⟨j + 1, _, by have := HLT.out; omega, by go_num, HS3.out, ⟨this.off, this.calls, by simp only [List.length_set]; exact this.four, by have := this.n0; simp only; omega, by have := this.nc; simp only; omega⟩, ?_⟩
            simp only
            rw [HR.out, part_succ (fun _ r => r.flush) _ _ _ HRR.out]
        · have hj : j = 4 := by have := HK2.out; omega
          subst hj
          have hrf : m2.rows = m.rows.mapIdx fun _ r => r.flush := by rw [HR.out, part_all _ _ _ (by rw [HC.out.four]; omega)]
          have hfe := HC2.out.fence
          have HFE := Lib.hid hfe
          have hst : Still (m2.rows.mapIdx fun _ r => r.fence) := by rw [hrf]; exact still_of HG.out
          have HST := Lib.hid hst
          clear hfe hst hrf
          go_wp2_with fail
          refine (mfence_any b rb F m2 _ HS2.out.mem HC2.out.n0 (by have := HC2.out.nc; omega)).mono ?_
          rw [HFE.out]
          rintro e x1 ⟨rfl, hm, ho⟩
          have HS3 := Lib.hid (HS2.out.own hm ho)
          obtain ⟨m3, hm3⟩ : ∃ m3 : Mm, m3 = { m2 with n := m2.n + 1, rows := m2.rows.mapIdx fun _ r => r.fence } := ⟨_, rfl⟩
          have HC3 : Hid (Calm m3 50) := Lib.hid (by
            have := HC2.out
            rw [hm3]
            exact ⟨this.off, this.calls, by simp only [List.length_mapIdx]; exact this.four, by have := this.n0; simp only; omega, by have := this.nc; simp only; omega⟩)
          have HS4 : Hid (MS w x1 b rb F m3) := Lib.hid (by rw [hm3]; exact HS3.out)
          have HST3 : Hid (Still m3.rows) := Lib.hid (by rw [hm3]; exact HST.out)
          clear hm ho HS3 HS2 HS HC HG HR HC2 HFE HST hm3 HK HK2
          go_wp2_with fail
          refine (mout_any b rb F m3 _ HS4.out.mem).mono ?_
          rintro e x2 ⟨v, rfl, hv, hb⟩
          have hnil : m3.outs = [] := outsOf_nil (fun j r hr => (HST3.out j r hr).1) _
          rw [hnil] at hv
          obtain ⟨A3, cap3, rfl, _⟩ := hv
          rw [List.length_nil]
          have HS5 := Lib.hid (HS4.out.below hb)
          clear hnil HS4 hb
          go_wp2_with fail
          refine (mwords_any b rb F m3 _ HS5.out.mem).mono ?_
          rintro e x3 ⟨vo, rfl, hv, hb⟩
          have HS6 := Lib.hid (HS5.out.below hb)
          have HVO := Lib.hid (lies_mono hv HS5.out.mem.sz)
          clear hv hb HS5
          have HOK3 := Lib.hid HS6.out.mem.oks
          obtain ⟨zo, hzo⟩ : ∃ zo, m3.words = zo := ⟨_, rfl⟩
          rw [hzo] at HVO
          have HZO := Lib.hid hzo
          clear hzo
          go_wp2_with fail
          go_loopg [12] n1 (fun k p wr => StoresRel w b rb F n1 (G2 m3.rows) (fun w' => Lies w' F vo .u64 zo) 50 k p wr)
          case atStart => exact ⟨0, m3, by omega, rfl, HS6.out, by have := HC3.out; simpa using this, g2_still HST3.out, HVO.out⟩
          case round =>
            obtain ⟨i, m, hk, rfl, hs, hc, hg, hv⟩ := hrel
            have HK := Lib.hid hk
            have HS := Lib.hid hs
            have HC := Lib.hid hc
            have HG := Lib.hid hg
            have HV := Lib.hid hv
            clear hk hs hc hg hv HS6 HVO HC3
            by_cases hlt : i < n1
            · have HLT := Lib.hid hlt
              have hlt2 : (i : Int) < (n1 : Int) := by omega
              obtain ⟨bb, o, rfl, hblk, hcs⟩ := LL1.out (by rw [← HN1.out]; omega)
              obtain ⟨a, ha⟩ : ∃ a, l1[i]? = some a := ⟨l1[i]'(by rw [← HN1.out]; exact hlt), List.getElem?_eq_getElem _⟩
              obtain ⟨_, h1, _, h3, _⟩ := hcs i a ha
              have c1 : wr.cell? ⟨bb, o + i * 5 + 1, none⟩ = some (.int .i64 a.at_) := by rw [← h1]; exact HS.out.old.cell hblk
              have c3 : wr.cell? ⟨bb, o + i * 5 + 3, none⟩ = some (.int .u64 a.v) := by rw [← h3]; exact HS.out.old.cell hblk
              clear hcs hblk ha h1 h3
              go_wp2_with fail
              go_still_tail 11, (by kernel_rfl)
              change wpList _ _ _ _ _ wr.drew
              have HD := Lib.hid (HS.out.drewN 1)
              have HVD : Hid (Lies wr.drew F vo .u64 zo) := Lib.hid (HV.out.below ⟨rfl, rfl, rfl, Nat.le_refl _, fun _ _ => rfl⟩)
              go_wp2_with (go_at_call 12; refine (mstore_any b rb F m a.at_ a.v _ HD.out.mem HC.out.n0 (by have := HC.out.nc; have := HLT.out; omega)).mono ?_; rintro e w' ⟨rfl, hm, ho⟩; have HS2 := Lib.hid (HD.out.own hm ho); have HV2 := Lib.hid (HVD.out.own ho HD.out.mem.bF HD.out.mem.rF); clear hm ho)
              go_roundg (n1 - (i + 1))
              case measure => have := HK.out; have := HLT.out; omega
              case rel =>
                have hst := (HC.out.store a.at_ a.v).1
                exact ⟨i + 1, _, by have := HLT.out; omega, by go_num, HS2.out, by rw [show (50 : Int) + ((i + 1 : Nat) : Int) = 50 + (i : Int) + 1 by omega]; exact hst, HG.out.store HC.out _ _, HV2.out⟩
            · have HOKM := Lib.hid HS.out.mem.oks
              go_wp2_with fail
              refine (mwords_any b rb F m _ HS.out.mem).mono ?_
              rintro e x4 ⟨vn, rfl, hv, hb⟩
              have HS2 := Lib.hid (HS.out.below hb)
              have HVN := Lib.hid (lies_mono hv HS.out.mem.sz)
              have HVO := Lib.hid (HV.out.below hb)
              clear hv hb HS HV
              go_wp2_with fail
              have hcr := mcrash_any b rb F m A2 cap2 ks _ HS2.out.mem (by have := HKL.out; omega) ((KK.out.below HS2.out.old).mono HS2.out.old.size)
              rw [← HQ.out] at hcr
              refine hcr.mono ?_
              clear hcr
              rintro e x5 ⟨rfl, hm, ho⟩
              have HS3 := Lib.hid (HS2.out.own hm ho)
              have HVN2 := Lib.hid (HVN.out.own ho HS2.out.mem.bF HS2.out.mem.rF)
              have HVO2 := Lib.hid (HVO.out.own ho HS2.out.mem.bF HS2.out.mem.rF)
              clear hm ho HS2 HVN HVO
              go_wp2_with fail
              refine (mwords_any b rb F _ _ HS3.out.mem).mono ?_
              rintro e X ⟨vw, rfl, hv, hb⟩
              have HS4 := Lib.hid (HS3.out.below hb)
              have hno := hv
              have hnn := HVN2.out.below hb
              have hnz := HVO2.out.below hb
              have HF : Hid (∀ (r k : Nat), r < 4 → 8 * r ≤ k → k < 8 * r + 8 → (decide ((r : Int) ∈ ks) = true → (m.crash ks).words[k]? = m.words[k]?) ∧ (decide ((r : Int) ∈ ks) = false → (m.crash ks).words[k]? = zo[k]?)) := Lib.hid (by
                intro r k h1 h2 h3
                rw [← HZO.out]
                exact sure_words HOK3.out HOKM.out HG.out HC.out.off ks r k (by rw [← HG.out.1, HC.out.four]; exact h1) h2 h3)
              have L1 : m.words.length = 32 := by
                have := wordsOf_length HOKM.out
                rw [HC.out.four] at this
                exact this
              have L2 : zo.length = 32 := by
                have := wordsOf_length HOK3.out
                rw [← HG.out.1, HC.out.four] at this
                rw [← HZO.out]
                exact this
              have L3 : (m.crash ks).words.length = 32 := by
                have := wordsOf_length HS4.out.mem.oks
                have h4 : (m.crash ks).rows.length = 4 := by
                  unfold Mm.crash
                  rw [if_neg (by rw [HC.out.off]; simp)]
                  rw [Mm.down_length]; exact HC.out.four
                rw [h4] at this
                exact this
              generalize m.words = zn at hnn HF L1
              generalize (m.crash ks).words = zw at hno HF L3
              obtain ⟨Ao, co, rfl, po⟩ := hnz
              obtain ⟨An, cn, rfl, pn⟩ := hnn
              obtain ⟨Aw, cw, rfl, pw⟩ := hno
              obtain ⟨go, oo, rfl, _, xo, yo⟩ := po (by omega)
              obtain ⟨gn, on, rfl, _, xn, yn⟩ := pn (by omega)
              obtain ⟨gw, ow, rfl, _, xw, yw⟩ := pw (by omega)
              rw [L1, L2, L3]
              have HOW := Lib.hid HS4.out.old
              have YO := Lib.hid yo
              have YN := Lib.hid yn
              have YW := Lib.hid yw
              have XO := Lib.hid xo
              have XN := Lib.hid xn
              have XW := Lib.hid xw
              have HL1 := Lib.hid L1
              have HL2 := Lib.hid L2
              have HL3 := Lib.hid L3
              clear hv hb HS3 HVN2 HVO2 HS4 po pn pw yo yn yw xo xn xw L1 L2 L3 HG HC HOKM HOK3 HZO HST3
              go_wp2_with fail
              go_loopg [15] 4 (fun k p wr => LinesRel X k p wr)
              case atStart => exact ⟨0, by omega, rfl, Below.refl _ _⟩
              case round =>
                obtain ⟨r, hk, rfl, hb⟩ := hrel
                have HKR := Lib.hid hk
                have HBX := Lib.hid hb
                clear hk hb
                by_cases hlt : r < 4
                · have HR4 := Lib.hid hlt
                  have hlt2 : (r : Int) < 4 := by omega
                  go_wp2_with fail
                  go_loopg [16, 17] q (fun k p p' wr => HoldsRel X ks r k p p' wr)
                  case atStart => exact ⟨0, by rw [← HQ.out]; omega, by simp, rfl, HBX.out⟩
                  case round =>
                    obtain ⟨i, hk, rfl, rfl, hb⟩ := hrel
                    have HKI := Lib.hid hk
                    have HBI := Lib.hid hb
                    clear hk hb HBX
                    obtain ⟨f, hf⟩ : ∃ f, decide ((r : Int) ∈ ks.take i) = f := ⟨_, rfl⟩
                    have HFI := Lib.hid hf
                    rw [hf]
                    clear hf
                    by_cases hlt : i < q
                    · have HLT := Lib.hid hlt
                      have hlt3 : (i : Int) < (q : Int) := by omega
                      obtain ⟨kb, ko, rfl, hblk, hcs⟩ := KK.out (by rw [← HQ.out]; omega)
                      obtain ⟨z, hz⟩ : ∃ z, ks[i]? = some z := ⟨ks[i]'(by rw [← HQ.out]; exact hlt), List.getElem?_eq_getElem _⟩
                      have hbw := HOW.out.trans (HBI.out.mono HOW.out.size)
                      have c1 : wr.cell? ⟨kb, ko + i, none⟩ = some (.int .i64 z) := by rw [← hcs i z hz]; exact hbw.cell hblk
                      have HZ := Lib.hid hz
                      clear hcs hblk hz hbw
                      have hnext : decide ((r : Int) ∈ ks.take (i + 1)) = (f || (z == (r : Int))) := by
                        rw [List.take_add_one, HZ.out, ← HFI.out]
                        simp only [Option.toList_some, List.mem_append, List.mem_singleton, Bool.decide_or]
                        rw [eq_beq]
                      have HNX := Lib.hid hnext
                      clear hnext
                      cases f
                      · go_wp2
                        go_roundg (q - (i + 1))
                        case measure => have := HKI.out; have := HLT.out; have := HQ.out; omega
                        case rel => exact ⟨i + 1, by have := HLT.out; have := HQ.out; omega, by rw [HNX.out]; simp, by go_num, HBI.out⟩
                      · go_wp2
                        go_roundg (q - (i + 1))
                        case measure => have := HKI.out; have := HLT.out; have := HQ.out; omega
                        case rel => exact ⟨i + 1, by have := HLT.out; have := HQ.out; omega, by rw [HNX.out]; simp, by go_num, HBI.out⟩
                    · have hff : decide ((r : Int) ∈ ks) = f := by
                        have := HFI.out
                        rwa [List.take_of_length_le (by rw [← HQ.out]; omega)] at this
                      have HFF := Lib.hid hff
                      clear hff
                      go_wp2_with fail
                      go_loopg [18] 8 (fun k p wr => WordRel8 X r k p wr)
                      case atStart => exact ⟨0, by omega, by simp, HBI.out⟩
                      case round =>
                        obtain ⟨j, hk, rfl, hb⟩ := hrel
                        obtain ⟨κ, hκ⟩ : ∃ κ, κ = 8 * r + j := ⟨_, rfl⟩
                        rw [← hκ]
                        have HKJ := Lib.hid hk
                        have HBJ := Lib.hid hb
                        have HKK := Lib.hid hκ
                        clear hk hb HBI
                        by_cases hlt : j < 8
                        · have HLT := Lib.hid hlt
                          have hlt3 : (κ : Int) < 8 * (r : Int) + 8 := by omega
                          have hlt4 : (κ : Int) < 32 := by omega
                          have hfact := HF.out r κ HR4.out (by omega) (by omega)
                          rw [HFF.out] at hfact
                          clear hκ
                          obtain ⟨zz, hzz⟩ : ∃ zz, zw[κ]? = some zz := ⟨zw[κ]'(by rw [HL3.out]; omega), List.getElem?_eq_getElem _⟩
                          have cw := YW.out κ zz hzz
                          have cw2 : wr.cell? ⟨gw, ow + κ, none⟩ = some (.int .u64 zz) := by rw [← cw]; exact HBJ.out.cell XW.out
                          cases f
                          · have c2 := YO.out κ zz (by rw [← hfact.2 rfl]; exact hzz)
                            have co2 : wr.cell? ⟨go, oo + κ, none⟩ = some (.int .u64 zz) := by rw [← c2]; exact HBJ.out.cell XO.out
                            clear cw c2 hfact hzz
                            go_wp2_with fail
                            go_quiet (fail)
                            go_wp2
                            go_roundg (8 - (j + 1))
                            case measure => have := HKJ.out; have := HLT.out; omega
                            case rel => exact ⟨j + 1, by have := HLT.out; omega, by have := HKK.out; go_num, below_draws HBJ.out _⟩
                          · have c2 := YN.out κ zz (by rw [← hfact.1 rfl]; exact hzz)
                            have co2 : wr.cell? ⟨gn, on + κ, none⟩ = some (.int .u64 zz) := by rw [← c2]; exact HBJ.out.cell XN.out
                            clear cw c2 hfact hzz
                            go_wp2_with fail
                            go_quiet (fail)
                            go_wp2
                            go_roundg (8 - (j + 1))
                            case measure => have := HKJ.out; have := HLT.out; omega
                            case rel => exact ⟨j + 1, by have := HLT.out; omega, by have := HKK.out; go_num, below_draws HBJ.out _⟩
                        · have hj : ¬ (κ : Int) < 8 * (r : Int) + 8 := by omega
                          go_wp2
                          go_roundg (4 - (r + 1))
                          case measure => have := HKR.out; have := HR4.out; omega
                          case rel => exact ⟨r + 1, by have := HR4.out; omega, by go_num, HBJ.out⟩
                · go_wp2
                  go_ret
                  exact ⟨rfl, HOW.out.trans (HBX.out.mono HOW.out.size)⟩
set_option maxRecDepth 100000 in
set_option maxHeartbeats 2000000 in
theorem sure_out (A : Option Addr) (cap n : Nat) (A1 : Option Addr) (cap1 n1 : Nat) (A2 : Option Addr) (cap2 q : Nat) (w : World) (hn : n ≤ maxLen) (hn1 : n1 ≤ maxLen) (hq : q ≤ maxLen)
    (h : 40 < n ∨ (n ≤ 40 ∧ 40 < n1) ∨ (n ≤ 40 ∧ n1 ≤ 40 ∧ 20 < q)) :
    Calls Try.prog 5 #[.slice A n cap, .slice A1 n1 cap1, .slice A2 q cap2] w fun e w' => e = .returned (.bool true) ∧ Below w.heap.size w w' := by
  unfold maxLen at hn hn1 hq
  rcases h with h | ⟨h1, h2⟩ | ⟨h1, h2, h3⟩
  · have g1 : (40 : Int) < (n : Int) := by omega
    go_enter Try.func5, Try.ntmps5
    go_wp2_with (go_at_call 8; refine (awake_any _).mono ?_; rintro e w' ⟨rfl, hb⟩; have HB := Lib.hid hb; clear hb)
    go_ret
    exact ⟨rfl, HB.out⟩
  · have g1 : decide ((40 : Int) < (n : Int)) = false := by simp; omega
    have g2 : (40 : Int) < (n1 : Int) := by omega
    go_enter Try.func5, Try.ntmps5
    go_wp2_with (go_at_call 8; refine (awake_any _).mono ?_; rintro e w' ⟨rfl, hb⟩; have HB := Lib.hid hb; clear hb)
    go_ret
    exact ⟨rfl, HB.out⟩
  · have g1 : decide ((40 : Int) < (n : Int)) = false := by simp; omega
    have g2 : decide ((40 : Int) < (n1 : Int)) = false := by simp; omega
    have g3 : (20 : Int) < (q : Int) := by omega
    go_enter Try.func5, Try.ntmps5
    go_wp2_with (go_at_call 8; refine (awake_any _).mono ?_; rintro e w' ⟨rfl, hb⟩; have HB := Lib.hid hb; clear hb)
    go_ret
    exact ⟨rfl, HB.out⟩

/-- NvmSure. -/
theorem sure_walk (A : Option Addr) (cap : Nat) (l : List Ac) (A1 : Option Addr) (cap1 : Nat) (l1 : List Ac) (A2 : Option Addr) (cap2 : Nat) (ks : List Int) (w : World)
    (hl : l.length ≤ maxLen) (hl1 : l1.length ≤ maxLen) (hl2 : ks.length ≤ maxLen) (hL : ActsAt w w.heap.size A l) (hL1 : ActsAt w w.heap.size A1 l1) (hK : IntsAt w w.heap.size A2 ks) :
    Calls Try.prog 5 #[.slice A l.length cap, .slice A1 l1.length cap1, .slice A2 ks.length cap2] w fun e w' => e = .returned (.bool true) ∧ Below w.heap.size w w' := by
  by_cases h1 : 40 < l.length
  · exact sure_out A cap _ A1 cap1 _ A2 cap2 _ w hl hl1 hl2 (.inl h1)
  by_cases h2 : 40 < l1.length
  · exact sure_out A cap _ A1 cap1 _ A2 cap2 _ w hl hl1 hl2 (.inr (.inl ⟨by omega, h2⟩))
  by_cases h3 : 20 < ks.length
  · exact sure_out A cap _ A1 cap1 _ A2 cap2 _ w hl hl1 hl2 (.inr (.inr ⟨by omega, by omega, h3⟩))
  · exact sure_in A cap l A1 cap1 l1 A2 cap2 ks w (by omega) (by omega) (by omega) hL hL1 hK
end Go.Proofs.Ytehfkibpcdcddaa
