/-
  The walk of the law NvmSwaps: it answers true. Condition: the acts lie in memory.
-/
import Derived.Test.YtehfkibpcdcddaaNh
namespace Go.Proofs.Ytehfkibpcdcddaa
open Go.RowKit

/-- eight words of the law's own -/
structure Eight (w : World) (b : Nat) (zs : List Int) : Prop where
  len : zs.length = 8
  range : w.rangeAt b 0 (wcells zs)
  free : w.there b 0 8

section
variable {w w' : World} {b : Nat} {zs : List Int}
theorem Eight.cell (h : Eight w b zs) {j : Nat} (hj : j < 8) : w.cell? ⟨b, j, none⟩ = some (.int .u64 (zs.getD j 0)) := by
  have := h.range j _ (wcells_get (by rw [h.len]; exact hj))
  rwa [Nat.zero_add] at this
theorem Eight.open_ (h : Eight w b zs) {j : Nat} (hj : j < 8) : w.frozen? ⟨b, j, none⟩ = false := by
  have := (h.free j hj).2
  rwa [Nat.zero_add] at this
theorem Eight.lt (h : Eight w b zs) : b < w.heap.size := World.block_lt_of_cell? w _ (h.cell (j := 0) (by omega))
theorem Eight.keep (h : Eight w b zs) (hb : w'.heap[b]? = w.heap[b]?) : Eight w' b zs :=
  ⟨h.len, fun j v hv => (World.cell?_of_block (w := w) hb).trans (h.range j v hv), fun j hj => ⟨by rw [World.cell?_of_block (w := w) (a := ⟨b, 0 + j, none⟩) hb]; exact (h.free j hj).1, by rw [World.frozen?_of_block (w := w) (a := ⟨b, 0 + j, none⟩) hb]; exact (h.free j hj).2⟩⟩
theorem Eight.drewN (h : Eight w b zs) (n : Nat) : Eight (w.drewN n) b zs := ⟨h.len, h.range, h.free⟩
theorem Eight.new (w : World) (t : TypeId) (zs : List Int) (h : zs.length = 8) : Eight (w.alloc (.cells (wcells zs).toArray t)) w.heap.size zs := by
  have hg := heap_alloc_new w (.cells (wcells zs).toArray t)
  refine ⟨h, fun j v hv => ?_, fun j hj => ⟨?_, ?_⟩⟩
  · rw [Nat.zero_add, cell_of_row _ _ j _ _ _ hg]; simpa using hv
  · rw [Nat.zero_add, cell_of_row _ _ j _ _ _ hg]
    have : j < (wcells zs).length := by rw [wcells_length, h]; exact hj
    simp [this]
  · rw [Nat.zero_add]; exact frozen_of_row _ _ j _ _ hg
/-- one of the eight is written -/
theorem Eight.set_ (h : Eight w b zs) (i : Nat) (v : Int) (hi : i < 8) : Eight (w.setCell ⟨b, i, none⟩ (.int .u64 v)) b (zs.set i v) ∧ Fr w (w.setCell ⟨b, i, none⟩ (.int .u64 v)) b 0 8 := by
  have hf : Fr w (w.setCell ⟨b, i, none⟩ (.int .u64 v)) b 0 8 := Fr.set_ w _ (by omega) (by omega)
  refine ⟨⟨by rw [List.length_set]; exact h.len, fun j x hx => ?_, fun j hj => ⟨hf.some _ (h.free j hj).1, (hf.frozen _ h.lt).trans (h.free j hj).2⟩⟩, hf⟩
  rw [Nat.zero_add]
  rw [← wcells_set] at hx
  by_cases e : i = j
  · subst e
    rw [List.getElem?_set_self (by rw [wcells_length, h.len]; exact hi)] at hx
    rw [World.cell?_setCell_same _ _ _ (h.cell hi)]; exact hx
  · rw [List.getElem?_set_ne e] at hx
    rw [World.cell?_setCell_other _ _ _ _ (fun h => e (by injection h))]
    have := h.range j x hx
    rwa [Nat.zero_add] at this
end

theorem and_any (x : Int) : ∃ k : Nat, k < 8 ∧ bits .and .i64 x 7 = (k : Int) := by
  refine ⟨(BitVec.ofInt 64 x &&& BitVec.ofInt 64 7).toNat, ?_, ?_⟩
  · rw [BitVec.toNat_and]
    have : (BitVec.ofInt 64 7).toNat = 7 := by decide
    rw [this]
    have := Nat.and_le_right (n := (BitVec.ofInt 64 x).toNat) (m := 7)
    omega
  · show IntKind.i64.wrap ((BitVec.ofInt 64 x &&& BitVec.ofInt 64 7).toNat : Int) = _
    have h7 : (BitVec.ofInt 64 x &&& BitVec.ofInt 64 7).toNat ≤ 7 := by
      rw [BitVec.toNat_and]
      have : (BitVec.ofInt 64 7).toNat = 7 := by decide
      rw [this]
      exact Nat.and_le_right
    rw [IntKind.wrap_i64]
    omega

/-- a memory of one line that is on and has no fuse -/
def one (r : Ln) (n : Int) : Mm := ⟨[r], false, n, 0, fun _ => false⟩
theorem one_load (r : Ln) (n : Int) (k : Nat) (hk : k < 8) : (one r n).load k = (r.N.getD k 0, 0) := by
  have hw : (one r n).word (k : Int) = true := by unfold Mm.word inb one; simp; omega
  have hm : (one r n).may ((one r n).word (k : Int)) = 0 := by rw [hw]; rfl
  unfold Mm.load
  rw [if_pos hm]
  have e1 : (k : Int).toNat / 8 = 0 := by simp; omega
  have e2 : (k : Int).toNat % 8 = k := by simp; omega
  rw [e1, e2]
  have : (one r n).get 0 = r := rfl
  rw [this]
  unfold Ln.load
  rw [if_pos (by unfold inl; simp; omega)]
  simp
theorem one_swap_no (r : Ln) (n : Int) (k : Nat) (o v : Int) (hk : k < 8) (h : r.N.getD k 0 ≠ o) : (one r n).swap k o v = ((false, 0), one r n) := by
  unfold Mm.swap
  rw [one_load r n k hk, if_neg (fun q => h q.2)]
theorem one_swap_yes (r : Ln) (n : Int) (k : Nat) (o v : Int) (hk : k < 8) (h : r.N.getD k 0 = o) : (one r n).swap k o v = ((true, 0), one { r with N := r.N.set k v, out := true, sent := false } (n + 1)) := by
  have hw : (one r n).word (k : Int) = true := by unfold Mm.word inb one; simp; omega
  have hb : (one r n).begin true = (0, one r (n + 1)) := rfl
  have hs : (one r n).store k v = (0, one { r with N := r.N.set k v, out := true, sent := false } (n + 1)) := by
    unfold Mm.store
    rw [hw, hb]
    simp only [if_true]
    have e1 : (k : Int).toNat / 8 = 0 := by simp; omega
    have e2 : (k : Int).toNat % 8 = k := by simp; omega
    rw [e1, e2]
    have hst : ((one r (n + 1)).get 0).store (k : Int) v = { r with N := r.N.set k v, out := true, sent := false } := by
      show r.store (k : Int) v = _
      unfold Ln.store
      rw [if_pos (by unfold inl; simp; omega)]
      simp
    rw [hst]
    rfl
  unfold Mm.swap
  rw [one_load r n k hk, if_pos ⟨rfl, h⟩, hs]
  rfl

/-- the memory, the law's own words, all that was there -/
structure SS (W w : World) (b rb F g : Nat) (r : Ln) (n : Int) : Prop where
  mem : MAt w b rb F (one r n)
  own : Eight w g r.N
  gb : b ≠ g
  gr : rb ≠ g
  gF : g < F
  wb : W.heap.size ≤ b
  wr : W.heap.size ≤ rb
  wg : W.heap.size ≤ g
  old : Below W.heap.size W w
section
variable {W w w' : World} {b rb F g : Nat} {r r' : Ln} {n n' : Int}
theorem SS.drewN (h : SS W w b rb F g r n) (k : Nat) : SS W (w.drewN k) b rb F g r n := ⟨h.mem.drewN k, h.own.drewN k, h.gb, h.gr, h.gF, h.wb, h.wr, h.wg, below_draws h.old k⟩
theorem SS.same (h : SS W w b rb F g r n) (hm : MAt w' b rb F (one r' n')) (ho : Own b rb w w') (hr : r'.N = r.N) : SS W w' b rb F g r' n' :=
  ⟨hm, by rw [hr]; exact h.own.keep (ho.block g h.own.lt (Ne.symm h.gb) (Ne.symm h.gr)), h.gb, h.gr, h.gF, h.wb, h.wr, h.wg, h.old.trans (ho.below h.wb h.wr h.old.size)⟩
/-- the memory is written, then the law's own words -/
theorem SS.write (h : SS W w b rb F g r n) (hm : MAt w' b rb F (one r' n')) (ho : Own b rb w w') (k : Nat) (v : Int) (hk : k < 8) (hr : r'.N = r.N.set k v) : SS W (w'.setCell ⟨g, k, none⟩ (.int .u64 v)) b rb F g r' n' := by
  have he := h.own.keep (ho.block g h.own.lt (Ne.symm h.gb) (Ne.symm h.gr))
  obtain ⟨h1, h2⟩ := he.set_ k v hk
  have hb := h.old.trans (ho.below h.wb h.wr h.old.size)
  exact ⟨hm.other (Own.fr (rb := g) h2) h.gF h.gF h.gb h.gb h.gr h.gr, by rw [hr]; exact h1, h.gb, h.gr, h.gF, h.wb, h.wr, h.wg, hb.trans (h2.below h.wg hb.size)⟩
end

def SwapRel (W : World) (b rb F g n : Nat) (k : Nat) (p : Value) (wr : World) : Prop :=
  ∃ (i : Nat) (r : Ln) (c : Int), k + i = n ∧ p = .int .i64 i ∧ 0 ≤ c ∧ c ≤ i ∧ SS W wr b rb F g r c

set_option maxRecDepth 100000 in
set_option maxHeartbeats 4000000 in
theorem swaps_in (A : Option Addr) (cap : Nat) (l : List Ac) (w : World) (hl : l.length ≤ 60) (hL : ActsAt w w.heap.size A l) :
    Calls Try.prog 7 #[.slice A l.length cap] w fun e w' => e = .returned (.bool true) ∧ Below w.heap.size w w' := by
  have LL := Lib.hid hL
  obtain ⟨n, hn⟩ : ∃ m, m = l.length := ⟨_, rfl⟩
  rw [← hn] at hl ⊢
  have HN := Lib.hid hn
  clear hn hL
  have hl2 : decide ((60 : Int) < (n : Int)) = false := by simp; omega
  go_enter Try.func7, Try.ntmps7
  go_wp2_with fail
  refine (awake_any _).mono ?_
  rintro e w0 ⟨rfl, hb⟩
  have HB := Lib.hid hb
  clear hb
  go_wp2_with fail
  refine (new_any 1 (by omega) (by omega) w0).mono ?_
  rintro e x0 ⟨rfl, hm, hs, hb⟩
  have he := Eight.new x0 59 zeros rfl
  rw [hs] at he
  have hm2 := hm.below (((Below.refl x0.heap.size x0).alloc (Nat.le_refl _) (.cells (wcells zeros).toArray 59)))
  have hm3 : MAt (x0.alloc (.cells (wcells zeros).toArray 59)) (w0.heap.size + 1) w0.heap.size (w0.heap.size + 3) (fresh 1) := by
    obtain ⟨v, h4, _⟩ := hm2.c4
    exact ⟨hm2.rows, hm2.pos, hm2.few, hm2.c0, hm2.c1, hm2.c2, hm2.c3, ⟨v, h4, fun h0 => absurd h0 (by simp [fresh])⟩, hm2.free, hm2.ne, by omega, by omega, by simp; omega, hm2.calls0⟩
  have hsz := HB.out.size
  have hbl : Below w.heap.size w (x0.alloc (.cells (wcells zeros).toArray 59)) := ((HB.out.trans (hb.mono hsz)).alloc (by omega) _)
  have HS := Lib.hid (show SS w (x0.alloc (.cells (wcells zeros).toArray 59)) (w0.heap.size + 1) w0.heap.size (w0.heap.size + 3) (w0.heap.size + 2) blank 0 from
    ⟨hm3, he, by omega, by omega, by omega, by omega, by omega, by omega, hbl⟩)
  clear hm2 hm3 he hb hm hbl hsz
  have HX := Lib.hid hs
  have hx2 := hs
  clear hs
  simp only [wcells, zeros, List.map_cons, List.map_nil] at HS
  obtain ⟨b, hbb⟩ : ∃ b, b = w0.heap.size + 1 := ⟨_, rfl⟩
  obtain ⟨rb, hrb⟩ : ∃ rb, rb = w0.heap.size := ⟨_, rfl⟩
  obtain ⟨g, hg⟩ : ∃ g, g = w0.heap.size + 2 := ⟨_, rfl⟩
  generalize w0.heap.size + 3 = F at HS
  rw [← hbb, ← hg, ← hrb] at HS
  rw [← hg] at hx2
  rw [← hbb]
  clear hbb hrb hg HX
  go_wp2_with fail

  generalize x0.alloc (.cells #[.int .u64 0, .int .u64 0, .int .u64 0, .int .u64 0, .int .u64 0, .int .u64 0, .int .u64 0, .int .u64 0] 59) = x1 at HS ⊢
  clear hx2 HB
  go_loopg [6] n (fun k p wr => SwapRel w b rb F g n k p wr)
  case atStart => exact ⟨0, blank, 0, by omega, rfl, by omega, by omega, HS.out⟩
  case round =>
    obtain ⟨i, r, c, hk, rfl, hc0, hc1, hss⟩ := hrel
    have HK := Lib.hid hk
    have HC0 := Lib.hid hc0
    have HC1 := Lib.hid hc1
    have HSS := Lib.hid hss
    clear hk hc0 hc1 hss HS
    by_cases hlt : i < n
    · have HLT := Lib.hid hlt
      have hlt2 : (i : Int) < (n : Int) := by omega
      obtain ⟨bb, o, rfl, hblk, hcs⟩ := LL.out (by rw [← HN.out]; omega)
      obtain ⟨a, ha⟩ : ∃ a, l[i]? = some a := ⟨l[i]'(by rw [← HN.out]; exact hlt), List.getElem?_eq_getElem _⟩
      obtain ⟨g0, g1, g2, g3, g4, g5, g6⟩ := hcs i a ha
      have c1 : wr.cell? ⟨bb, o + i * 5 + 1, none⟩ = some (.int .i64 a.at_) := by rw [← g1]; exact HSS.out.old.cell hblk
      have C2 : ∀ W', Below w.heap.size w W' → W'.cell? ⟨bb, o + i * 5 + 2, none⟩ = some (.int .u64 a.old) := fun W' hW => by rw [← g2]; exact hW.cell hblk
      have C3 : ∀ W', Below w.heap.size w W' → W'.cell? ⟨bb, o + i * 5 + 3, none⟩ = some (.int .u64 a.v) := fun W' hW => by rw [← g3]; exact hW.cell hblk
      have HC2 := Lib.hid C2
      have HC3 := Lib.hid C3
      clear hcs hblk ha g0 g1 g2 g3 g4 g5 g6 C2 C3
      obtain ⟨k, hk8, hand⟩ := and_any a.at_
      have HK8 := Lib.hid hk8
      have c2 := HC2.out wr HSS.out.old
      have c3 := HC3.out wr HSS.out.old
      have d2 := HC2.out wr.drew (below_draws HSS.out.old 1)
      have d3 := HC3.out wr.drew (below_draws HSS.out.old 1)
      clear hk8
      go_wp2_with fail
      have hsd := HSS.out.drewN 1
      have HSD := Lib.hid hsd
      clear hsd
      by_cases hq : r.N.getD k 0 = a.old
      · have hsw := one_swap_yes r c k a.old a.v HK8.out hq
        have HSW := Lib.hid hsw
        clear hsw
        have hcall : ∀ W', W' = wr.drew → Calls Try.prog 11 #[.pointer (some ⟨b, 0, none⟩), .int .i64 k, .int .u64 a.old, .int .u64 a.v] W' fun e w' => e = .returned (.tuple #[.bool true, .int .i64 0]) ∧
            (∀ q, SS w ((w'.drewN q).setCell ⟨g, k, none⟩ (.int .u64 a.v)) b rb F g { r with N := r.N.set k a.v, out := true, sent := false } (c + 1)) ∧ w'.cell? ⟨bb, o + i * 5 + 2, none⟩ = some (.int .u64 a.old) ∧ w'.cell? ⟨bb, o + i * 5 + 3, none⟩ = some (.int .u64 a.v) ∧ Below w.heap.size w w' ∧ Eight w' g r.N := by
          rintro _ rfl
          refine (mswap_any b rb F (one r c) k a.old a.v _ HSD.out.mem HC0.out (by have := HC1.out; simp [one]; omega)).mono fun e w' ⟨h1, h2, h3⟩ => ?_
          rw [HSW.out] at h1 h2
          have hbw := HSD.out.old.trans (h3.below HSD.out.wb HSD.out.wr HSD.out.old.size)
          exact ⟨h1, fun q => HSD.out.write (h2.drewN q) (h3.trans (Own.drewN w' q)) k a.v HK8.out rfl, HC2.out w' hbw, HC3.out w' hbw, hbw, HSD.out.own.keep (h3.block g HSD.out.own.lt (Ne.symm HSD.out.gb) (Ne.symm HSD.out.gr))⟩
        have HCALL := Lib.hid hcall
        clear hcall
        go_region_held3 (fun w' => w'.cell? ⟨bb, o + i * 5 + 2, none⟩ = some (.int .u64 a.old) ∧ w'.cell? ⟨bb, o + i * 5 + 3, none⟩ = some (.int .u64 a.v))
          (first | exact ⟨by assumption, by assumption⟩)
          (first
            | (go_at_call 11; ((with_reducible refine (HCALL.out _ rfl).mono ?_); rintro e w' ⟨rfl, hp, z2, z3, z4, z5⟩)))
        have y1 := z5.cell HK8.out
        rw [hq] at y1
        have y2 := z5.open_ HK8.out
        have d2 := HC2.out w'.drew (below_draws z4 1)
        have d3 := HC3.out w'.drew (below_draws z4 1)
        have HP := Lib.hid hp
        have HLEN : Hid (r.N.length = 8) := Lib.hid z5.len
        clear hp z4 z5 c1 c2 c3 HSS HSD HCALL HSW hq
        have k8 : (k : Int) < 8 := by have := HK8.out; omega
        go_wp2_with fail
        go_quiet (fail)
        go_upto_region 18 with fail
        have hs := HP.out nq
        generalize ((w'.drewN nq).setCell ⟨g, k, none⟩ (.int .u64 a.v)) = w2 at hs ⊢
        clear z2 z3 y1 y2 d2 d3 HP
        have hN : (r.N.set k a.v).getD k 0 = a.v := by
          have h8 : k < (r.N.set k a.v).length := by rw [List.length_set, HLEN.out]; exact HK8.out
          rw [List.getD, List.getElem?_set_self (by rw [HLEN.out]; exact HK8.out)]; rfl
        have y1 := hs.own.cell HK8.out
        simp only at y1
        rw [hN] at y1
        have hld := one_load { r with N := r.N.set k a.v, out := true, sent := false } (c + 1) k HK8.out
        simp only at hld
        rw [hN] at hld
        have HLD := Lib.hid hld
        have HS2 := Lib.hid hs
        clear hs hN hld
        go_wp2_with (go_at_call 20; refine (mload_any b rb F (one { r with N := r.N.set k a.v, out := true, sent := false } (c + 1)) k _ HS2.out.mem).mono ?_; rw [HLD.out]; rintro e w' ⟨rfl, rfl⟩)
        go_roundg (n - (i + 1))
        case measure => have := HK.out; have := HLT.out; omega
        case rel => exact ⟨i + 1, _, c + 1, by have := HLT.out; omega, by go_num, by have := HC0.out; omega, by have := HC1.out; omega, HS2.out⟩
      · have hsw := one_swap_no r c k a.old a.v HK8.out hq
        have HSW := Lib.hid hsw
        clear hsw
        have hcall : ∀ W', W' = wr.drew → Calls Try.prog 11 #[.pointer (some ⟨b, 0, none⟩), .int .i64 k, .int .u64 a.old, .int .u64 a.v] W' fun e w' => e = .returned (.tuple #[.bool false, .int .i64 0]) ∧
            SS w w' b rb F g r c ∧ w'.cell? ⟨bb, o + i * 5 + 2, none⟩ = some (.int .u64 a.old) ∧ w'.cell? ⟨bb, o + i * 5 + 3, none⟩ = some (.int .u64 a.v) ∧ Below w.heap.size w w' := by
          rintro _ rfl
          refine (mswap_any b rb F (one r c) k a.old a.v _ HSD.out.mem HC0.out (by have := HC1.out; simp [one]; omega)).mono fun e w' ⟨h1, h2, h3⟩ => ?_
          rw [HSW.out] at h1 h2
          have hbw := HSD.out.old.trans (h3.below HSD.out.wb HSD.out.wr HSD.out.old.size)
          exact ⟨h1, HSD.out.same h2 h3 rfl, HC2.out w' hbw, HC3.out w' hbw, hbw⟩
        have HCALL := Lib.hid hcall
        clear hcall
        go_region_held3 (fun w' => w'.cell? ⟨bb, o + i * 5 + 2, none⟩ = some (.int .u64 a.old) ∧ w'.cell? ⟨bb, o + i * 5 + 3, none⟩ = some (.int .u64 a.v))
          (first | exact ⟨by assumption, by assumption⟩)
          (first
            | (go_at_call 11; ((with_reducible refine (HCALL.out _ rfl).mono ?_); rintro e w' ⟨rfl, hp, z2, z3, z4⟩)))
        have y1 := hp.own.cell HK8.out
        have hq2 : (r.N.getD k 0 == a.old) = false := by simpa using hq
        have d2 := HC2.out w'.drew (below_draws z4 1)
        have HP := Lib.hid hp
        have hld := one_load r c k HK8.out
        obtain ⟨z, hz⟩ : ∃ z, r.N.getD k 0 = z := ⟨_, rfl⟩
        rw [hz] at y1 hq2 hld
        have HLD := Lib.hid hld
        have HZ := Lib.hid hz
        clear hp z4 c1 c2 c3 HSS HSD HCALL HSW hq hld hz
        have k8 : (k : Int) < 8 := by have := HK8.out; omega
        go_wp2_with fail
        go_quiet (fail)
        go_upto_region 18 with fail
        have hs := HP.out.drewN nq
        generalize (w'.drewN nq) = w2 at hs ⊢
        clear z2 z3 y1 d2 HP hq2
        have y1 := hs.own.cell HK8.out
        rw [HZ.out] at y1
        have HS2 := Lib.hid hs
        clear hs
        go_wp2_with (go_at_call 20; refine (mload_any b rb F (one r c) k _ HS2.out.mem).mono ?_; rw [HLD.out]; rintro e w' ⟨rfl, rfl⟩)
        go_roundg (n - (i + 1))
        case measure => have := HK.out; have := HLT.out; omega
        case rel => exact ⟨i + 1, _, c, by have := HLT.out; omega, by go_num, by have := HC0.out; omega, by have := HC1.out; omega, HS2.out⟩
    · go_wp2
      go_ret
      exact ⟨rfl, HSS.out.old⟩
set_option maxHeartbeats 1000000 in
/-- NvmSwaps. -/
theorem swaps_walk (A : Option Addr) (cap : Nat) (l : List Ac) (w : World) (hl : l.length ≤ maxLen) (hL : ActsAt w w.heap.size A l) :
    Calls Try.prog 7 #[.slice A l.length cap] w fun e w' => e = .returned (.bool true) ∧ Below w.heap.size w w' := by
  rcases Nat.lt_or_ge 60 l.length with h | h
  · clear hL
    obtain ⟨n, hn⟩ : ∃ m, m = l.length := ⟨_, rfl⟩
    rw [← hn] at hl h ⊢
    clear hn
    unfold maxLen at hl
    have h2 : (60 : Int) < (n : Int) := by omega
    go_enter Try.func7, Try.ntmps7
    go_wp2_with (go_at_call 8; refine (awake_any _).mono ?_; rintro e w' ⟨rfl, hb⟩; have HB := Lib.hid hb; clear hb)
    go_ret
    exact ⟨rfl, HB.out⟩
  · exact swaps_in A cap l w h hL
end Go.Proofs.Ytehfkibpcdcddaa
