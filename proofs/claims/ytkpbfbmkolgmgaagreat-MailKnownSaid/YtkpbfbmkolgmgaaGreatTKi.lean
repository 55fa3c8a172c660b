/-
  The program's findNodes, nodesIn and ringless: what Nodes stand in a Node, each gone into once; allHeld. Condition: the state lies in memory, its slots and things may be, no two Nodes have a slot in common.
  The program's nodesIn, ringless and allHeld. Condition: the state lies in memory, its slots and things may be, no two Nodes have a slot in common.
-/
import Derived.Test.YtkpbfbmkolgmgaaGreatTKg
import Derived.Deep.MidRow
namespace Go.Proofs.YtkpbfbmkolgmgaaGreat
open Go.RowKit

theorem zero48 (w : World) : Sem.run Tryz.prog (zeroValue 119) w = .ok (.agg (List.replicate 48 (Value.bool false)).toArray) w := by kernel_rfl
theorem zero48_is : ∃ zs : Array Value, zs = (List.replicate 48 (Value.bool false)).toArray ∧ (∀ w, Sem.run Tryz.prog (zeroValue 119) w = .ok (.agg zs) w) ∧ ¬ zs = #[] ∧ zs.size = 48 :=
  ⟨_, rfl, zero48, by decide, by decide⟩
/-- forty-eight bools of the call's own -/
structure Zb (W w : World) (G : Nat) (u : Nat → Bool) : Prop where
  cell : ∀ j, j < 48 → w.cell? ⟨G, j, none⟩ = some (.bool (u j))
  free : ∀ j, w.frozen? ⟨G, j, none⟩ = false
  base : W.heap.size ≤ G
  lt : G < w.heap.size
section
variable {W w w' : World} {G : Nat} {u v : Nat → Bool}
theorem Zb.on (h : Zb W w G u) (hb : Below w.heap.size w w') : Zb W w' G u :=
  ⟨fun j hj => by rw [hb.cell (p := ⟨G, _, none⟩) h.lt]; exact h.cell j hj, fun j => by rw [World.frozen?_of_block (w := w) (a := ⟨G, j, none⟩) (hb.block G h.lt)]; exact h.free j, h.base, Nat.lt_of_lt_of_le h.lt hb.size⟩
theorem Zb.new (w : World) (t : TypeId) : Zb w (w.alloc (.cells (List.replicate 48 (Value.bool false)).toArray t)) w.heap.size (fun _ => false) := by
  have hg := heap_alloc_new w (.cells (List.replicate 48 (Value.bool false)).toArray t)
  refine ⟨fun j hj => ?_, fun j => frozen_of_row _ _ j _ _ hg, Nat.le_refl _, by simp⟩
  rw [cell_of_row _ _ _ _ _ _ hg, List.getElem?_toArray, List.getElem?_replicate, if_pos hj]
theorem Zb.set (h : Zb W w G u) (i : Nat) : Zb W (w.setCell ⟨G, i, none⟩ (.bool true)) G (mark u i) := by
  refine ⟨fun j hj => ?_, fun j => by rw [World.frozen?_setCell]; exact h.free j, h.base, by simpa [World.setCell] using h.lt⟩
  by_cases e : j = i
  · subst e
    rw [World.cell?_setCell_same _ _ _ (h.cell j hj), mark_self]
  · rw [World.cell?_setCell_other _ _ _ _ (fun q => e (by injection q with _ q; exact q.symm)), h.cell j hj]
    simp [mark, e]
end
/-! ### findNodes -/
/-- what findNodes leaves: nothing but the bools has changed of what was there -/
structure Fnd (w w' : World) (G : Nat) : Prop where
  os : w'.os = w.os
  tape : w'.tape = w.tape
  output : w'.output = w.output
  size : w.heap.size ≤ w'.heap.size
  block : ∀ k, k < w.heap.size → k ≠ G → w'.heap[k]? = w.heap[k]?
theorem Fnd.refl (w : World) (G : Nat) : Fnd w w G := ⟨rfl, rfl, rfl, Nat.le_refl _, fun _ _ _ => rfl⟩
theorem Fnd.trans {w w1 w2 : World} {G : Nat} (h : Fnd w w1 G) (k : Fnd w1 w2 G) : Fnd w w2 G :=
  ⟨k.os.trans h.os, k.tape.trans h.tape, k.output.trans h.output, Nat.le_trans h.size k.size, fun i hi hG => (k.block i (Nat.lt_of_lt_of_le hi h.size) hG).trans (h.block i hi hG)⟩
theorem Fnd.of {w w' : World} (h : Below w.heap.size w w') (G : Nat) : Fnd w w' G := ⟨h.os, h.tape, h.output, h.size, fun k hk _ => h.block k hk⟩
theorem Fnd.mark (w : World) (G i : Nat) (v : Value) : Fnd w (w.setCell ⟨G, i, none⟩ v) G := ⟨rfl, rfl, rfl, by simp [World.setCell], fun k _ hG => Below.heap_setCell _ _ _ _ (fun q => hG (by rw [q]))⟩
theorem Fnd.below {w w' : World} {G : Nat} (h : Fnd w w' G) (hG : G ≤ w.heap.size) : Below G w w' := ⟨h.os, h.tape, h.output, h.size, fun k hk => h.block k (by omega) (by omega)⟩
theorem Fnd.cell {w w' : World} {G k j : Nat} (h : Fnd w w' G) (hk : k < w.heap.size) (hG : k ≠ G) : w'.cell? ⟨k, j, none⟩ = w.cell? ⟨k, j, none⟩ := World.cell?_of_block (w := w) (a := ⟨k, j, none⟩) (h.block k hk hG)
/-- a frame's box -/
structure Nbx (W w : World) (G g : Nat) (a b c : Int) (A : Option Addr) (n ca : Nat) (C : Option Addr) (m cc : Nat) : Prop where
  c0 : w.cell? ⟨g, 0, none⟩ = some (.int .i64 a)
  c1 : w.cell? ⟨g, 1, none⟩ = some (.int .i64 b)
  c2 : w.cell? ⟨g, 2, none⟩ = some (.int .i64 c)
  c3 : w.cell? ⟨g, 3, none⟩ = some (.slice A n ca)
  c4 : w.cell? ⟨g, 4, none⟩ = some (.slice C m cc)
  fnd : Fnd W w G
  ne : g ≠ G
  lt : g < w.heap.size
section
variable {W w w' : World} {G g : Nat} {a b c : Int} {A : Option Addr} {n ca : Nat} {C : Option Addr} {m cc : Nat}
theorem Nbx.step (h : Nbx W w G g a b c A n ca C m cc) (k : Fnd w w' G) : Nbx W w' G g a b c A n ca C m cc :=
  ⟨(k.cell h.lt h.ne).trans h.c0, (k.cell h.lt h.ne).trans h.c1, (k.cell h.lt h.ne).trans h.c2, (k.cell h.lt h.ne).trans h.c3, (k.cell h.lt h.ne).trans h.c4, h.fnd.trans k, h.ne, Nat.lt_of_lt_of_le h.lt k.size⟩
theorem Nbx.new (w : World) (G : Nat) (a b c : Int) (A : Option Addr) (n ca : Nat) (C : Option Addr) (m cc : Nat) (t : TypeId) (hG : G < w.heap.size) : Nbx w (w.alloc (.cells #[.int .i64 a, .int .i64 b, .int .i64 c, .slice A n ca, .slice C m cc] t)) G w.heap.size a b c A n ca C m cc := by
  have k := Sbx.new w a b c A n ca C m cc t
  exact ⟨k.c0, k.c1, k.c2, k.c3, k.c4, .of k.old G, by omega, k.lt⟩
end
def doneN (s : St) (lo i : Nat) (y : Nat) : Prop := ∃ k, k < i ∧ (slAt s.sl (lo + k)).c.ty = 2 ∧ (slAt s.sl (lo + k)).c.th.toNat = y
def FnRel (V W : World) (s : St) (G g : Nat) (a b c : Int) (A : Option Addr) (n ca : Nat) (C : Option Addr) (m cc t lo hi : Nat) (u : Nat → Bool) (f : Nat) (p : Value) (wr : World) : Prop :=
  ∃ (i : Nat) (v : Nat → Bool), f + i = hi - lo ∧ p = .int .i64 i ∧ Dfs (edgesN s.th s.sl) t (doneN s lo i) u v ∧ Zb V wr G v ∧ Nbx W wr G g a b c A n ca C m cc
theorem dn_same {s : St} {lo i : Nat} {v : Nat → Bool} (hd : ∀ y, doneN s lo i y → v y = true) (h : (slAt s.sl (lo + i)).c.ty = 2 → v (slAt s.sl (lo + i)).c.th.toNat = true) : ∀ y, doneN s lo (i + 1) y → v y = true := by
  rintro y ⟨k, hk, h1, h2⟩
  by_cases e : k = i
  · subst e; rw [← h2]; exact h h1
  · exact hd y ⟨k, by omega, h1, h2⟩
theorem rooms_lt {u : Nat → Bool} {y : Nat} (hy : y < 48) (h : u y = false) : kmany 48 (mark u y) ≤ 48 ∧ kmany 48 u < kmany 48 (mark u y) := ⟨kmany_le 48 _, kmany_mark hy h⟩
set_option maxRecDepth 100000 in
set_option maxHeartbeats 8000000 in
theorem find_any {s : St} {a b c : Int} {A C : Option Addr} {n ca m cc : Nat} (hn : n = s.sl.length) (hm : m = s.th.length) (few : n ≤ 96) (fewm : m ≤ 48) (hca : n ≤ ca) (hg : ThOk s.th) (ho : ∀ i, i < s.th.length → ownOk s.th n i = true) (hN : NdIn s) :
    ∀ (N : Nat) (V w : World) (G t : Nat) (u : Nat → Bool), 48 - kmany 48 u < N → t < m → SlotsAt w G A s.sl → ThingsAt w G C s.th → Zb V w G u →
    Calls Tryz.prog 153 #[.agg #[.int .i64 a, .int .i64 b, .int .i64 c, .slice A n ca, .slice C m cc], .int .i64 (t : Int), .pointer (some ⟨G, 0, none⟩)] w fun e w' => e = .returned (.tuple #[]) ∧ ∃ v, Dfs (edgesN s.th s.sl) t (fun y => (t, y) ∈ edgesN s.th s.sl) u v ∧ Zb V w' G v ∧ Fnd w w' G := by
  have HN := Lib.hid hn
  have HM := Lib.hid hm
  have HG := Lib.hid hg
  have HO := Lib.hid ho
  have HND := Lib.hid hN
  have HMEET := Lib.hid (NoMeet.of ho)
  clear hn hm hg ho hN
  intro N
  induction N with
  | zero =>
    intro V w G t u hu
    exact absurd hu (Nat.not_lt_zero _)
  | succ N ih =>
    intro V w G t u hu ht hSl hTh hZ
    have HIH := Lib.hid ih
    have HU := Lib.hid hu
    have HSL := Lib.hid hSl
    have HTH := Lib.hid hTh
    have HZ := Lib.hid hZ
    have HT := Lib.hid ht
    have ht2 : (t : Int) < (m : Int) := by omega
    obtain ⟨tb, tp, rfl, htb, hc⟩ := hTh (by rw [← HM.out]; omega)
    have hT : ThC w tb (tp + t * 13) (thAt s.th t) := hc t (by rw [← HM.out]; exact ht)
    have hgood := HG.out t (by rw [← HM.out]; exact ht)
    have hsm := HG.out.small (i := t) (by rw [← HM.out]; exact ht)
    obtain ⟨lo, hlo⟩ : ∃ lo : Nat, (thAt s.th t).lo = lo := by
      refine ⟨(thAt s.th t).lo.toNat, ?_⟩
      have := hsm.base
      rw [Tng.lo]; split <;> omega
    obtain ⟨hi, hhi⟩ : ∃ hi : Nat, (thAt s.th t).hi = hi := by
      refine ⟨(thAt s.th t).hi.toNat, ?_⟩
      have := hsm.base
      have := tw2_pos (thAt s.th t).bits
      rw [Tng.hi]; split <;> omega
    have hle : lo ≤ hi ∧ hi ≤ n ∧ (hi ≤ lo → lo = 0 ∧ hi = 0) := by
      have h1 := HO.out t (by rw [← HM.out]; exact ht)
      rw [ownOk, Bool.and_eq_true, Bool.not_eq_true', Bool.and_eq_false_iff, decide_eq_false_iff_not] at h1
      have := tw2_pos (thAt s.th t).bits
      rw [Tng.lo] at hlo
      rw [Tng.hi] at hhi
      split at hlo <;> rename_i q
      · rw [if_pos q] at hhi
        rcases h1.1 with h2 | h2
        · rw [q] at h2; simp at h2
        · omega
      · rw [if_neg q] at hhi; omega
    have HLO := Lib.hid hlo
    have HHI := Lib.hid hhi
    have hZl := hZ.lt
    have hK := Nbx.new w G a b c A n ca (some ⟨tb, tp, none⟩) m cc 27 hZl
    have hZ1 := hZ.on (below_alloc w (.cells #[.int .i64 a, .int .i64 b, .int .i64 c, .slice A n ca, .slice (some ⟨tb, tp, none⟩) m cc] 27))
    have htb2 : tb < w.heap.size := by omega
    generalize thAt s.th t = x at hT hgood hlo hhi
    obtain ⟨ty, bits, base, size, used, frm, badge, full, word, d0, d1, d2, d3⟩ := x
    obtain ⟨t0, t1, t2, t3, t4, t5, t6, t7, t8, t9, t10, t11, t12⟩ := hT
    simp only at t0 t1 t2 t3 t4 t5 t6 t7 t8 t9 t10 t11 t12
    have HSP : Hid (∀ w, Calls Tryz.prog 151 #[.agg #[.int .i64 ty, .int .i64 bits, .int .i64 base, .int .i64 size, .int .i64 used, .int .i64 frm, .int .i64 badge, .bool full, .int .u64 (word : Int), .int .u64 (d0 : Int), .int .u64 (d1 : Int), .int .u64 (d2 : Int), .int .u64 (d3 : Int)]] w fun e w' => e = .returned (.tuple #[.int .i64 (lo : Int), .int .i64 (hi : Int)]) ∧ Below w.heap.size w w') := Lib.hid fun w => span_at hgood hlo hhi w
    have HHN := Lib.hid hle
    have hc1 : (lo : Int) ≤ (hi : Int) := by omega
    have hc2 : (hi : Int) ≤ (ca : Int) := by omega
    have hc3 : lo ≤ hi := by omega
    have hc4 : hi ≤ ca := by omega
    clear hc hgood hsm hlo hhi hle hSl hTh hZ htb ih hu
    go_enter Tryz.func153, Tryz.ntmps153
    go_wp2_with fail
    obtain ⟨g, hg⟩ : ∃ g, g = w.heap.size := ⟨_, rfl⟩
    rw [← hg] at hK ⊢
    clear hg
    generalize w.alloc _ = w1 at hK hZ1 ⊢
    have HZ1 := Lib.hid hZ1
    clear hZ1
    refine (HSP.out w1).mono ?_
    rintro e w2 ⟨rfl, hb⟩
    have HK2 := Lib.hid (hK.step (.of hb G))
    have HZ2 := Lib.hid (HZ1.out.on hb)
    clear hK hb HZ1 HSP t0 t1 t2 t3 t4 t5 t6 t7 t8 t9 t10 t11 t12 htb2
    obtain ⟨b0, b1, b2, c3, c4, -, -, lt⟩ := HK2.out
    by_cases hlh : lo < hi
    · obtain ⟨sb, sp, rfl, hsb, hc⟩ := HSL.out (by rw [← HN.out]; have := HHN.out; omega)
      have HSC : Hid (∀ j, j < n → SlC w sb (sp + j * 5) (slAt s.sl j)) := Lib.hid fun j hj => hc j (by rw [← HN.out]; exact hj)
      have HSB := Lib.hid hsb
      have hcl : ¬ ca = lo := by omega
      clear hc hsb
      go_wp2_with fail
      clear b0 b1 b2 c3 c4 lt
      go_loopg [25] (hi - lo) (fun f p wr => FnRel V w s G g a b c (some ⟨sb, sp, none⟩) n ca (some ⟨tb, tp, none⟩) m cc t lo hi u f p wr)
      case atStart => exact ⟨0, u, by omega, rfl, (Dfs.refl _ t u).more (fun y ⟨k, hk, _⟩ => absurd hk (Nat.not_lt_zero _)), HZ2.out, HK2.out⟩
      case round =>
        clear HK2 HZ2
        obtain ⟨i, v, hk, rfl, hd, hz, hK⟩ := hrel
        have HI := Lib.hid hk
        have HD := Lib.hid hd
        have HZ3 := Lib.hid hz
        have HK3 := Lib.hid hK
        obtain ⟨b0, b1, b2, c3, c4, hfnd, -, lt⟩ := hK
        clear hk hd hz
        by_cases hlt : i < hi - lo
        · have HLT := Lib.hid hlt
          have hlt2 : (i : Int) < (hi : Int) - (lo : Int) := by omega
          have hlt3 : (i : Int) < ((hi - lo : Nat) : Int) := by omega
          have hX : SlC wr sb (sp + lo * 5 + i * 5) (slAt s.sl (lo + i)) := by
            have h := (HSC.out (lo + i) (by have := HHN.out; omega)).same (w' := wr) fun k => hfnd.cell (Nat.lt_trans HSB.out hZl) (by have := HSB.out; omega)
            rw [Nat.add_mul, ← Nat.add_assoc] at h
            exact h
          obtain ⟨x, hx⟩ : ∃ x, slAt s.sl (lo + i) = x := ⟨_, rfl⟩
          have HX := Lib.hid hx
          rw [hx] at hX
          obtain ⟨⟨ty', th', ri', ba'⟩, up'⟩ := x
          obtain ⟨s0, s1, s2, s3, s4⟩ := hX
          simp only at s0 s1 s2 s3 s4
          have hZ4 := HZ3.out.on (below_alloc wr (.cells #[.int .i64 ty', .int .i64 th', .int .i64 ri', .int .i64 ba', .int .i64 up'] 64))
          have hK4 := HK3.out.step (.of (below_alloc wr (.cells #[.int .i64 ty', .int .i64 th', .int .i64 ri', .int .i64 ba', .int .i64 up'] 64)) G)
          have hX4 := Slx.new wr ty' th' ri' ba' up' 64
          have hGP : G < wr.heap.size := HZ3.out.lt
          have hgP : g < wr.heap.size := lt
          clear hx hfnd
          go_wp2_with fail
          obtain ⟨P, hP⟩ : ∃ P, P = wr.heap.size := ⟨_, rfl⟩
          rw [← hP] at hX4 hGP hgP ⊢
          clear hP b0 b1 b2 c3 c4 lt s0 s1 s2 s3 s4
          generalize wr.alloc _ = w4 at hZ4 hK4 hX4 ⊢
          have HZ4 := Lib.hid hZ4
          have HK4 := Lib.hid hK4
          have HX4 := Lib.hid hX4
          obtain ⟨x0, x1, x2, x3, x4, xlt⟩ := hX4
          simp only at x0 x1 x2 x3 x4
          clear hZ4 hK4
          by_cases h2 : ty' = 2
          · subst h2
            obtain ⟨y, rfl⟩ : ∃ y : Nat, th' = y := ⟨th'.toNat, by have := (HND.out (lo + i) (by rw [← HN.out]; have := HHN.out; omega) (by rw [HX.out])).1; rw [HX.out] at this; simp only at this; omega⟩
            have hym : y < m := by
              have := (HND.out (lo + i) (by rw [← HN.out]; have := HHN.out; omega) (by rw [HX.out])).2
              rw [HX.out] at this
              simp only at this
              rw [HM.out]; omega
            have hy48 : (y : Int) < 48 := by omega
            have hcy := HZ4.out.cell y (by omega)
            have HYM := Lib.hid hym
            clear hym
            rcases hvy : v y with _ | _
            · rw [hvy] at hcy
              have HVY := Lib.hid hvy
              clear hvy
              go_quiet (fail)
              have hd5 := below_draws (below_self w4) nq
              have HZ5 := Lib.hid (HZ4.out.on hd5)
              have HK5 := Lib.hid (HK4.out.step (.of hd5 G))
              have HX5 := Lib.hid (HX4.out.on hd5)
              clear x0 x1 x2 x3 x4 xlt hcy hd5 HZ4 HK4 HX4
              generalize w4.drewN nq = w5 at HZ5 HK5 HX5 ⊢
              obtain ⟨x0, x1, x2, x3, x4, xlt⟩ := HX5.out
              simp only at x0 x1 x2 x3 x4
              have hcy := HZ5.out.cell y (by omega)
              rw [HVY.out] at hcy
              have hfy := HZ5.out.free y
              have hGl := HZ5.out.lt
              have HPG : Hid (P ≠ G) := Lib.hid (by omega)
              go_wp2_with fail
              go_region
              have hm6 := (Fnd.mark w5 G y (.bool true)).trans (.of (below_self _).drew G)
              have HZ6 := Lib.hid ((HZ5.out.set y).on (below_self _).drew)
              have HK6 := Lib.hid (HK5.out.step hm6)
              have HX6 : Hid (Slx (w5.setCell ⟨G, y, none⟩ (.bool true)).drew P ⟨⟨2, (y : Int), ri', ba'⟩, up'⟩) := Lib.hid (by
                have e : ∀ j, (w5.setCell ⟨G, y, none⟩ (.bool true)).drew.cell? ⟨P, j, none⟩ = w5.cell? ⟨P, j, none⟩ := fun j => hm6.cell HX5.out.lt HPG.out
                exact ⟨(e _).trans HX5.out.c0, (e _).trans HX5.out.c1, (e _).trans HX5.out.c2, (e _).trans HX5.out.c3, (e _).trans HX5.out.c4, Nat.lt_of_lt_of_le HX5.out.lt hm6.size⟩)
              clear x0 x1 x2 x3 x4 xlt hcy hfy hGl hm6 HZ5 HK5 HX5
              generalize (w5.setCell _ _).drew = w6 at HZ6 HK6 HX6 ⊢
              obtain ⟨x0, x1, x2, x3, x4, xlt⟩ := HX6.out
              simp only at x0 x1 x2 x3 x4
              obtain ⟨b0, b1, b2, c3, c4, -, -, lt⟩ := HK6.out
              go_wp2_with fail
              have hbG := HK6.out.fnd.below (Nat.le_of_lt hZl)
              refine (HIH.out V w6 G y (mark v y) (by
                have h1 := kmany_mono (n := 48) HD.out.le
                have h2 := rooms_lt (u := v) (y := y) (by omega) HVY.out
                have h3 := HU.out
                omega) HYM.out (HSL.out.below hbG) (HTH.out.below hbG) HZ6.out).mono ?_
              rintro e w7 ⟨rfl, v', hd', hz', hf'⟩
              have HEDGE : (t, y) ∈ edgesN s.th s.sl := by
                have h := edge_of HMEET.out (t := t) (i := lo + i) (by rw [← HM.out]; exact ht) (by rw [← HN.out]; have := HHN.out; omega) ((lohi HLO.out HHI.out (lo + i)).2 ⟨by omega, by omega⟩) (by rw [HX.out])
                rw [HX.out] at h
                simpa using h
              have HD7 : Hid (Dfs (edgesN s.th s.sl) t (doneN s lo (i + 1)) u v') := Lib.hid (by
                have h := HD.out.into HEDGE hd'
                refine h.more (dn_same (fun z hz => h.seen z (.inl hz)) fun _ => ?_)
                rw [HX.out]
                exact h.seen _ (.inr (by simp)))
              have HZ7 := Lib.hid hz'
              have HK7 := Lib.hid (HK6.out.step hf')
              clear hd' hz' hf' hbG HEDGE x0 x1 x2 x3 x4 xlt b0 b1 b2 c3 c4 lt HZ6 HK6 HX6
              go_wp2
              go_roundg (hi - lo - (i + 1))
              case measure => have := HI.out; have := HLT.out; omega
              case rel => exact ⟨i + 1, v', by have := HI.out; have := HLT.out; omega, by refine congrArg (Value.int .i64) ?_; exact w64_in (by omega) (by have := HHN.out; have := HLT.out; omega), HD7.out, HZ7.out, HK7.out⟩
            · rw [hvy] at hcy
              have HVY := Lib.hid hvy
              have HDD : Hid (∀ z, doneN s lo (i + 1) z → v z = true) := Lib.hid (dn_same HD.out.seen fun _ => by rw [HX.out]; simpa using HVY.out)
              clear hvy
              go_quiet (fail)
              go_wp2
              go_roundg (hi - lo - (i + 1))
              case measure => have := HI.out; have := HLT.out; omega
              case rel => exact ⟨i + 1, v, by have := HI.out; have := HLT.out; omega, by refine congrArg (Value.int .i64) ?_; exact w64_in (by omega) (by have := HHN.out; have := HLT.out; omega), HD.out.more HDD.out, HZ4.out.on (below_draws (below_self _) _), HK4.out.step (.of (below_draws (below_self _) _) G)⟩
          · have h3 : (ty' == 2) = false := beq_eq_false_iff_ne.2 h2
            have HDD : Hid (∀ z, doneN s lo (i + 1) z → v z = true) := Lib.hid (dn_same HD.out.seen fun q => absurd (by rw [HX.out] at q; exact q) h2)
            clear h2
            go_quiet (fail)
            go_wp2
            go_roundg (hi - lo - (i + 1))
            case measure => have := HI.out; have := HLT.out; omega
            case rel => exact ⟨i + 1, v, by have := HI.out; have := HLT.out; omega, by refine congrArg (Value.int .i64) ?_; exact w64_in (by omega) (by have := HHN.out; have := HLT.out; omega), HD.out.more HDD.out, HZ4.out.on (below_draws (below_self _) _), HK4.out.step (.of (below_draws (below_self _) _) G)⟩
        · have hie : i = hi - lo := by have := HI.out; omega
          have hlt2 : ¬ (i : Int) < ((hi - lo : Nat) : Int) := by omega
          have hlt3 : ¬ (i : Int) < (hi : Int) - (lo : Int) := by omega
          have HD8 : Hid (Dfs (edgesN s.th s.sl) t (fun y => (t, y) ∈ edgesN s.th s.sl) u v) := Lib.hid (HD.out.more fun y hy => by
            obtain ⟨j, hj, h2, h3, h4⟩ := of_edge hy
            have h5 := (lohi HLO.out HHI.out j).1 h3
            exact HD.out.seen y ⟨j - lo, by omega, by rw [show lo + (j - lo) = j by omega]; exact h2, by rw [show lo + (j - lo) = j by omega]; exact h4⟩)
          clear hlt hie b0 b1 b2 c3 c4 lt
          go_wp2
          refine bodyPost_end (results_none rfl _ _ _) rfl ?_
          exact ⟨rfl, v, HD8.out, HZ3.out, HK3.out.fnd⟩
    · obtain ⟨rfl, rfl⟩ := HHN.out.2.2 (by omega)
      have HD8 : Hid (Dfs (edgesN s.th s.sl) t (fun y => (t, y) ∈ edgesN s.th s.sl) u u) := Lib.hid ((Dfs.refl _ t u).more fun y hy => by
        obtain ⟨j, hj, h2, h3, h4⟩ := of_edge hy
        have h5 := (lohi HLO.out HHI.out j).1 h3
        omega)
      clear hlh
      rcases A with _ | ad
      · go_wp2_with fail
        go_loopg [25] 0 (fun f p wr => f = 0 ∧ p = .int .i64 0 ∧ wr = w2)
        case atStart => exact ⟨rfl, rfl, rfl⟩
        case round =>
          obtain ⟨-, rfl, rfl⟩ := hrel
          go_wp2
          refine bodyPost_end (results_none rfl _ _ _) rfl ?_
          exact ⟨rfl, u, HD8.out, HZ2.out, HK2.out.fnd⟩
      · by_cases hca0 : ca = 0
        · subst hca0
          go_wp2_with fail
          go_loopg [25] 0 (fun f p wr => f = 0 ∧ p = .int .i64 0 ∧ wr = w2)
          case atStart => exact ⟨rfl, rfl, rfl⟩
          case round =>
            obtain ⟨-, rfl, rfl⟩ := hrel
            go_wp2
            refine bodyPost_end (results_none rfl _ _ _) rfl ?_
            exact ⟨rfl, u, HD8.out, HZ2.out, HK2.out.fnd⟩
        · go_wp2_with fail
          go_loopg [25] 0 (fun f p wr => f = 0 ∧ p = .int .i64 0 ∧ wr = w2)
          case atStart => exact ⟨rfl, rfl, rfl⟩
          case round =>
            obtain ⟨-, rfl, rfl⟩ := hrel
            go_wp2
            refine bodyPost_end (results_none rfl _ _ _) rfl ?_
            exact ⟨rfl, u, HD8.out, HZ2.out, HK2.out.fnd⟩
end Go.Proofs.YtkpbfbmkolgmgaaGreat
namespace Go.Proofs.YtkpbfbmkolgmgaaGreat
open Go.RowKit

def bl (v : Nat → Bool) : List Value := (List.range 48).map fun j => .bool (v j)
theorem bl_len (v : Nat → Bool) : (bl v).length = 48 := by simp [bl]
theorem bl_at (v : Nat → Bool) {j : Nat} (h : j < 48) : (bl v)[j]? = some (.bool (v j)) := by simp [bl, h]
theorem sizeb : (Tryz.prog.info? 4).map (·.size) = some 1 := by kernel_rfl
theorem sizeb_run (w : World) : (sizeOf 4).run Tryz.prog w = .ok 1 w := by
  have h := sizeb
  cases hq : Tryz.prog.info? 4 with
  | none => simp [hq] at h
  | some i =>
    have hi : i.size = 1 := by simpa [hq] using h
    simp [sizeOf, typeInfo, hq, hi]
theorem index_bl (v : Nat → Bool) {i : Nat} (hi : i < 48) (w : World) : (Instr.index 119 (.agg (bl v).toArray) (.int .i64 (i : Int))).run Tryz.prog w = .ok (.bool (v i)) w := by
  have h1 := bl_at v hi
  have h2 : (0 : Int) ≤ (i : Int) ∧ (i : Int) < ((48 : Nat) : Int) := by omega
  have hu := Tryz.underlying119
  have hub := Tryz.underlying4
  unfold Instr.index
  simp only [asIntOf, Sem.run_bind, Sem.run_pure, Result.andThen_ok, run_underlying hu w]
  rw [if_pos h2]
  have hagg : (isAgg 4).run Tryz.prog w = .ok false w := by
    unfold isAgg
    rw [Sem.run_bind, run_underlying hub w]
    rfl
  simp only [Sem.run_bind, Result.andThen_ok, sizeb_run, Go.part, hagg]
  rw [show (i : Int).toNat * 1 = i by simp, List.getElem?_toArray, h1]
  rfl
theorem bl_one (v : Nat → Bool) : (bl v).toArray.all (·.oneCell') = true := all_oneCell_toArray fun u hu => by
  obtain ⟨j, _, rfl⟩ := List.mem_map.1 hu
  rfl
theorem Zb.range {V w : World} {G : Nat} {v : Nat → Bool} (h : Zb V w G v) : w.rangeAt G 0 (bl v) := fun j u hj => by
  have hj2 : j < 48 := by rw [← bl_len v]; exact (List.getElem?_eq_some_iff.1 hj).1
  rw [bl_at v hj2] at hj
  cases hj
  rw [Nat.zero_add]
  exact h.cell j hj2
theorem Zb.there {V w : World} {G : Nat} {v : Nat → Bool} (h : Zb V w G v) (k : Nat) (hk : k = 48) : w.there G 0 k := fun j hj => by
  subst hk
  rw [Nat.zero_add]
  exact ⟨by rw [h.cell j hj]; rfl, h.free j⟩
theorem below_setCells {B b : Nat} {W : World} (hb : B ≤ b) : ∀ (vs : List Value) (o : Nat) {w : World}, Below B W w → Below B W (w.setCells b o vs)
  | [], _, _, h => h
  | v :: vs, o, _, h => below_setCells hb vs (o + 1) (h.setCell (p := ⟨b, o, none⟩) hb v)
theorem infoz : (Tryz.prog.info? 119).map (·.size) = some 48 := by kernel_rfl
theorem results_mid {P : Program} {fn : Func} {a : Tmp} {t : TypeId} (h : fn.results = #[.cell a t]) (tmps : Array Value) (b : Nat) (ha : tmps.getD a undef = .pointer (some ⟨b, 0, none⟩)) (w : World) (cs : List Value) (d : TypeDesc) (hc : w.rangeAt b 0 cs) (hu : P.underlying t = some d) (hd : d.isRow = true) (hi : (P.info? t).map (·.size) = some cs.length) :
    (results fn tmps).run P w = .ok (.agg cs.toArray) w := by
  have hl := run_loadVar_mid (P := P) w b 0 t cs d hc hu hd hi
  have ha2 : tmps[a]?.getD undef = .pointer (some ⟨b, 0, none⟩) := by simpa using ha
  simp [results, h, asAddr, ha2, hl]
/-- how a Node's own are told -/
def InF (w w' : World) (e : Ending) (E : List (Nat × Nat)) (t : Nat) : Prop := ∃ v : Nat → Bool, (∀ k, v k = true ↔ Rp E t k) ∧ e = .returned (.agg (bl v).toArray) ∧ Below w.heap.size w w'
set_option maxRecDepth 100000 in
set_option maxHeartbeats 4000000 in
theorem nodesin_is {s : St} {a b c : Int} {A C : Option Addr} {n ca m cc : Nat} {t : Nat} {w : World} (hS : StH w s a b c A n ca C m cc) (few : n ≤ 96) (fewm : m ≤ 48) (hg : ThOk s.th) (ho : ∀ i, i < s.th.length → ownOk s.th n i = true) (hN : NdIn s) (ht : t < m) :
    Calls Tryz.prog 90 #[.agg #[.int .i64 a, .int .i64 b, .int .i64 c, .slice A n ca, .slice C m cc], .int .i64 (t : Int)] w fun e w' => InF w w' e (edgesN s.th s.sl) t := by
  have HF : Hid (∀ (V w : World) (G t : Nat) (u : Nat → Bool), t < m → SlotsAt w G A s.sl → ThingsAt w G C s.th → Zb V w G u →
    Calls Tryz.prog 153 #[.agg #[.int .i64 a, .int .i64 b, .int .i64 c, .slice A n ca, .slice C m cc], .int .i64 (t : Int), .pointer (some ⟨G, 0, none⟩)] w fun e w' => e = .returned (.tuple #[]) ∧ ∃ v, Dfs (edgesN s.th s.sl) t (fun y => (t, y) ∈ edgesN s.th s.sl) u v ∧ Zb V w' G v ∧ Fnd w w' G) := Lib.hid fun V w G t u h1 h2 h3 h4 => find_any hS.hn hS.hm few fewm hS.hca hg ho hN 49 V w G t u (by omega) h1 h2 h3 h4
  have HS := Lib.hid hS
  have HT := Lib.hid ht
  clear hS few fewm hg ho hN ht
  obtain ⟨zs, hzs, hz, hzn, hzl⟩ := zero48_is
  have hw1 : ∃ wa, wa = w.alloc (.cells #[.int .i64 a, .int .i64 b, .int .i64 c, .slice A n ca, .slice C m cc] 27) ∧ wa.heap.size = w.heap.size + 1 := ⟨_, rfl, by simp⟩
  obtain ⟨wa, hwa, hsa⟩ := hw1
  have hw2 : ∃ wb, wb = wa.alloc (.cells zs 119) ∧ wb.heap.size = w.heap.size + 1 + 1 := ⟨_, rfl, by simp [hsa]⟩
  obtain ⟨wb, hwb, hsb⟩ := hw2
  have hK := Sbx.new w a b c A n ca C m cc 27
  rw [← hwa] at hK
  have hQ : Zb wa wb (w.heap.size + 1) (fun _ => false) := by rw [hwb, hzs, ← hsa]; exact Zb.new wa _
  have hG : Zb wb (wb.alloc (.cells zs 119)) (w.heap.size + 1 + 1) (fun _ => false) := by rw [hzs, ← hsb]; exact Zb.new wb _
  have hab : Below wa.heap.size wa wb := by rw [hwb]; exact below_alloc _ _
  have hbc := below_alloc wb (.cells zs 119)
  have HW : Hid (w.heap.size + 1 + 1 < (wb.alloc (.cells zs 119)).heap.size) := Lib.hid (by simp [hsb])
  have HK := Lib.hid ((hK.on hab).on hbc)
  have HQ := Lib.hid (hQ.on hbc)
  have HG := Lib.hid hG
  clear hab hbc hK hQ hG hzs
  go_enter Tryz.func90, Tryz.ntmps90
  go_wp2_with fail
  rw [← hwa, ← hwb]
  clear hwa hwb hsa hsb hz hzn hzl
  obtain ⟨g, hg⟩ : ∃ g, g = w.heap.size := ⟨_, rfl⟩
  have HGW := Lib.hid hg
  rw [← hg] at HK HQ HG HW ⊢
  clear hg
  generalize wb.alloc _ = w1 at HK HQ HG HW ⊢
  have hGs : w.heap.size ≤ g + 1 + 1 := by have := HGW.out; omega
  refine (HF.out wb w1 (g + 1 + 1) t (fun _ => false) HT.out ((HS.out.lies.sl.below HK.out.old).mono hGs) ((HS.out.lies.th.below HK.out.old).mono hGs) HG.out).mono ?_
  rintro e w2 ⟨rfl, v, hd, hz, hf⟩
  have HV := Lib.hid hd.all
  have HRG := Lib.hid hz.range
  have HQ2 : Hid (Zb wa w2 (g + 1) (fun _ => false)) := Lib.hid ⟨fun j hj => (hf.cell HQ.out.lt (by omega)).trans (HQ.out.cell j hj), fun j => by rw [World.frozen?_of_block (w := w1) (a := ⟨g + 1, j, none⟩) (hf.block (g + 1) HQ.out.lt (by omega))]; exact HQ.out.free j, HQ.out.base, Nat.lt_of_lt_of_le HQ.out.lt hf.size⟩
  have HTH := Lib.hid (HQ2.out.there (bl v).toArray.size (by simp [bl_len]))
  have HI1 : Hid ((Tryz.prog.info? 119).map (·.size) = some (bl v).length) := Lib.hid (by rw [bl_len]; exact infoz)
  have HI2 : Hid ((Tryz.prog.info? 119).map (·.size) = some (bl v).toArray.size) := Lib.hid (by rw [List.size_toArray, bl_len]; exact infoz)
  have HONE := Lib.hid (bl_one v)
  have HB2 : Hid (Below w.heap.size w w2) := Lib.hid (HK.out.old.trans ((hf.below (Nat.le_of_lt HW.out)).mono hGs))
  clear hd hz hf hGs HF HS HT HK HQ HG HW
  obtain ⟨L, hL⟩ : ∃ L, L = bl v := ⟨_, rfl⟩
  have HL := Lib.hid hL
  rw [← hL] at HRG HTH HI1 HI2 HONE
  clear hL
  go_wp2_with (first
    | (refine wpList_load_mid rfl 119 _ rfl (g + 1 + 1) 0 rfl L _ HRG.out Tryz.underlying119 rfl HI1.out ?_)
    | (refine wpList_store_mid rfl 119 _ _ rfl (g + 1) 0 L.toArray rfl rfl HTH.out HI2.out HONE.out ?_))
  have hR := World.rangeAt_setCells_same w2 (g + 1) 0 L (by have h := HTH.out; simpa using h)
  have hB := below_setCells (b := g + 1) (by have := HGW.out; omega) L 0 HB2.out
  try rw [List.toList_toArray]
  generalize w2.setCells (g + 1) 0 _ = w3 at hR hB ⊢
  refine bodyPost_ret (results_mid rfl _ (g + 1) (by rfl) w3 L _ hR Tryz.underlying119 rfl HI1.out) rfl ?_
  exact ⟨v, HV.out, by rw [HL.out], hB⟩

/-! ### ringless -/
set_option maxRecDepth 100000 in
set_option maxHeartbeats 4000000 in
theorem ringless_is {s : St} {a b c : Int} {A C : Option Addr} {n ca m cc : Nat} {r : Bool} {w : World} (hS : StH w s a b c A n ca C m cc) (few : n ≤ 96) (fewm : m ≤ 48) (hg : ThOk s.th) (ho : ∀ i, i < s.th.length → ownOk s.th n i = true) (hN : NdIn s) (hr : (List.range s.th.length).all (fun i => !ringN s i) = r) :
    Calls Tryz.prog 43 #[.agg #[.int .i64 a, .int .i64 b, .int .i64 c, .slice A n ca, .slice C m cc]] w fun e w' => e = .returned (.bool r) ∧ Below w.heap.size w w' := by
  have HF : Hid (∀ (w : World) (t : Nat), StH w s a b c A n ca C m cc → t < m → Calls Tryz.prog 90 #[.agg #[.int .i64 a, .int .i64 b, .int .i64 c, .slice A n ca, .slice C m cc], .int .i64 (t : Int)] w fun e w' => InF w w' e (edgesN s.th s.sl) t) := Lib.hid fun w t h1 h2 => nodesin_is h1 few fewm hg ho hN h2
  have HS := Lib.hid hS
  rw [← hS.hm] at hr
  have HR := Lib.hid hr
  have HN := Lib.hid hN
  have k1 := Sbx.new w a b c A n ca C m cc 27
  clear hS hr few hg ho hN
  go_enter Tryz.func43, Tryz.ntmps43
  go_wp2_with fail
  obtain ⟨g, hg⟩ : ∃ g, g = w.heap.size := ⟨_, rfl⟩
  rw [← hg] at k1 ⊢
  clear hg
  generalize w.alloc _ = w1 at k1 ⊢
  have HK1 := Lib.hid k1
  clear k1
  go_loopg [7] m (fun f p wr => QRel w g a b c A n ca C m cc m (fun i => !ringN s i) f p wr)
  case atStart => exact ⟨0, by omega, rfl, fun j h => by omega, HK1.out⟩
  case round =>
    clear HK1
    obtain ⟨i, hk, rfl, ha, hb⟩ := hrel
    have HI := Lib.hid hk
    have HA := Lib.hid ha
    have HB := Lib.hid hb
    obtain ⟨b0, b1, b2, c3, c4, old, -, lt⟩ := hb
    clear hk ha
    by_cases hlt : i < m
    · have HLT := Lib.hid hlt
      have hlt2 : (i : Int) < (m : Int) := by omega
      clear old
      go_wp2_with fail
      refine (HF.out wr i (HS.out.on HB.out.old) hlt).mono ?_
      rintro e w3 ⟨v, hv, rfl, hb⟩
      have HB3 := Lib.hid (HB.out.on hb)
      have HV : Hid (v i = ringN s i) := Lib.hid (Bool.eq_iff_iff.2 ((hv i).trans (ring_rp HN.out i).symm))
      have hi48 : i < 48 := by omega
      obtain ⟨z, hz⟩ : ∃ z, v i = z := ⟨_, rfl⟩
      have HZ : Hid (ringN s i = z) := Lib.hid (by rw [← HV.out, hz])
      have hidx : ∀ w, (Instr.index 119 (.agg (bl v).toArray) (.int .i64 (i : Int))).run Tryz.prog w = .ok (.bool z) w := fun w => by rw [← hz]; exact index_bl v hi48 w
      generalize bl v = L at hidx ⊢
      clear hb hv hz HV b0 b1 b2 c3 c4 lt HB
      rcases z with _ | _
      · go_wp2
        go_roundg (m - (i + 1))
        case measure => have := HI.out; have := HLT.out; omega
        case rel =>
          refine ⟨i + 1, by have := HI.out; have := HLT.out; omega, by go_num, fun k hk => ?_, HB3.out⟩
          by_cases e : k = i
          · subst e
            show (!ringN s k) = true
            rw [HZ.out]
            rfl
          · exact HA.out k (by omega)
      · have HF2 : Hid (r = false) := Lib.hid (by rw [← HR.out, all_no HLT.out (by rw [HZ.out]; rfl)])
        go_wp2
        go_ret
        exact ⟨by rw [HF2.out]; rfl, HB3.out.old⟩
    · have hlt2 : ¬ (i : Int) < (m : Int) := by omega
      have HF : Hid (r = true) := Lib.hid (by rw [← HR.out]; exact all_yes fun k hk => HA.out k (by have := HI.out; omega))
      go_wp2
      go_ret
      exact ⟨by rw [HF.out]; rfl, HB.out.old⟩

/-! ### allHeld -/
def heldTo (sl : List Sl) (i t : Nat) : Bool := (List.range i).any fun k => !(slAt sl k).c.non && (slAt sl k).c.th == (t : Int)
theorem heldTo_succ (sl : List Sl) (i t : Nat) : heldTo sl (i + 1) t = (heldTo sl i t || (!(slAt sl i).c.non && (slAt sl i).c.th == (t : Int))) := by
  rw [heldTo, List.range_succ, List.any_append]
  simp [heldTo]
def AhRel (W : World) (g : Nat) (a b c : Int) (A : Option Addr) (n ca : Nat) (C : Option Addr) (m cc G : Nat) (sl : List Sl) (f : Nat) (p : Value) (wr : World) : Prop :=
  ∃ i : Nat, f + i = n ∧ p = .int .i64 i ∧ Ub W wr g a b c A n ca C m cc G 48 (heldTo sl i)
def AhRel2 (W : World) (g : Nat) (a b c : Int) (A : Option Addr) (n ca : Nat) (C : Option Addr) (m cc G : Nat) (u : Nat → Bool) (P : Nat → Bool) (f : Nat) (p : Value) (wr : World) : Prop :=
  ∃ i : Nat, f + i = m ∧ p = .int .i64 i ∧ (∀ j, j < i → P j = true) ∧ Ub W wr g a b c A n ca C m cc G 48 u
set_option maxRecDepth 100000 in
set_option maxHeartbeats 4000000 in
theorem allheld_is {s : St} {a b c : Int} {A C : Option Addr} {n ca m cc : Nat} {r : Bool} {w : World} (hS : StH w s a b c A n ca C m cc) (h1 : s.k1 = true) (h3 : ∀ i, i < s.sl.length → s.fitS (slAt s.sl i) = true) (hr : (List.range s.th.length).all s.p8 = r) :
    Calls Tryz.prog 44 #[.agg #[.int .i64 a, .int .i64 b, .int .i64 c, .slice A n ca, .slice C m cc]] w fun e w' => e = .returned (.bool r) ∧ Below w.heap.size w w' := by
  have hok : m ≤ 48 ∧ 0 ≤ a ∧ a ≤ 1000 := by
    rw [St.k1, hS.hg, Bool.and_eq_true, Bool.and_eq_true, decide_eq_true_eq, decide_eq_true_eq, ← hS.hm] at h1
    have h2 := Gd.ok_iff.1 h1.1
    simp only at h1 h2
    omega
  have HS := Lib.hid hS
  have HTH : Hid (∀ i, i < n → 0 ≤ (slAt s.sl i).c.th ∧ (slAt s.sl i).c.th < 48) := Lib.hid fun i hi => cgood_th (fitS_good (h3 i (by rw [← hS.hn]; exact hi)))
  have hroot : ∀ i, s.root i = (decide (2 ≤ i) && decide ((i : Int) < 2 + a)) := fun i => by rw [St.root, hS.hg]
  have HRT := Lib.hid hroot
  have few := hS.few
  rw [← hS.hm] at hr
  have HR := Lib.hid hr
  have hm48 := hok.1
  have HOK := Lib.hid hok.2
  clear hS hr h1 h3 hroot hok
  obtain ⟨zs, hzs, hz, hzn, hzl⟩ := zero48_is
  obtain ⟨wa, hwa, hsa⟩ : ∃ wa, wa = w.alloc (.cells #[.int .i64 a, .int .i64 b, .int .i64 c, .slice A n ca, .slice C m cc] 27) ∧ wa.heap.size = w.heap.size + 1 := ⟨_, rfl, by simp⟩
  have hK := Sbx.new w a b c A n ca C m cc 27
  rw [← hwa] at hK
  have hG : Zb wa (wa.alloc (.cells zs 119)) (w.heap.size + 1) (fun _ => false) := by rw [hzs, ← hsa]; exact Zb.new wa _
  have hU : Ub w (wa.alloc (.cells zs 119)) w.heap.size a b c A n ca C m cc (w.heap.size + 1) 48 (heldTo s.sl 0) := ⟨hK.on (below_alloc _ _), hG.cell, hG.free, by omega, hG.lt⟩
  clear hK hG hzs
  go_enter Tryz.func44, Tryz.ntmps44
  go_wp2_with fail
  rw [← hwa]
  obtain ⟨g, hg⟩ : ∃ g, g = w.heap.size := ⟨_, rfl⟩
  obtain ⟨G, hGG⟩ : ∃ G, G = g + 1 := ⟨_, rfl⟩
  rw [← hg, ← hGG] at hU
  rw [← hg]
  try rw [← hGG]
  clear hg hGG hwa hsa hz hzn hzl
  generalize wa.alloc _ = w1 at hU ⊢
  have HU := Lib.hid hU
  clear hU
  go_loopg [10] n (fun f p wr => AhRel w g a b c A n ca C m cc G s.sl f p wr)
  case atStart => exact ⟨0, by omega, rfl, HU.out⟩
  case round =>
    clear HU
    obtain ⟨i, hk, rfl, hb⟩ := hrel
    have HI := Lib.hid hk
    have HB := Lib.hid hb
    obtain ⟨⟨b0, b1, b2, c3, c4, old, -, lt⟩, -, -, -, -⟩ := hb
    clear hk
    by_cases hlt : i < n
    · have HLT := Lib.hid hlt
      have hlt2 : (i : Int) < (n : Int) := by omega
      obtain ⟨sb, sp, rfl, hsb, hc⟩ := HS.out.lies.sl (by rw [← HS.out.hn]; omega)
      have hX : SlC wr sb (sp + i * 5) (slAt s.sl i) := (hc i (by rw [← HS.out.hn]; exact hlt)).same fun k => old.cell (p := ⟨sb, k, none⟩) hsb
      have hsucc := heldTo_succ s.sl i
      have hth := HTH.out i hlt
      generalize slAt s.sl i = x at hX hsucc hth
      obtain ⟨⟨ty, th, ri, ba⟩, up⟩ := x
      obtain ⟨s0, s1, s2, s3, s4⟩ := hX
      simp only at s0 s1 s2 s3 s4 hsucc hth
      obtain ⟨y, rfl⟩ : ∃ y : Nat, th = y := ⟨th.toNat, by omega⟩
      have hy48 : y < 48 := by omega
      have hy2 : (y : Int) < 48 := by omega
      obtain ⟨z, hz⟩ : ∃ z, Cp.non ⟨ty, y, ri, ba⟩ = z := ⟨_, rfl⟩
      have HZ := Lib.hid hz
      rw [hz] at hsucc
      have HSUCC := Lib.hid hsucc
      have HY := Lib.hid hy48
      have hB2 := HB.out.on (below_alloc wr (.cells #[.int .i64 ty, .int .i64 (y : Int), .int .i64 ri, .int .i64 ba, .int .i64 up] 64))
      have hX2 := Slx.new wr ty (y : Int) ri ba up 64
      have hGP : G < wr.heap.size := HB.out.lt
      clear hc hsb old hsucc hth hz HB
      go_wp2_with fail
      obtain ⟨P, hP⟩ : ∃ P, P = wr.heap.size := ⟨_, rfl⟩
      rw [← hP] at hX2 hGP ⊢
      clear hP b0 b1 b2 c3 c4 lt s0 s1 s2 s3 s4
      generalize wr.alloc _ = w3 at hB2 hX2 ⊢
      refine (non_at HZ.out w3).mono ?_
      rintro e w4 ⟨rfl, hb⟩
      have HB4 := Lib.hid (hB2.on hb)
      have HX4 := Lib.hid (hX2.on hb)
      have HPG : Hid (P ≠ G) := Lib.hid (by omega)
      clear hb hB2 hX2
      rcases z with _ | _
      · obtain ⟨x0, x1, x2, x3, x4, xlt⟩ := HX4.out
        simp only at x0 x1 x2 x3 x4
        have hcy := HB4.out.cell y HY.out
        have hfy := HB4.out.free y
        have hGl := HB4.out.lt
        have HB5 : Hid (Ub w (w4.setCell ⟨G, y, none⟩ (.bool true)) g a b c (some ⟨sb, sp, none⟩) n ca C m cc G 48 (heldTo s.sl (i + 1))) := Lib.hid ((HB4.out.set y).same fun j _ => by
          rw [HSUCC.out j, Bool.not_false, Bool.true_and, Bool.or_comm]
          congr 1
          by_cases e : j = y
          · subst e; simp
          · rw [beq_eq_false_iff_ne.2 e, beq_eq_false_iff_ne.2 (by omega)])
        go_wp2
        go_roundg (n - (i + 1))
        case measure => have := HI.out; have := HLT.out; omega
        case rel => exact ⟨i + 1, by have := HI.out; have := HLT.out; omega, by go_num, HB5.out⟩
      · have HB5 : Hid (Ub w w4 g a b c (some ⟨sb, sp, none⟩) n ca C m cc G 48 (heldTo s.sl (i + 1))) := Lib.hid (HB4.out.same fun j _ => by rw [HSUCC.out j]; simp)
        go_wp2
        go_roundg (n - (i + 1))
        case measure => have := HI.out; have := HLT.out; omega
        case rel => exact ⟨i + 1, by have := HI.out; have := HLT.out; omega, by go_num, HB5.out⟩
    · have hlt2 : ¬ (i : Int) < (n : Int) := by omega
      have hin : i = s.sl.length := by rw [← HS.out.hn]; have := HI.out; omega
      have HB2 : Hid (Ub w wr g a b c A n ca C m cc G 48 (heldB s.sl)) := Lib.hid (HB.out.same fun j _ => by rw [hin]; rfl)
      clear hin HB hlt old
      go_wp2_with fail
      clear b0 b1 b2 c3 c4 lt
      go_loopg [26] m (fun f p wr => AhRel2 w g a b c A n ca C m cc G (heldB s.sl) s.p8 f p wr)
      case atStart => exact ⟨0, by omega, rfl, fun j h => by omega, HB2.out⟩
      case round =>
        clear HB2
        obtain ⟨i, hk, rfl, ha, hb⟩ := hrel
        have HI := Lib.hid hk
        have HA := Lib.hid ha
        have HB := Lib.hid hb
        obtain ⟨⟨b0, b1, b2, c3, c4, old, -, lt⟩, -, -, -, -⟩ := hb
        clear hk ha
        by_cases hlt : i < m
        · have HLT := Lib.hid hlt
          have hlt2 : (i : Int) < (m : Int) := by omega
          have hP : s.p8 i = ((thAt s.th i).ty == 0 || (heldB s.sl i || s.root i)) := rfl
          obtain ⟨z, hz⟩ : ∃ z, ((thAt s.th i).ty != 0) = z := ⟨_, rfl⟩
          have HZ := Lib.hid hz
          have hzz : ((thAt s.th i).ty == 0) = !z := by rw [← hz]; simp [bne]
          rw [hzz] at hP
          obtain ⟨y, hy⟩ : ∃ y, s.root i = y := ⟨_, rfl⟩
          rw [hy] at hP
          have HY : Hid ((decide (2 ≤ i) && decide ((i : Int) < 2 + a)) = y) := Lib.hid (by rw [← HRT.out i, hy])
          have hi48 : i < 48 := by omega
          have hi2 : (i : Int) < 48 := by omega
          clear hz hzz hy old
          go_wp2_with fail
          refine (isthere_at (HS.out.on HB.out.box.old).lies HS.out.hm HLT.out HZ.out).mono ?_
          rintro e w3 ⟨rfl, hb⟩
          have HB3 := Lib.hid (HB.out.on hb)
          clear hb b0 b1 b2 c3 c4 lt HB
          obtain ⟨⟨b0, b1, b2, c3, c4, -, -, lt⟩, -, -, -, -⟩ := HB3.out
          have hcy := HB3.out.cell i hi48
          rcases z with _ | _
          · have HPP : Hid (s.p8 i = true) := Lib.hid (by rw [hP]; rfl)
            clear hP
            go_wp2
            go_roundg (m - (i + 1))
            case measure => have := HI.out; have := HLT.out; omega
            case rel =>
              refine ⟨i + 1, by have := HI.out; have := HLT.out; omega, by go_num, fun k hk => ?_, HB3.out⟩
              by_cases e : k = i
              · subst e; exact HPP.out
              · exact HA.out k (by omega)
          · rw [Bool.not_true, Bool.false_or] at hP
            rcases hh : heldB s.sl i with _ | _
            · rw [hh, Bool.false_or] at hP
              rw [hh] at hcy
              have HPP := Lib.hid hP
              clear hP hh
              go_wp2_with fail
              refine (isroot_at HY.out HOK.out w3).mono ?_
              rintro e w4 ⟨rfl, hb⟩
              have HB4 := Lib.hid (HB3.out.on hb)
              clear hb b0 b1 b2 c3 c4 lt hcy HB3
              rcases y with _ | _
              · have HF := Lib.hid (show r = false by rw [← HR.out, all_no HLT.out HPP.out])
                go_wp2
                go_ret
                exact ⟨by rw [HF.out]; rfl, HB4.out.box.old⟩
              · go_wp2
                go_roundg (m - (i + 1))
                case measure => have := HI.out; have := HLT.out; omega
                case rel =>
                  refine ⟨i + 1, by have := HI.out; have := HLT.out; omega, by go_num, fun k hk => ?_, HB4.out⟩
                  by_cases e : k = i
                  · subst e; exact HPP.out
                  · exact HA.out k (by omega)
            · rw [hh] at hcy hP
              have HPP : Hid (s.p8 i = true) := Lib.hid (by rw [hP]; rfl)
              clear hP hh
              go_wp2
              go_roundg (m - (i + 1))
              case measure => have := HI.out; have := HLT.out; omega
              case rel =>
                refine ⟨i + 1, by have := HI.out; have := HLT.out; omega, by go_num, fun k hk => ?_, HB3.out⟩
                by_cases e : k = i
                · subst e; exact HPP.out
                · exact HA.out k (by omega)
        · have hlt2 : ¬ (i : Int) < (m : Int) := by omega
          have HF : Hid (r = true) := Lib.hid (by rw [← HR.out]; exact all_yes fun k hk => HA.out k (by have := HI.out; omega))
          clear old
          go_wp2
          go_ret
          exact ⟨by rw [HF.out]; rfl, HB.out.box.old⟩
end Go.Proofs.YtkpbfbmkolgmgaaGreat
