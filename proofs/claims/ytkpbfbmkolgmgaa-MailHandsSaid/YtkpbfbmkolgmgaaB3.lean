/-
  The walk of package carve's planOf. Condition: the state and the call's ways lie in memory.
  The walk of what a plan does to a state. Condition: the state lies in memory, the plan's places are its own.
  What carve answers, as plain data: a plan's places and numbers fit the state. No condition.
  How such an answer is handed back. Condition: none.
  The walk of package carve's Do. Condition: the state and the call's ways lie in memory.
  The law's own way, first, heavy, awake. Condition: none.
-/
import Derived.Test.YtkpbfbmkolgmgaaB2
namespace Go.Proofs.Ytkpbfbmkolgmgaa
open Go.RowKit

def Pn.val (p : Pn) : Value := .agg #[.int .i64 (p.src : Int), .int .i64 (p.dst : Int), .int .i64 p.used, .int .i64 (p.num : Int), .int .i64 p.made.ty, .int .i64 p.made.bits, .int .i64 p.made.base, .int .i64 p.made.size, .int .i64 p.made.used, .int .i64 p.made.frm, .int .i64 p.made.badge, .bool p.made.full, .int .u64 (p.made.word : Int), .int .u64 (p.made.d0 : Int), .int .u64 (p.made.d1 : Int), .int .u64 (p.made.d2 : Int), .int .u64 (p.made.d3 : Int)]
theorem fempty_slot {s : St} {t x : Int} {l : List Int} (h : fempty s t l = (x, 0)) : ∃ k : Nat, x = k ∧ k < s.sl.length ∧ sgood s = true ∧ (slAt s.sl k).c.non = true := by
  unfold fempty at h
  split at h
  · rename_i h3
    obtain ⟨k, e, hk, hg⟩ := fslot_slot (x := (fslot s t l).1) (s := s) (t := t) (l := l) (Prod.ext rfl h3)
    split at h
    · rename_i h4
      obtain ⟨h5, -⟩ := Prod.mk.inj h
      rw [e, Int.toNat_natCast] at h4
      exact ⟨k, by rw [← h5, e], hk, hg, h4⟩
    · obtain ⟨-, h⟩ := Prod.mk.inj h
      cases h
  · rename_i h3
    exact absurd (Prod.mk.inj h).2 h3
theorem tcost_le {k y q : Int} (h : tcost k y = some q) : 1 ≤ q ∧ q ≤ 4096 := by
  unfold tcost at h
  split at h
  · split at h
    · rename_i h1
      have := inr3_iff.1 h1
      injection h with h
      omega
    · cases h
  · split at h
    · split at h
      · rename_i h1
        have h2 := inr3_iff.1 h1
        injection h with h
        have : y = 1 ∨ y = 2 ∨ y = 3 ∨ y = 4 := by omega
        rcases this with rfl | rfl | rfl | rfl <;> (rw [← h]; decide)
      · cases h
    · split at h
      · injection h with h; omega
      · split at h
        · injection h with h; omega
        · split at h
          · injection h with h; omega
          · cases h
theorem used_small {s : St} {k : Int} (h : sgood s = true) (hk : roomB s k = true) : 0 ≤ usedZ s k ∧ usedZ s k ≤ 4096 := by
  unfold usedZ
  split
  · simp only [roomB, Bool.and_eq_true, decide_eq_true_eq] at hk
    have hG := sgood_iff.1 h
    have hF := hG.fsl (i := k.toNat) (by omega) (by rw [hk.2.2]; decide)
    exact (hG.thok.small hF.th).used
  · omega
end Go.Proofs.Ytkpbfbmkolgmgaa
namespace Go.Proofs.Ytkpbfbmkolgmgaa
open Go.RowKit

theorem Ost.base {W W1 w : World} {s : St} {P Q : Nat} (h : Ost W1 w s P Q) (hb : Below W.heap.size W W1) : Ost W w s P Q :=
  ⟨h.sl, h.th, h.Pf, h.Qf, h.PQ, Nat.le_trans hb.size h.oP, Nat.le_trans hb.size h.oQ, h.lP, h.lQ, below_on hb h.old⟩
theorem Bxs.fnd {W w w' : World} {g B : Nat} {cs : List Value} (h : Bxs W w g cs) (f : Fnd w w' B) (hne : g ≠ B) (hb : Below W.heap.size W w') : Bxs W w' g cs :=
  ⟨fun k u hk => (f.cell h.lt hne).trans (h.c k u hk), hb, h.base, Nat.lt_of_lt_of_le h.lt f.size⟩
theorem Wbs.fnd {W w w' : World} {g B : Nat} {cs : List Value} (h : Wbs W w g cs) (f : Fnd w w' B) (hne : g ≠ B) (hb : Below W.heap.size W w') : Wbs W w' g cs :=
  ⟨h.bx.fnd f hne hb, fun j => (f.frozen h.bx.lt hne).trans (h.free j)⟩
theorem Fnd.drew {w w' : World} {B : Nat} (f : Fnd w w' B) : Fnd w w'.drew B := f.trans (.of (below_self _).drew _)
theorem results_c {fn : Func} {c : Tmp} {ty : TypeId} (h : fn.results = #[.cell c ty]) (tmps : Array Value) (P : Program) (w : World) {b : Nat} {cs : List Value} {d : TypeDesc} (hp : tmps.getD c undef = .pointer (some ⟨b, 0, none⟩))
    (hc : w.rangeAt b 0 cs) (hu : P.underlying ty = some d) (hd : d.isRow = true) (hi : (P.info? ty).map (·.size) = some cs.length) : (results fn tmps).run P w = .ok (.agg cs.toArray) w := by
  have e := run_loadVar_mid w b 0 ty cs d hc hu hd hi
  have hp2 : tmps[c]?.getD undef = .pointer (some ⟨b, 0, none⟩) := by simpa using hp
  simp [results, h, hp2, asAddr, e]

end Go.Proofs.Ytkpbfbmkolgmgaa
namespace Go.Proofs.Ytkpbfbmkolgmgaa
open Go.RowKit

theorem fslot_owned {s : St} {t x : Int} {l : List Int} (h : fslot s t l = (x, 0)) : (ownerN s.th x).isSome = true := by
  rw [fslot] at h
  split at h
  · rename_i hc
    obtain ⟨hg, h0, h1⟩ := fthread_iff.1 hc.1
    have hG := sgood_iff.1 hg
    rcases hw : fwhere s t l with _ | k
    · rw [hw, fpair] at h
      cases h
    · rw [hw, fpair] at h
      obtain ⟨rfl, -⟩ := Prod.mk.inj h
      rw [fwhere, show (2 + t).toNat = 2 + t.toNat by omega] at hw
      exact (ffol_owned hG (nd_root hG (by omega)) (pgood_iff.1 hc.2).2.2 hw).2
  · cases h
theorem fempty_owned {s : St} {t x : Int} {l : List Int} (h : fempty s t l = (x, 0)) : (ownerN s.th x).isSome = true := by
  unfold fempty at h
  split at h
  · rename_i h3
    split at h
    · obtain ⟨h5, -⟩ := Prod.mk.inj h
      rw [← h5]
      exact fslot_owned (t := t) (l := l) (Prod.ext rfl h3)
    · obtain ⟨-, h⟩ := Prod.mk.inj h
      cases h
  · rename_i h3
    exact absurd (Prod.mk.inj h).2 h3
theorem tcost_kind {k y q : Int} (h : tcost k y = some q) : 1 ≤ k ∧ k ≤ 5 := by
  unfold tcost at h
  split at h
  · omega
  · split at h
    · omega
    · split at h
      · omega
      · split at h
        · omega
        · split at h
          · omega
          · cases h
theorem tnew_is {k y b : Int} {t : Tng} (h : tnew k y b = some t) : t = tnewt k y b ∧ t.good = true := by
  rw [tnew] at h
  split at h
  · rename_i h1
    injection h with h
    exact ⟨h.symm, by rw [← h]; exact h1.2⟩
  · cases h
theorem tnewt_facts (k y b : Int) : (tnewt k y b).ty = k ∧ (tnewt k y b).frm = 0 ∧ (k = 2 → (tnewt k y b).bits = y ∧ (tnewt k y b).base = b) := by
  unfold tnewt
  split
  · rename_i h
    subst h
    exact ⟨rfl, rfl, fun h => by cases h⟩
  · split
    · rename_i h
      subst h
      exact ⟨rfl, rfl, fun _ => ⟨rfl, rfl⟩⟩
    · rename_i h
      exact ⟨rfl, rfl, fun q => absurd q h⟩
theorem gapN_free {s : St} {y : Int} {b : Nat} (h : gapN s y = some b) : ∀ k : Nat, b ≤ k → (k : Int) < b + tw2 y → k < s.sl.length ∧ ownerN s.th (k : Int) = none := by
  rw [gapN] at h
  split at h
  · rename_i hy
    have hy := inr3_iff.1 hy
    obtain ⟨N, hN, hN2, -⟩ := tw2_is hy.1 hy.2
    rw [hN, Int.toNat_natCast, gapF] at h
    have h1 := List.mem_range.1 (List.mem_of_find?_eq_some h)
    have h2 := gapAt_iff.1 (List.find?_some h)
    intro k hk hk2
    rw [hN] at hk2
    have h3 := h2 k hk (by omega)
    refine ⟨by omega, ?_⟩
    simpa [ownd] using h3
  · cases h
/-- all that a plan is -/
structure Plan (s : St) (t : Int) (c : Cl) (p : Pn) (k : Int) : Prop where
  op : c.op = 1
  good : cgood c = true
  room : croom s t c.a = ((p.src : Int), 0)
  emp : fempty s t c.b = ((p.dst : Int), 0)
  cost : tcost c.x c.y = some k
  used : p.used = usedZ s p.src + k
  us : p.used ≤ (thAt s.th (thOf s p.src)).size
  num : cnum s c.x c.y = some (p.num, p.made)
theorem cplan_ok {s : St} {t : Int} {c : Cl} {p : Pn} (h : cplan s t c = (p, 0)) : ∃ k, Plan s t c p k := by
  unfold cplan at h
  split at h
  · rename_i h1
    split at h
    · rename_i h2
      split at h
      · rename_i h3
        obtain ⟨i, hi, -⟩ := croom_slot (s := s) (t := t) (l := c.a) (x := (croom s t c.a).1) (Prod.ext rfl h2)
        obtain ⟨j, hj, -⟩ := fempty_slot (s := s) (t := t) (l := c.b) (x := (fempty s t c.b).1) (Prod.ext rfl h3)
        split at h
        · obtain ⟨-, h⟩ := Prod.mk.inj h; cases h
        · rename_i k hk
          split at h
          · rename_i h4
            split at h
            · obtain ⟨-, h⟩ := Prod.mk.inj h; cases h
            · rename_i n m hn
              obtain ⟨rfl, -⟩ := Prod.mk.inj h
              rw [hi] at h4
              refine ⟨k, h1.1, h1.2, ?_, ?_, hk, ?_, ?_, hn⟩
              · exact Prod.ext (by simp only [hi, Int.toNat_natCast]) h2
              · exact Prod.ext (by simp only [hj, Int.toNat_natCast]) h3
              · simp only [hi, Int.toNat_natCast]
              · simp only [hi, Int.toNat_natCast] at h4 ⊢
                exact h4
          · obtain ⟨-, h⟩ := Prod.mk.inj h; cases h
      · rename_i h3
        exact absurd (Prod.mk.inj h).2 h3
    · rename_i h3
      exact absurd (Prod.mk.inj h).2 h3
  · obtain ⟨-, h⟩ := Prod.mk.inj h; cases h
theorem Plan.mks {s : St} {t : Int} {c : Cl} {p : Pn} {k : Int} (h : Plan s t c p k) : Gst s ∧ Mks s p := by
  obtain ⟨i, hi, hil, hg, hty⟩ := croom_slot h.room
  obtain ⟨j, hj, hjl, -, hnon⟩ := fempty_slot h.emp
  have hi' : p.src = i := by omega
  have hj' : p.dst = j := by omega
  have G := sgood_iff.1 hg
  have hnum := h.num
  unfold cnum at hnum
  have hkind := tcost_kind h.cost
  have hu := used_small (s := s) (k := (p.src : Int)) hg (by simp only [roomB, Int.toNat_natCast, hi', hty]; simp [hil])
  have hk := tcost_le h.cost
  rcases hb : cbase s c.x c.y with _ | b
  · rw [hb] at hnum; cases hnum
  rw [hb] at hnum
  rcases hf : sfree s with _ | n
  · rw [hf] at hnum; cases hnum
  rw [hf] at hnum
  simp only [Option.map_eq_some_iff] at hnum
  obtain ⟨m, hm, e⟩ := hnum
  obtain ⟨e1, e2⟩ := Prod.mk.inj e
  subst e1 e2
  have hfree := hf
  rw [sfree, if_pos hg] at hfree
  obtain ⟨f1, f2, -⟩ := freeN_some.1 hfree
  obtain ⟨g1, g2⟩ := tnew_is hm
  obtain ⟨t1, t2, t3⟩ := tnewt_facts c.x c.y b
  rw [← g1] at t1 t2 t3
  refine ⟨G, by rw [hi']; exact hil, by rw [hi']; exact hty, by rw [hj']; exact hjl, by rw [hj']; exact hnon, fempty_owned h.emp, f1, f2, by omega, g2, t2, fun q => ?_, by rw [h.used]; omega, h.us⟩
  have hx : c.x = 2 := by omega
  obtain ⟨q1, q2⟩ := t3 hx
  rw [cbase, if_pos hx, sgap, if_pos hg] at hb
  rcases hgp : gapN s c.y with _ | v
  · rw [hgp] at hb; cases hb
  rw [hgp] at hb
  obtain rfl : (v : Int) = b := by simpa using hb
  rw [q1, q2]
  intro z hz hz2
  exact gapN_free hgp z (by omega) hz2
/-- a reply -/
structure Rep where
  err : Int
  w : Nat
  n : Int
def Rep.val (q : Rep) : Value := .agg #[.int .i64 q.err, .int .u64 (q.w : Int), .int .i64 q.n]
/-- a new state, or none where it is as it was, and the reply -/
def cdo (s : St) (t : Int) (c : Cl) : Option St × Rep :=
  if (cplan s t c).2 = 0 then (some (cdone s (cplan s t c).1), ⟨0, 0, (cplan s t c).1.num⟩) else (none, ⟨(cplan s t c).2, 0, 0⟩)
theorem cdo_good {s s' : St} {t : Int} {c : Cl} {q : Rep} (h : cdo s t c = (some s', q)) : Gst s' := by
  rw [cdo] at h
  split at h
  · rename_i h1
    obtain ⟨h2, -⟩ := Prod.mk.inj h
    injection h2 with h2
    obtain ⟨k, hk⟩ := cplan_ok (p := (cplan s t c).1) (Prod.ext rfl h1)
    rw [← h2]
    exact hk.mks.2.good hk.mks.1
  · obtain ⟨h2, -⟩ := Prod.mk.inj h
    cases h2
/-- how a call's answer is handed back -/
def DoF (w w' : World) (e : Ending) (a b c : Int) (A : Option Addr) (n ca : Nat) (C : Option Addr) (m cc : Nat) (r : Option St × Rep) : Prop :=
  ∃ A' ca' C' cc', e = .returned (.tuple #[.agg #[.int .i64 a, .int .i64 b, .int .i64 c, .slice A' n ca', .slice C' m cc'], r.2.val]) ∧ Below w.heap.size w w' ∧
    match r.1 with
    | none => A' = A ∧ ca' = ca ∧ C' = C ∧ cc' = cc
    | some s' => n ≤ ca' ∧ m ≤ cc' ∧ Fsh w w' s' A' C'
theorem Fsh.fnd {W w w' : World} {s : St} {A C : Option Addr} {g : Nat} (h : Fsh W w s A C) (f : Fnd w w' g) (hg : g < W.heap.size) : Fsh W w' s A C :=
  ⟨⟨h.lies.sl.fnd f fun h0 => by obtain ⟨b, h1, h2, _⟩ := h.sl h0; exact ⟨b, h1, by omega⟩, h.lies.th.fnd f fun h0 => by obtain ⟨b, h1, h2, _⟩ := h.th h0; exact ⟨b, h1, by omega⟩⟩,
   fun h0 => by obtain ⟨b, h1, h2, h3, h4⟩ := h.sl h0; exact ⟨b, h1, h2, Nat.lt_of_lt_of_le h3 f.size, fun j => by rw [World.frozen?_of_block (w := w) (a := ⟨b, j, none⟩) (f.block b h3 (by omega))]; exact h4 j⟩,
   fun h0 => by obtain ⟨b, h1, h2, h3, h4⟩ := h.th h0; exact ⟨b, h1, h2, Nat.lt_of_lt_of_le h3 f.size, fun j => by rw [World.frozen?_of_block (w := w) (a := ⟨b, j, none⟩) (f.block b h3 (by omega))]; exact h4 j⟩, h.ne⟩
theorem Fsh.base {W W' w : World} {s : St} {A C : Option Addr} (h : Fsh W w s A C) (hW : W'.heap.size ≤ W.heap.size) : Fsh W' w s A C :=
  ⟨h.lies, fun h0 => by obtain ⟨b, h1, h2, h3, h4⟩ := h.sl h0; exact ⟨b, h1, by omega, h3, h4⟩, fun h0 => by obtain ⟨b, h1, h2, h3, h4⟩ := h.th h0; exact ⟨b, h1, by omega, h3, h4⟩, h.ne⟩
end Go.Proofs.Ytkpbfbmkolgmgaa
namespace Go.Proofs.Ytkpbfbmkolgmgaa
open Go.RowKit

end Go.Proofs.Ytkpbfbmkolgmgaa
namespace Go.Proofs.Ytkpbfbmkolgmgaa
open Go.RowKit

theorem Fsh.move {W W' w w' : World} {s : St} {A C : Option Addr} (h : Fsh W w s A C) (hW : W'.heap.size ≤ W.heap.size) (hsz : w.heap.size ≤ w'.heap.size) (e : ∀ k, W.heap.size ≤ k → k < w.heap.size → w'.heap[k]? = w.heap[k]?) : Fsh W' w' s A C := by
  refine ⟨⟨fun h0 => ?_, fun h0 => ?_⟩, fun h0 => ?_, fun h0 => ?_, h.ne⟩
  · obtain ⟨b, e1, h1, h2, -⟩ := h.sl h0
    obtain ⟨b', o', e2, h3, h4⟩ := h.lies.sl h0
    obtain ⟨rfl, rfl⟩ : b = b' ∧ 0 = o' := by rw [e1] at e2; simpa using e2
    exact ⟨b, 0, e1, by omega, fun j hj => (h4 j hj).same fun k => World.cell?_of_block (w := w) (a := ⟨b, k, none⟩) (e b h1 h2)⟩
  · obtain ⟨b, e1, h1, h2, -⟩ := h.th h0
    obtain ⟨b', o', e2, h3, h4⟩ := h.lies.th h0
    obtain ⟨rfl, rfl⟩ : b = b' ∧ 0 = o' := by rw [e1] at e2; simpa using e2
    exact ⟨b, 0, e1, by omega, fun j hj => (h4 j hj).same fun k => World.cell?_of_block (w := w) (a := ⟨b, k, none⟩) (e b h1 h2)⟩
  · obtain ⟨b, e1, h1, h2, h3⟩ := h.sl h0
    exact ⟨b, e1, by omega, by omega, fun k => (World.frozen?_of_block (w := w) (a := ⟨b, k, none⟩) (e b h1 h2)).trans (h3 k)⟩
  · obtain ⟨b, e1, h1, h2, h3⟩ := h.th h0
    exact ⟨b, e1, by omega, by omega, fun k => (World.frozen?_of_block (w := w) (a := ⟨b, k, none⟩) (e b h1 h2)).trans (h3 k)⟩
theorem one_at (w : World) (z : Int) : IntsAt (w.alloc (.cells #[.int .i64 z] 3)) (w.alloc (.cells #[.int .i64 z] 3)).heap.size (some ⟨w.heap.size, 0, none⟩) [z] := fun _ =>
  ⟨w.heap.size, 0, rfl, by simp, fun j y hy => by
    match j, hy with
    | 0, hy =>
      obtain rfl : z = y := by simpa using hy
      simp⟩

/-! ### heavy -/
/-! ### awake -/
def aw15 : Pn := ⟨0, 3, 1, 4, Tng.of 4⟩
theorem aw15_plan : cplan s64 0 ⟨1, [0], [3], 4, 0, 0⟩ = (aw15, 0) := by kernel_rfl
theorem aw15_do : cdo s64 0 ⟨1, [0], [3], 4, 0, 0⟩ = (some (cdone s64 aw15), ⟨0, 0, 4⟩) := by rw [cdo, aw15_plan]; rfl
theorem aw15_slot : slAt (cdone s64 aw15).sl 3 = ⟨⟨4, 4, 7, 0⟩, 0⟩ := by kernel_rfl
theorem aw15_thing : thAt (cdone s64 aw15).th 4 = Tng.of 4 := by kernel_rfl
theorem eq_reply (a b x y : Int) (u v : Nat) (w : World) : (Op.equalIn 10000 40 (.agg #[.int .i64 a, .int .u64 (u : Int), .int .i64 x]) (.agg #[.int .i64 b, .int .u64 (v : Int), .int .i64 y])).run Try.prog w = .ok (a == b && (u == v && x == y)) w := by
  by_cases h1 : a = b <;> by_cases h2 : u = v <;> by_cases h3 : x = y
  all_goals simp [go_sem, h1, h2, h3, Int.natCast_inj]
end Go.Proofs.Ytkpbfbmkolgmgaa
