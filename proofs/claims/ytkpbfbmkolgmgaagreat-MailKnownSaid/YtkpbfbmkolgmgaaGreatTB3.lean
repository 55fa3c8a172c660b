/-
  The walk of package carve's planOf. Condition: the state and the call's ways lie in memory.
  The walk of what a plan does to a state. Condition: the state lies in memory, the plan's places are its own.
  What carve answers, as plain data: a plan's places and numbers fit the state. No condition.
  How such an answer is handed back. Condition: none.
  The walk of package carve's Do. Condition: the state and the call's ways lie in memory.
  The law's own way, first, heavy, awake. Condition: none.
-/
import Derived.Test.YtkpbfbmkolgmgaaGreatTB2
namespace Go.Proofs.YtkpbfbmkolgmgaaGreat
open Go.RowKit

def Pn.val (p : Pn) : Value := .agg #[.int .i64 (p.src : Int), .int .i64 (p.dst : Int), .int .i64 p.used, .int .i64 (p.num : Int), .int .i64 p.made.ty, .int .i64 p.made.bits, .int .i64 p.made.base, .int .i64 p.made.size, .int .i64 p.made.used, .int .i64 p.made.frm, .int .i64 p.made.badge, .bool p.made.full, .int .u64 (p.made.word : Int), .int .u64 (p.made.d0 : Int), .int .u64 (p.made.d1 : Int), .int .u64 (p.made.d2 : Int), .int .u64 (p.made.d3 : Int)]
theorem fempty_slot {s : St} {t x : Int} {l : List Int} (h : fempty s t l = (x, 0)) : ∃ k : Nat, x = k ∧ k < s.sl.length ∧ sgood s = true ∧ (slAt s.sl k).c.non = true := by
  unfold fempty at h
  split at h
  · rename_i h3
    obtain ⟨k, e, hk, hg⟩ := fslot_slot (x := (fslot s t l).1) (s := s) (t := t) (l := l) (Prod.ext rfl h3)
    split at h
    · rename_i h4
      obtain ⟨h5, -⟩ := Prod.mk.inj h
      rw [e, Int.toNat_natCast] at h4
      exact ⟨k, by rw [← h5, e], hk, hg, h4⟩
    · obtain ⟨-, h⟩ := Prod.mk.inj h
      cases h
  · rename_i h3
    exact absurd (Prod.mk.inj h).2 h3
end Go.Proofs.YtkpbfbmkolgmgaaGreat
namespace Go.Proofs.YtkpbfbmkolgmgaaGreat
open Go.RowKit

theorem Ost.base {W W1 w : World} {s : St} {P Q : Nat} (h : Ost W1 w s P Q) (hb : Below W.heap.size W W1) : Ost W w s P Q :=
  ⟨h.sl, h.th, h.Pf, h.Qf, h.PQ, Nat.le_trans hb.size h.oP, Nat.le_trans hb.size h.oQ, h.lP, h.lQ, below_on hb h.old⟩
theorem Bxs.fnd {W w w' : World} {g B : Nat} {cs : List Value} (h : Bxs W w g cs) (f : Fnd w w' B) (hne : g ≠ B) (hb : Below W.heap.size W w') : Bxs W w' g cs :=
  ⟨fun k u hk => (f.cell h.lt hne).trans (h.c k u hk), hb, h.base, Nat.lt_of_lt_of_le h.lt f.size⟩
theorem Wbs.fnd {W w w' : World} {g B : Nat} {cs : List Value} (h : Wbs W w g cs) (f : Fnd w w' B) (hne : g ≠ B) (hb : Below W.heap.size W w') : Wbs W w' g cs :=
  ⟨h.bx.fnd f hne hb, fun j => (f.frozen h.bx.lt hne).trans (h.free j)⟩
theorem Fnd.drew {w w' : World} {B : Nat} (f : Fnd w w' B) : Fnd w w'.drew B := f.trans (.of (below_self _).drew _)
theorem results_c {fn : Func} {c : Tmp} {ty : TypeId} (h : fn.results = #[.cell c ty]) (tmps : Array Value) (P : Program) (w : World) {b : Nat} {cs : List Value} {d : TypeDesc} (hp : tmps.getD c undef = .pointer (some ⟨b, 0, none⟩))
    (hc : w.rangeAt b 0 cs) (hu : P.underlying ty = some d) (hd : d.isRow = true) (hi : (P.info? ty).map (·.size) = some cs.length) : (results fn tmps).run P w = .ok (.agg cs.toArray) w := by
  have e := run_loadVar_mid w b 0 ty cs d hc hu hd hi
  have hp2 : tmps[c]?.getD undef = .pointer (some ⟨b, 0, none⟩) := by simpa using hp
  simp [results, h, hp2, asAddr, e]

end Go.Proofs.YtkpbfbmkolgmgaaGreat
namespace Go.Proofs.YtkpbfbmkolgmgaaGreat
open Go.RowKit

theorem fslot_owned {s : St} {t x : Int} {l : List Int} (h : fslot s t l = (x, 0)) : (ownerN s.th x).isSome = true := by
  rw [fslot] at h
  split at h
  · rename_i hc
    obtain ⟨hg, h0, h1⟩ := fthread_iff.1 hc.1
    have hG := sgood_iff.1 hg
    rcases hw : fwhere s t l with _ | k
    · rw [hw, fpair] at h
      cases h
    · rw [hw, fpair] at h
      obtain ⟨rfl, -⟩ := Prod.mk.inj h
      rw [fwhere, show (2 + t).toNat = 2 + t.toNat by omega] at hw
      exact (ffol_owned hG (nd_root hG (by omega)) (pgood_iff.1 hc.2).2.2 hw).2
  · cases h
theorem fempty_owned {s : St} {t x : Int} {l : List Int} (h : fempty s t l = (x, 0)) : (ownerN s.th x).isSome = true := by
  unfold fempty at h
  split at h
  · rename_i h3
    split at h
    · obtain ⟨h5, -⟩ := Prod.mk.inj h
      rw [← h5]
      exact fslot_owned (t := t) (l := l) (Prod.ext rfl h3)
    · obtain ⟨-, h⟩ := Prod.mk.inj h
      cases h
  · rename_i h3
    exact absurd (Prod.mk.inj h).2 h3
/-- a reply -/
structure Rep where
  err : Int
  w : Nat
  n : Int
def Rep.val (q : Rep) : Value := .agg #[.int .i64 q.err, .int .u64 (q.w : Int), .int .i64 q.n]
/-- how a call's answer is handed back -/
def DoF (w w' : World) (e : Ending) (a b c : Int) (A : Option Addr) (n ca : Nat) (C : Option Addr) (m cc : Nat) (r : Option St × Rep) : Prop :=
  ∃ A' ca' C' cc', e = .returned (.tuple #[.agg #[.int .i64 a, .int .i64 b, .int .i64 c, .slice A' n ca', .slice C' m cc'], r.2.val]) ∧ Below w.heap.size w w' ∧
    match r.1 with
    | none => A' = A ∧ ca' = ca ∧ C' = C ∧ cc' = cc
    | some s' => n ≤ ca' ∧ m ≤ cc' ∧ Fsh w w' s' A' C'
theorem Fsh.fnd {W w w' : World} {s : St} {A C : Option Addr} {g : Nat} (h : Fsh W w s A C) (f : Fnd w w' g) (hg : g < W.heap.size) : Fsh W w' s A C :=
  ⟨⟨h.lies.sl.fnd f fun h0 => by obtain ⟨b, h1, h2, _⟩ := h.sl h0; exact ⟨b, h1, by omega⟩, h.lies.th.fnd f fun h0 => by obtain ⟨b, h1, h2, _⟩ := h.th h0; exact ⟨b, h1, by omega⟩⟩,
   fun h0 => by obtain ⟨b, h1, h2, h3, h4⟩ := h.sl h0; exact ⟨b, h1, h2, Nat.lt_of_lt_of_le h3 f.size, fun j => by rw [World.frozen?_of_block (w := w) (a := ⟨b, j, none⟩) (f.block b h3 (by omega))]; exact h4 j⟩,
   fun h0 => by obtain ⟨b, h1, h2, h3, h4⟩ := h.th h0; exact ⟨b, h1, h2, Nat.lt_of_lt_of_le h3 f.size, fun j => by rw [World.frozen?_of_block (w := w) (a := ⟨b, j, none⟩) (f.block b h3 (by omega))]; exact h4 j⟩, h.ne⟩
theorem Fsh.base {W W' w : World} {s : St} {A C : Option Addr} (h : Fsh W w s A C) (hW : W'.heap.size ≤ W.heap.size) : Fsh W' w s A C :=
  ⟨h.lies, fun h0 => by obtain ⟨b, h1, h2, h3, h4⟩ := h.sl h0; exact ⟨b, h1, by omega, h3, h4⟩, fun h0 => by obtain ⟨b, h1, h2, h3, h4⟩ := h.th h0; exact ⟨b, h1, by omega, h3, h4⟩, h.ne⟩
end Go.Proofs.YtkpbfbmkolgmgaaGreat
namespace Go.Proofs.YtkpbfbmkolgmgaaGreat
open Go.RowKit

end Go.Proofs.YtkpbfbmkolgmgaaGreat
namespace Go.Proofs.YtkpbfbmkolgmgaaGreat
open Go.RowKit

theorem Fsh.move {W W' w w' : World} {s : St} {A C : Option Addr} (h : Fsh W w s A C) (hW : W'.heap.size ≤ W.heap.size) (hsz : w.heap.size ≤ w'.heap.size) (e : ∀ k, W.heap.size ≤ k → k < w.heap.size → w'.heap[k]? = w.heap[k]?) : Fsh W' w' s A C := by
  refine ⟨⟨fun h0 => ?_, fun h0 => ?_⟩, fun h0 => ?_, fun h0 => ?_, h.ne⟩
  · obtain ⟨b, e1, h1, h2, -⟩ := h.sl h0
    obtain ⟨b', o', e2, h3, h4⟩ := h.lies.sl h0
    obtain ⟨rfl, rfl⟩ : b = b' ∧ 0 = o' := by rw [e1] at e2; simpa using e2
    exact ⟨b, 0, e1, by omega, fun j hj => (h4 j hj).same fun k => World.cell?_of_block (w := w) (a := ⟨b, k, none⟩) (e b h1 h2)⟩
  · obtain ⟨b, e1, h1, h2, -⟩ := h.th h0
    obtain ⟨b', o', e2, h3, h4⟩ := h.lies.th h0
    obtain ⟨rfl, rfl⟩ : b = b' ∧ 0 = o' := by rw [e1] at e2; simpa using e2
    exact ⟨b, 0, e1, by omega, fun j hj => (h4 j hj).same fun k => World.cell?_of_block (w := w) (a := ⟨b, k, none⟩) (e b h1 h2)⟩
  · obtain ⟨b, e1, h1, h2, h3⟩ := h.sl h0
    exact ⟨b, e1, by omega, by omega, fun k => (World.frozen?_of_block (w := w) (a := ⟨b, k, none⟩) (e b h1 h2)).trans (h3 k)⟩
  · obtain ⟨b, e1, h1, h2, h3⟩ := h.th h0
    exact ⟨b, e1, by omega, by omega, fun k => (World.frozen?_of_block (w := w) (a := ⟨b, k, none⟩) (e b h1 h2)).trans (h3 k)⟩
theorem one_at (w : World) (z : Int) : IntsAt (w.alloc (.cells #[.int .i64 z] 3)) (w.alloc (.cells #[.int .i64 z] 3)).heap.size (some ⟨w.heap.size, 0, none⟩) [z] := fun _ =>
  ⟨w.heap.size, 0, rfl, by simp, fun j y hy => by
    match j, hy with
    | 0, hy =>
      obtain rfl : z = y := by simpa using hy
      simp⟩

/-! ### heavy -/
/-! ### awake -/
theorem eq_reply (a b x y : Int) (u v : Nat) (w : World) : (Op.equalIn 10000 40 (.agg #[.int .i64 a, .int .u64 (u : Int), .int .i64 x]) (.agg #[.int .i64 b, .int .u64 (v : Int), .int .i64 y])).run Tryz.prog w = .ok (a == b && (u == v && x == y)) w := by
  by_cases h1 : a = b <;> by_cases h2 : u = v <;> by_cases h3 : x = y
  all_goals simp [go_sem, h1, h2, h3, Int.natCast_inj]
end Go.Proofs.YtkpbfbmkolgmgaaGreat
