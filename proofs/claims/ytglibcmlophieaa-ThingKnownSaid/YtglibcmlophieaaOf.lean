/-
  A thing's box beside a list of the call's own; what copy stores; the fields; the walk of Put. No condition.
-/
import Derived.Test.YtglibcmlophieaaOd
import Derived.Laws.IdiomCopy
import Derived.Deep.RegionLaw
namespace Go
open Go.RowKit
/-- copy as one step of a region that draws its order: of the target's block nothing is asked but that the cells are there and not frozen -/
theorem Proofs.Ytglibcmlophieaa.step_copy_cells {P : Program} {ops : Array Oper} {o : Oper} {a : Act} {w : World} {K : Act → World → Prop} {Q : Exit → Act → World → Prop} {E : Prop} (hgd : o.guard = none) (d s : Operand) (dT sT : TypeId)
    (ho : o.op = .call { callee := .builtin .copy, args := #[d, s], argTypes := #[dT, sT] }) (elem : TypeId) (hu : P.underlying dT = some (.slice elem)) (hsz : (P.info? elem).map (·.size) = some 1)
    (b off dLen dCap : Nat) (ad : Addr) (sLen sCap : Nat) (hd : a.eval d = .slice (some ⟨b, off, none⟩) dLen dCap) (hs : a.eval s = .slice (some ad) sLen sCap)
    (cs : List Value) (hn : cs.length = Nat.min sLen dLen) (hsrc : ∀ j v, cs[j]? = some v → w.cell? (ad.add j) = some v)
    (hc : ∀ j, j < cs.length → (w.cell? ⟨b, off + j, none⟩).isSome = true) (hf : ∀ j, j < cs.length → w.frozen? ⟨b, off + j, none⟩ = false) (h1 : ∀ v ∈ cs, v.oneCell' = true)
    (h : K (a.put o.dst (goInt cs.length)) (w.setCells b off cs)) :
    if Region.wanted o (yielded ops a.tmps) = true then Oper.wp P o a w K Q else E := by
  have hw : Region.wanted o (yielded ops a.tmps) = true := by simp [Region.wanted, hgd]
  rw [if_pos hw]
  have hrun := run_copy_cells (P := P) w dT sT o.type elem b off dLen dCap ad sLen sCap cs hu hsz hn hsrc hc hf h1
  unfold Oper.wp
  simp [execOp, ho, resolve, invoke, builtin, hd, hs, hrun, Result.andThen]
  exact h
end Go
namespace Go.Proofs.Ytglibcmlophieaa
open Go.RowKit

/-! ### its fields -/
theorem small_any (w : World) : Calls Try.prog 24 #[] w fun e w' => ∃ A cap, e = .returned (.slice A 5 cap) ∧ FdsAt w' w'.heap.size A smallf ∧ Below w.heap.size w w' := by
  go_enter Try.func24, Try.ntmps24
  go_wp2
  go_ret
  exact ⟨_, _, rfl, lit_fds' w smallf 60 _ rfl, below_alloc _ _⟩
theorem large_any (w : World) : Calls Try.prog 26 #[] w fun e w' => ∃ A cap, e = .returned (.slice A 3 cap) ∧ FdsAt w' w'.heap.size A largef ∧ Below w.heap.size w w' := by
  go_enter Try.func26, Try.ntmps26
  go_wp2
  go_ret
  exact ⟨_, _, rfl, lit_fds' w largef 60 _ rfl, below_alloc _ _⟩
/-! ### a thing's box and a list of eight words, all of them known but one -/
structure Pl (W w : World) (g m : Nat) (t : Tng) (l : List Nat) (k : Nat) : Prop where
  tb : Tbx W w g t
  cs : ∀ (j z : Nat), j ≠ k → l[j]? = some z → w.cell? ⟨m, j, none⟩ = some (.int .u64 (z : Int))
  is : ∀ j, j < 8 → ∃ v, w.cell? ⟨m, j, none⟩ = some v
  free : ∀ j, w.frozen? ⟨m, j, none⟩ = false
  gm : g < m
  lt : m < w.heap.size
theorem Pl.on {W w w' : World} {g m k : Nat} {t : Tng} {l : List Nat} (h : Pl W w g m t l k) (hb : Below w.heap.size w w') : Pl W w' g m t l k := by
  have e : ∀ j, w'.cell? ⟨m, j, none⟩ = w.cell? ⟨m, j, none⟩ := fun j => hb.cell (p := ⟨m, j, none⟩) h.lt
  exact ⟨h.tb.on hb, fun j z hj hz => by rw [e]; exact h.cs j z hj hz, fun j hj => by rw [e]; exact h.is j hj, fun j => by rw [World.frozen?_of_block (hb.block _ h.lt)]; exact h.free j, h.gm, Nat.lt_of_lt_of_le h.lt hb.size⟩
theorem Pl.drew {W w : World} {g m k : Nat} {t : Tng} {l : List Nat} (h : Pl W w g m t l k) : Pl W w.drew g m t l k := h.on (below_self w).drew
theorem Pl.alloc {W w : World} {g m k : Nat} {t : Tng} {l : List Nat} (h : Pl W w g m t l k) (o : Obj) : Pl W (w.alloc o) g m t l k := h.on (below_alloc w o)
theorem Pl.allocd {W w : World} {g m k : Nat} {t : Tng} {l : List Nat} (h : Pl W w.drew g m t l k) (o : Obj) : Pl W (w.alloc o).drew g m t l k := h.alloc o
theorem Tbx.other {W w : World} {g m : Nat} {t : Tng} (h : Tbx W w g t) (hm : m ≠ g) (hW : W.heap.size ≤ m) (k : Nat) (v : Value) : Tbx W (w.setCell ⟨m, k, none⟩ v) g t := by
  have e : ∀ j, (w.setCell ⟨m, k, none⟩ v).cell? ⟨g, j, none⟩ = w.cell? ⟨g, j, none⟩ := fun j => World.cell?_setCell_other _ _ _ _ (fun q => by injection q with q; exact hm q)
  exact ⟨(e 0).trans h.c0, (e 1).trans h.c1, (e 2).trans h.c2, (e 3).trans h.c3, (e 4).trans h.c4, (e 5).trans h.c5, (e 6).trans h.c6, (e 7).trans h.c7, (e 8).trans h.c8, (e 9).trans h.c9, (e 10).trans h.c10, (e 11).trans h.c11, (e 12).trans h.c12, fun j => by rw [World.frozen?_setCell]; exact h.free j, h.old.setCell hW v, h.base, by simpa [World.setCell] using h.lt⟩
theorem Pl.set {W w : World} {g m k : Nat} {t : Tng} {l : List Nat} (h : Pl W w g m t l k) (v : Value) : Pl W (w.setCell ⟨m, k, none⟩ v) g m t l k := by
  have hm := h.gm
  have hB := h.tb.base
  refine ⟨h.tb.other (by omega) (by omega) k v, fun j z hj hz => ?_, fun j hj => ?_, fun j => by rw [World.frozen?_setCell]; exact h.free j, h.gm, by simpa [World.setCell] using h.lt⟩
  · rw [World.cell?_setCell_other _ _ _ _ (fun q => by injection q with _ q; exact hj q.symm)]
    exact h.cs j z hj hz
  · obtain ⟨u, hu⟩ := h.is j hj
    by_cases hjk : j = k
    · subst hjk
      exact ⟨v, World.cell?_setCell_same _ _ _ hu⟩
    · exact ⟨u, by rw [World.cell?_setCell_other _ _ _ _ (fun q => by injection q with _ q; exact hjk q.symm)]; exact hu⟩
theorem Pl.put {W w : World} {g m k : Nat} {t : Tng} {l : List Nat} (h : Pl W w g m t l k) (hk : k < 8) (x k' : Nat) : Pl W (w.setCell ⟨m, k, none⟩ (.int .u64 (x : Int))) g m t (l.set k x) k' := by
  have h1 := h.set (.int .u64 (x : Int))
  refine ⟨h1.tb, fun j z _ hz => ?_, h1.is, h1.free, h1.gm, h1.lt⟩
  by_cases hjk : j = k
  · subst hjk
    obtain ⟨u, hu⟩ := h.is j hk
    rw [World.cell?_setCell_same _ _ _ hu]
    rw [List.getElem?_set] at hz
    simp only [if_true] at hz
    split at hz
    · injection hz with hz
      rw [hz]
    · cases hz
  · rw [List.getElem?_set, if_neg (fun q => hjk q.symm)] at hz
    exact h1.cs j z hjk hz
end Go.Proofs.Ytglibcmlophieaa
