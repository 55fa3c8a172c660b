/-
  A region in any order: what holds of each set of its operations that have come up. No condition.
-/
import Derived.Test.YtkpbfbmkolgmgaaGreatTVf
namespace Go.Proofs.YtkpbfbmkolgmgaaGreat
open Go.RowKit

def pmA (a : Act) (D : List Nat) (tm : Nat → Value) : Act := D.foldl (fun a d => a.put (some d) (tm d)) a
theorem act_ext {a b : Act} (h : ∀ j : Nat, a.tmps[j]? = b.tmps[j]?) (hd : a.defers = b.defers) : a = b := by
  obtain ⟨ta, da⟩ := a
  obtain ⟨tb, db⟩ := b
  simp only at h hd
  rw [hd, Array.ext_getElem? h]
theorem pmA_all (D : List Nat) (tm : Nat → Value) : ∀ (a : Act), (pmA a D tm).tmps.size = a.tmps.size ∧ (pmA a D tm).defers = a.defers ∧ ∀ j : Nat, (pmA a D tm).tmps[j]? = if j ∈ D ∧ j < a.tmps.size then some (tm j) else a.tmps[j]? := by
  induction D with
  | nil => exact fun a => ⟨rfl, rfl, fun j => by rw [if_neg (by simp)]; rfl⟩
  | cons d D ih =>
    intro a
    obtain ⟨h1, h2, h3⟩ := ih (a.put (some d) (tm d))
    have e : pmA a (d :: D) tm = pmA (a.put (some d) (tm d)) D tm := rfl
    have es : (a.put (some d) (tm d)).tmps.size = a.tmps.size := by simp [Act.put]
    rw [e]
    refine ⟨h1.trans es, h2, fun j => ?_⟩
    rw [h3 j, es]
    by_cases hj : j ∈ D ∧ j < a.tmps.size
    · rw [if_pos hj, if_pos ⟨List.mem_cons_of_mem _ hj.1, hj.2⟩]
    · rw [if_neg hj]
      show (a.tmps.setIfInBounds d (tm d))[j]? = _
      rw [Array.getElem?_setIfInBounds]
      by_cases hd : d = j
      · subst hd
        by_cases hl : d < a.tmps.size
        · rw [if_pos rfl, if_pos hl, if_pos ⟨List.mem_cons_self, hl⟩]
        · rw [if_pos rfl, if_neg hl, if_neg (fun q => hl q.2), Array.getElem?_eq_none (by omega)]
      · rw [if_neg hd, if_neg (fun q => ?_)]
        rcases List.mem_cons.1 q.1 with q1 | q1
        · exact hd q1.symm
        · exact hj ⟨q1, q.2⟩
theorem pmA_put {a : Act} {D : List Nat} {tm : Nat → Value} {d : Nat} (hd : d ∈ D) (v : Value) : (pmA a D tm).put (some d) v = pmA a D (fun j => if j = d then v else tm j) := by
  obtain ⟨h1, h2, h3⟩ := pmA_all D tm a
  obtain ⟨k1, k2, k3⟩ := pmA_all D (fun j => if j = d then v else tm j) a
  refine act_ext (fun j => ?_) (h2.trans k2.symm)
  rw [k3 j]
  show ((pmA a D tm).tmps.setIfInBounds d v)[j]? = _
  rw [Array.getElem?_setIfInBounds, h1, h3 j]
  by_cases e : d = j
  · subst e
    by_cases hl : d < a.tmps.size
    · rw [if_pos rfl, if_pos hl, if_pos ⟨hd, hl⟩, if_pos rfl]
    · rw [if_pos rfl, if_neg hl, if_neg (fun q => hl q.2), Array.getElem?_eq_none (by omega)]
  · rw [if_neg e]
    by_cases hj : j ∈ D ∧ j < a.tmps.size
    · rw [if_pos hj, if_pos hj, if_neg (fun q => e q.symm)]
    · rw [if_neg hj, if_neg hj]
theorem pmA_start (a : Act) (D : List Nat) : pmA a D (fun j => a.tmps.getD j undef) = a := by
  obtain ⟨h1, h2, h3⟩ := pmA_all D (fun j => a.tmps.getD j undef) a
  refine act_ext (fun j => ?_) h2
  rw [h3 j]
  split
  · rename_i h
    simp [Array.getD, h.2]
  · rfl
def lset (l : Nat → Bool) (i : Nat) : Nat → Bool := fun j => if j = i then true else l j
def vset (o : Option Nat) (v : Value) (tm : Nat → Value) : Nat → Value := match o with
  | some d => fun j => if j = d then v else tm j
  | none => tm
def waits (md : Region.Mode) (o : Oper) : List Nat := (o.after.toList.filter fun e => Region.binds md e).map (·.on)
/-- one operation that has come up, and what is to follow it (never unfolded by a look) -/
@[irreducible] def OpW (P : Program) (ops : Array Oper) (o : Oper) (a : Act) (w : World) (K : Act → World → Prop) (Q : Exit → Act → World → Prop) : Prop :=
  if Region.wanted o (yielded ops a.tmps) = true then Oper.wp P o a w K Q else K (a.put o.dst undef) w
theorem OpW.out {P : Program} {ops : Array Oper} {o : Oper} {a : Act} {w : World} {K : Act → World → Prop} {Q : Exit → Act → World → Prop} (h : OpW P ops o a w K Q) : if Region.wanted o (yielded ops a.tmps) = true then Oper.wp P o a w K Q else K (a.put o.dst undef) w := by
  unfold OpW at h
  exact h
theorem OpW.of {P : Program} {ops : Array Oper} {o : Oper} {a : Act} {w : World} {K : Act → World → Prop} {Q : Exit → Act → World → Prop} (h : if Region.wanted o (yielded ops a.tmps) = true then Oper.wp P o a w K Q else K (a.put o.dst undef) w) : OpW P ops o a w K Q := by
  unfold OpW
  exact h
def StepAt (P : Program) (md : Region.Mode) (ops : Array Oper) (Q : Exit → Act → World → Prop) (D : List Nat) (a0 : Act) (Φ : (Nat → Bool) → (Nat → Value) → World → Prop) (i : Nat) (o : Oper) : Prop :=
  ∀ l tm w, Φ l tm w → l i = false → (∀ j, (waits md o).contains j = true → l j = true) → ∀ K : Act → World → Prop, Shut (∀ v w', Φ (lset l i) (vset o.dst v tm) w' → K ((pmA a0 D tm).put o.dst v) w') →
    OpW P ops o (pmA a0 D tm) w K Q
def AllSteps (P : Program) (md : Region.Mode) (ops : Array Oper) (Q : Exit → Act → World → Prop) (D : List Nat) (a0 : Act) (Φ : (Nat → Bool) → (Nat → Value) → World → Prop) (is : List Nat) : Prop :=
  ∀ i ∈ is, ∃ o, ops[i]? = some o ∧ StepAt P md ops Q D a0 Φ i o
section
variable {P : Program} {md : Region.Mode} {ops : Array Oper} {Q : Exit → Act → World → Prop} {S : World → Prop} {D : List Nat} {a0 : Act} {Φ : (Nat → Bool) → (Nat → Value) → World → Prop}
theorem AllSteps.nil : AllSteps P md ops Q D a0 Φ [] := fun _ h => by cases h
theorem AllSteps.cons {i : Nat} {is : List Nat} {o : Oper} (ho : ops[i]? = some o) (h : StepAt P md ops Q D a0 Φ i o) (hs : AllSteps P md ops Q D a0 Φ is) : AllSteps P md ops Q D a0 Φ (i :: is) := fun j hj => by
  rcases List.mem_cons.1 hj with rfl | hj
  · exact ⟨o, ho, h⟩
  · exact hs j hj
/-- those of 'is' have not come up; each waits only for earlier ones of them, or for what has come up; all others wait for them -/
def chkIn (md : Region.Mode) (ops : Array Oper) (listed : Array Bool) (is D : List Nat) : Bool :=
  is.all fun i => (!listed.getD i true) && match ops[i]? with
    | none => false
    | some o => (match o.dst with | some d => D.contains d | none => true) && (waits md o).all fun j => listed.getD j false || (is.contains j && decide (j < i))
def chkOut (md : Region.Mode) (ops : Array Oper) (listed : Array Bool) (is : List Nat) : Bool :=
  (List.range ops.size).all fun i => listed.getD i true || is.contains i || match ops[i]? with
    | none => false
    | some o => is.all fun j => (waits md o).contains j
def setAll (is : List Nat) (listed : Array Bool) : Array Bool := is.foldl (fun l i => l.setIfInBounds i true) listed
theorem setAll_all : ∀ (is : List Nat) (listed : Array Bool), (setAll is listed).size = listed.size ∧ ∀ j, (setAll is listed).getD j true = if j ∈ is then true else listed.getD j true
  | [], listed => ⟨rfl, fun j => by rw [if_neg (by simp)]; rfl⟩
  | i :: is, listed => by
    obtain ⟨h1, h2⟩ := setAll_all is (listed.setIfInBounds i true)
    refine ⟨h1.trans (by simp), fun j => ?_⟩
    show (setAll is (listed.setIfInBounds i true)).getD j true = _
    rw [h2 j]
    by_cases hj : j ∈ is
    · rw [if_pos hj, if_pos (List.mem_cons_of_mem _ hj)]
    · rw [if_neg hj]
      by_cases e : j = i
      · subst e
        rw [if_pos List.mem_cons_self]
        by_cases hl : j < listed.size <;> simp [Array.getD, hl]
      · rw [if_neg (fun q => (List.mem_cons.1 q).elim e hj)]
        exact getD_set_ne true (fun q => e q.symm)
theorem bools_ext {x y : Array Bool} (hs : x.size = y.size) (h : ∀ j, x.getD j true = y.getD j true) : x = y := by
  refine Array.ext hs fun j h1 h2 => ?_
  have := h j
  simpa [Array.getD, h1, h2] using this
theorem mem_waits {o : Oper} {j : Nat} : (waits md o).contains j = true ↔ ∃ e ∈ o.after, Region.binds md e = true ∧ e.on = j := by
  simp only [waits, List.contains_eq_mem, decide_eq_true_eq, List.mem_map, List.mem_filter, Array.mem_toList_iff]
  constructor
  · rintro ⟨e, ⟨h1, h2⟩, h3⟩; exact ⟨e, h1, h2, h3⟩
  · rintro ⟨e, h1, h2, h3⟩; exact ⟨e, ⟨h1, h2⟩, h3⟩
theorem inv_go {listed : Array Bool} {is : List Nat} {f0 : Nat} (hin : chkIn md ops listed is D = true) (hout : chkOut md ops listed is = true) (hsz : listed.size = ops.size) (hS : ∀ l tm w, Φ l tm w → S w) (hst : AllSteps P md ops Q D a0 Φ is)
    (hend : ∀ tm w, Φ (fun i => (setAll is listed).getD i true) tm w → wpAnyH P md ops Q S f0 (setAll is listed) (pmA a0 D tm) w) :
    ∀ (k : Nat) (rem : List Nat) (ls : Array Bool) (tm : Nat → Value) (w : World), rem.length = k → rem.Nodup → (∀ j ∈ rem, j ∈ is) → ls.size = ops.size → (∀ j, ls.getD j true = if j ∈ is then decide (j ∉ rem) else listed.getD j true) →
      Φ (fun i => ls.getD i true) tm w → wpAnyH P md ops Q S (f0 + k) ls (pmA a0 D tm) w := by
  have hin' : ∀ i ∈ is, listed.getD i true = false ∧ ∃ o, ops[i]? = some o ∧ (∀ d, o.dst = some d → d ∈ D) ∧ ∀ j, (waits md o).contains j = true → listed.getD j false = true ∨ (j ∈ is ∧ j < i) := fun i hi => by
    have h := List.all_eq_true.1 hin i hi
    rw [Bool.and_eq_true] at h
    refine ⟨by simpa using h.1, ?_⟩
    have h2 := h.2
    rcases ho : ops[i]? with _ | o
    · rw [ho] at h2; cases h2
    · rw [ho] at h2
      simp only [Bool.and_eq_true] at h2
      refine ⟨o, rfl, fun d hd => ?_, fun j hj => ?_⟩
      · have := h2.1
        rw [hd] at this
        simpa using this
      · have := List.all_eq_true.1 h2.2 j (by simpa using hj)
        simpa using this
  intro k
  induction k with
  | zero =>
    intro rem ls tm w hk hnd hsub hls hl hΦ
    obtain rfl : rem = [] := List.eq_nil_of_length_eq_zero hk
    obtain ⟨s1, s2⟩ := setAll_all is listed
    have e : ls = setAll is listed := bools_ext (by rw [hls, s1, hsz]) fun j => by
      rw [hl j, s2 j]
      split <;> simp
    subst e
    exact hend tm w hΦ
  | succ k ih =>
    intro rem ls tm w hk hnd hsub hls hl hΦ
    have hlt : ∀ i ∈ is, i < ls.size := fun i hi => by
      obtain ⟨-, o, ho, -⟩ := hin' i hi
      rw [hls]
      exact (Array.getElem?_eq_some_iff.1 ho).1
    have hfalse : ∀ {j : Nat}, j ∈ rem → ls.getD j false = false := fun {j} hj => by
      have h := hl j
      rw [if_pos (hsub j hj), decide_eq_false (by simpa using hj)] at h
      simpa [Array.getD, hlt j (hsub j hj)] using h
    have hgt : ∀ {j : Nat} {b : Bool}, j < ls.size → ls.getD j b = ls.getD j true := fun {j b} hj => by simp [Array.getD, hj]
    refine ⟨fun hr => ?_, fun i hi => ?_⟩
    · exfalso
      obtain ⟨i, hi, hmin⟩ : ∃ i, i ∈ rem ∧ ∀ j ∈ rem, i ≤ j := by
        have hne : rem ≠ [] := fun e => by rw [e] at hk; cases hk
        rcases h : rem.min? with _ | x
        · rw [List.min?_eq_none_iff] at h; exact absurd h hne
        · exact ⟨x, List.min?_eq_some_iff.1 h⟩
      have hrd : i ∈ Region.ready md ops ls := mem_ready.2 (by
        obtain ⟨-, o, ho, -, hw⟩ := hin' i (hsub i hi)
        refine ⟨?_, o, ho, fun e he hb => ?_⟩
        · rw [hl i, if_pos (hsub i hi), decide_eq_false (by simpa using hi)]
        · rcases hw e.on (mem_waits.2 ⟨e, he, hb, rfl⟩) with h | ⟨h1, h2⟩
          · have hsz2 : e.on < ls.size := by
              rw [hls, ← hsz]
              exact Decidable.byContradiction fun q => by simp [Array.getD, q] at h
            have h3 : listed.getD e.on true = true := by
              rw [← hsz] at hls
              simpa [Array.getD, hls ▸ hsz2] using h
            rw [hgt hsz2, hl e.on]
            split
            · rename_i hin2
              rw [(hin' _ hin2).1] at h3
              cases h3
            · exact h3
          · rw [hgt (hlt _ h1), hl e.on, if_pos h1, decide_eq_true]
            exact fun q => absurd (hmin _ q) (by omega))
      rw [hr] at hrd
      cases hrd
    · obtain ⟨hun, o, ho, hdep⟩ := mem_ready.1 hi
      have hir : i ∈ rem := by
        refine Decidable.byContradiction fun hno => ?_
        have h1 := hl i
        rw [hun] at h1
        by_cases hii : i ∈ is
        · rw [if_pos hii, decide_eq_true hno] at h1
          cases h1
        · rw [if_neg hii] at h1
          have hi2 := (Array.getElem?_eq_some_iff.1 ho).1
          have h2 := List.all_eq_true.1 hout i (List.mem_range.2 hi2)
          rw [← h1, ho] at h2
          simp only [Bool.false_or, Bool.or_eq_true] at h2
          rcases h2 with h2 | h2
          · exact hii (by simpa using h2)
          · obtain ⟨j, hj⟩ : ∃ j, j ∈ rem := by
              cases rem with
              | nil => cases hk
              | cons x _ => exact ⟨x, List.mem_cons_self⟩
            obtain ⟨e, he, hb, hej⟩ := mem_waits.1 (List.all_eq_true.1 h2 j (hsub j hj))
            have := hdep e he hb
            rw [hej, hfalse hj] at this
            cases this
      obtain ⟨o', ho', hstep⟩ := hst i (hsub i hir)
      obtain rfl : o = o' := by rw [ho] at ho'; exact Option.some.inj ho'
      obtain ⟨-, o', ho', hdst, -⟩ := hin' i (hsub i hir)
      obtain rfl : o = o' := by rw [ho] at ho'; exact Option.some.inj ho'
      refine wpOp_step ho fun K' hK => (hstep _ tm w hΦ hun (fun j hj => ?_) K' (fun v w' h' => hK _ _ ⟨hS _ _ _ h', ?_⟩)).out
      · obtain ⟨e, he, hb, rfl⟩ := mem_waits.1 hj
        have := hdep e he hb
        exact Decidable.byContradiction fun q => by
          have q : ls.getD e.on true = false := by simpa using q
          by_cases hz : e.on < ls.size
          · rw [hgt hz, q] at this; cases this
          · simp [Array.getD, hz] at q
      · have hl' : ∀ j, (ls.setIfInBounds i true).getD j true = if j = i then true else ls.getD j true := fun j => by
          by_cases e : j = i
          · subst e
            rw [if_pos rfl]
            by_cases hz : j < ls.size <;> simp [Array.getD, hz]
          · rw [if_neg e]
            exact getD_set_ne true (fun q => e q.symm)
        have hput : (pmA a0 D tm).put o.dst v = pmA a0 D (vset o.dst v tm) := by
          rcases hd : o.dst with _ | d
          · rfl
          · exact pmA_put (hdst d hd) v
        rw [hput]
        refine ih (rem.erase i) (ls.setIfInBounds i true) (vset o.dst v tm) w' ?_ (hnd.erase i) (fun j hj => hsub j (List.mem_of_mem_erase hj)) (by simp [hls]) (fun j => ?_) ?_
        · rw [List.length_erase_of_mem hir, hk]; rfl
        · rw [hl' j, hl j]
          by_cases e : j = i
          · subst e
            rw [if_pos rfl, if_pos (hsub j hir), decide_eq_true]
            exact fun q => hnd.not_mem_erase q
          · rw [if_neg e]
            split
            · have : j ∈ rem.erase i ↔ j ∈ rem := List.mem_erase_of_ne e
              simp [this]
            · rfl
        · have : (fun j => (ls.setIfInBounds i true).getD j true) = lset (fun j => ls.getD j true) i := funext hl'
          rw [this]
          exact h'
theorem wpAnyH_inv {listed : Array Bool} {w : World} {f0 : Nat} (is D : List Nat) (Φ : (Nat → Bool) → (Nat → Value) → World → Prop) (hin : chkIn md ops listed is D = true) (hout : chkOut md ops listed is = true) (hsz : listed.size = ops.size) (hnd : is.Nodup) (hS : ∀ l tm w, Φ l tm w → S w)
    (h0 : Φ (fun i => listed.getD i true) (fun j => a0.tmps.getD j undef) w) (hst : AllSteps P md ops Q D a0 Φ is)
    (hend : ∀ tm w, Φ (fun i => (setAll is listed).getD i true) tm w → wpAnyH P md ops Q S f0 (setAll is listed) (pmA a0 D tm) w) : wpAnyH P md ops Q S (f0 + is.length) listed a0 w := by
  have h := inv_go hin hout hsz hS hst hend is.length is listed (fun j => a0.tmps.getD j undef) w rfl hnd (fun _ h => h) hsz (fun j => ?_) h0
  · rwa [pmA_start] at h
  · split
    · rename_i hj
      have := List.all_eq_true.1 hin j hj
      rw [Bool.and_eq_true] at this
      rw [decide_eq_false (by simpa using hj)]
      simpa using this.1
    · rfl
end
end Go.Proofs.YtkpbfbmkolgmgaaGreat
