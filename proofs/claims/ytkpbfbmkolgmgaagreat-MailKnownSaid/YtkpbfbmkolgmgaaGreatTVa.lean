/-
  A thing put in place of another one of its kind that is no Node: the state behind it may be, ways lead where they did. Words and ways as plain data: what is sent, what is taken out, what is handed on. No condition.
-/
import Derived.Test.YtkpbfbmkolgmgaaGreatTDc
import Derived.Test.YtkpbfbmkolgmgaaGreatTB3
namespace Go.Proofs.YtkpbfbmkolgmgaaGreat
open Go.RowKit
set_option linter.unusedSimpArgs false
set_option linter.unusedVariables false

/-! ### a thing in place of another -/
def tputS (s : St) (i : Nat) (x : Tng) : St := ⟨s.g, s.sl, s.th.set i x⟩
structure Tpt (s : St) (i : Nat) (x : Tng) : Prop where
  lt : i < s.th.length
  ty : (thAt s.th i).ty = x.ty
  no : x.ty ≠ 2
  z0 : x.ty ≠ 0
  bits : (thAt s.th i).bits = x.bits
  base : (thAt s.th i).base = x.base
  good : x.good = true
  frm : s.from2 x = true
theorem tput_th {s : St} {i : Nat} {x : Tng} : (tputS s i x).th.length = s.th.length := List.length_set
section
variable {s : St} {i : Nat} {x : Tng} (M : Tpt s i x)
include M
theorem Tpt.thIs (k : Nat) : thAt (tputS s i x).th k = if k = i then x else thAt s.th k := thAt_set M.lt x k
theorem Tpt.tyIs (k : Nat) : (thAt (tputS s i x).th k).ty = (thAt s.th k).ty := by
  rw [M.thIs]
  split
  · rename_i e
    rw [e]
    exact M.ty.symm
  · rfl
theorem Tpt.hasIs (k : Nat) (z : Int) : (thAt (tputS s i x).th k).hasS z = (thAt s.th k).hasS z := by
  rw [M.thIs]
  split
  · rename_i e
    rw [e, hasS_ty M.no, hasS_ty (by rw [M.ty]; exact M.no)]
  · rfl
theorem Tpt.owner (z : Int) : ownerN (tputS s i x).th z = ownerN s.th z := by
  refine Option.ext fun o => ?_
  rw [ownerN_some, ownerN_some, tput_th]
  simp only [M.hasIs]
theorem Tpt.edges : edgesN (tputS s i x).th s.sl = edgesN s.th s.sl := by
  have : edgeOf (tputS s i x).th s.sl = edgeOf s.th s.sl := funext fun k => by rw [edgeOf, edgeOf, M.owner]
  rw [edgesN, edgesN, this]
theorem Tpt.ring (a : Nat) : ringN (tputS s i x) a = ringN s a := by
  have h : ∀ b, underN (tputS s i x) b = underN s b := fun b => by
    rw [underN, underN, tput_th]
    show krounds (edgesN (tputS s i x).th s.sl) _ _ = _
    rw [M.edges]
  rw [ringN, ringN]
  show (edgesN (tputS s i x).th s.sl).any _ = _
  rw [M.edges]
  simp only [h]
theorem Tpt.gst (G : Gst s) : Gst (tputS s i x) := by
  refine ⟨?_, fun j hj => ?_, fun t ht => ?_, fun j hj => ?_, G.k5, fun j hj => G.k6 j hj, fun j hj => ?_⟩
  · have := G.k1
    rw [St.k1] at this ⊢
    rw [tput_th]
    exact this
  · rw [tput_th] at hj
    have hk := G.k2 j hj
    have hm : ∀ (t u : Tng), t.ty ≠ 2 → t.meets u = false ∧ u.meets t = false := fun t u ht => by
      constructor <;> rw [Bool.eq_false_iff] <;> intro q <;> simp only [Tng.meets, Bool.and_eq_true, beq_iff_eq, decide_eq_true_eq] at q
      · exact ht q.1
      · exact ht q.2.1
    simp only [St.k2, Bool.and_eq_true] at hk ⊢
    obtain ⟨h1, h2, h3, h4⟩ := hk
    rw [M.thIs]
    by_cases e : j = i
    · rw [if_pos e]
      refine ⟨M.good, ?_, ?_, M.frm⟩
      · rw [St.fits2, beq_eq_false_iff_ne.2 M.no]; rfl
      · rw [List.all_eq_true]
        exact fun k _ => by rw [(hm x _ M.no).1]; rfl
    · rw [if_neg e]
      refine ⟨h1, h2, ?_, h4⟩
      rw [List.all_eq_true] at h3 ⊢
      intro k hk
      rw [M.thIs]
      split
      · rw [(hm x _ M.no).2]; rfl
      · exact h3 k hk
  · have h3 := G.k3 t ht
    rw [St.k3] at h3 ⊢
    rw [M.thIs, if_neg]
    · exact h3
    · intro e
      have := M.ty
      rw [← e, Tng.eq_iff.1 h3] at this
      exact M.no this.symm
  · have hk := G.k4 j hj
    rw [St.k4, Bool.and_eq_true] at hk ⊢
    refine ⟨hk.1, ?_⟩
    have h2 := hk.2
    change (if (slAt s.sl j).c.ty = 0 then (slAt s.sl j).up == -1 else (tputS s i x).thing4 (slAt s.sl j).c && (ownerN (tputS s i x).th j).isSome) = true
    split
    · rename_i e
      rw [if_pos e] at h2
      exact h2
    · rename_i e
      rw [if_neg e, Bool.and_eq_true] at h2
      rw [Bool.and_eq_true, M.owner]
      refine ⟨?_, h2.2⟩
      have h5 := h2.1
      rw [St.thing4] at h5 ⊢
      rw [tput_th, M.tyIs]
      exact h5
  · rw [tput_th] at hj
    have hk := G.k7 j hj
    rw [St.k7] at hk ⊢
    rw [M.tyIs, M.ring]
    exact hk
theorem Tpt.fol : ∀ (l : List Int) (n : Nat), ffol (tputS s i x) n l = ffol s n l := by
  have hb : ∀ n, (thAt (tputS s i x).th n).bits = (thAt s.th n).bits ∧ (thAt (tputS s i x).th n).base = (thAt s.th n).base := fun n => by
    rw [M.thIs]
    split
    · rename_i e
      rw [e]
      exact ⟨M.bits.symm, M.base.symm⟩
    · exact ⟨rfl, rfl⟩
  have h1 : ∀ n, szN (tputS s i x) n = szN s n := fun n => by rw [szN, szN, (hb n).1]
  have h2 : ∀ n, bsN (tputS s i x) n = bsN s n := fun n => by rw [bsN, bsN, (hb n).2]
  have h3 : ∀ k, leadsB (tputS s i x) k = leadsB s k := fun _ => rfl
  have h4 : ∀ k, nodeOf (tputS s i x) k = nodeOf s k := fun _ => rfl
  intro l
  induction l with
  | nil => intro n; rfl
  | cons y l ih =>
    intro n
    cases l with
    | nil => rw [ffol, ffol, h1, h2]
    | cons z l => rw [ffol, ffol, h1, h2, h3, h4, ih]
theorem Tpt.slot (G : Gst s) (t : Int) (l : List Int) : fslot (tputS s i x) t l = fslot s t l := by
  have h : fthread (tputS s i x) t = fthread s t := by
    rw [fthread, fthread, sgood_iff.2 G, sgood_iff.2 (M.gst G)]
    rfl
  rw [fslot, fslot, h, fwhere, fwhere, M.fol]
theorem Tpt.cap (G : Gst s) (t : Int) (l : List Int) : fcap (tputS s i x) t l = fcap s t l := by
  rw [fcap, fcap, M.slot G]
  rfl
theorem Tpt.empty (G : Gst s) (t : Int) (l : List Int) : fempty (tputS s i x) t l = fempty s t l := by
  rw [fempty, fempty, M.slot G]
  rfl
theorem Tpt.at : thAt (tputS s i x).th i = x := by rw [M.thIs, if_pos rfl]
end
theorem tput_back {s : St} {i : Nat} {x : Tng} (h : i < s.th.length) : tputS (tputS s i x) i (thAt s.th i) = s := by
  have : (s.th.set i x).set i (thAt s.th i) = s.th := by
    rw [List.set_set]
    refine List.ext_getElem? fun k => ?_
    rw [List.getElem?_set]
    split
    · rename_i e
      subst e
      rw [thAt_get h]
    · rfl
  rw [tputS, tputS, this]

/-! ### mail -/
def mbit (k : Cp) (o : Int) : Bool := if o = 7 then decide (k.ri / 2 % 2 = 1) else decide (k.ri % 2 = 1)
def mmay (k : Cp) (o : Int) : Int := if k.ty = 3 then (if mbit k o = true then 0 else 6) else 7
def mbox (w : Nat) (ba fr : Int) : Tng := ⟨3, 0, 0, 0, 0, fr, ba, true, w, 0, 0, 0, 0⟩
def mfrom (s : St) (t : Int) (c : Cl) (k : Cp) : Int × Int :=
  if c.b = [] then (0, 0) else if k.ri / 4 % 2 = 1 then (if (fcap s t c.b).2.2 = 0 then (if (fcap s t c.b).2.1.ty = 1 then (0, 7) else ((fcap s t c.b).1 + 1, 0)) else (0, (fcap s t c.b).2.2)) else (0, 6)
def msend (s : St) (t : Int) (c : Cl) (k : Cp) : Option St × Rep :=
  if (mfrom s t c k).2 = 0 then (if (thAt s.th k.th.toNat).full = true then (none, ⟨13, 0, 0⟩) else (some (tputS s k.th.toNat (mbox c.w k.ba (mfrom s t c k).1)), ⟨0, 0, 0⟩)) else (none, ⟨(mfrom s t c k).2, 0, 0⟩)
def mhand (s : St) (t : Int) (c : Cl) (fr : Int) : Option St × Int :=
  if fr = 0 ∨ c.b = [] then (none, 0) else if (fempty s t c.b).2 = 0 then gput s (fr - 1) (fempty s t c.b).1 (slAt s.sl (fr - 1).toNat).c else (none, (fempty s t c.b).2)
def mrecv (s : St) (t : Int) (c : Cl) (i : Nat) : Option St × Rep :=
  if (thAt s.th i).full = true then (if (mhand s t c (thAt s.th i).frm).2 = 0 then (some (tputS ((mhand s t c (thAt s.th i).frm).1.getD s) i (Tng.of 3)), ⟨0, (thAt s.th i).word, (thAt s.th i).badge⟩) else (none, ⟨(mhand s t c (thAt s.th i).frm).2, 0, 0⟩)) else (none, ⟨14, 0, 0⟩)
def mdo (s : St) (t : Int) (c : Cl) : Option St × Rep :=
  if (c.op = 7 ∨ c.op = 8) ∧ cgood c = true then
    (if (fcap s t c.a).2.2 = 0 then
      (if mmay (fcap s t c.a).2.1 c.op = 0 then (if c.op = 7 then msend s t c (fcap s t c.a).2.1 else mrecv s t c (fcap s t c.a).2.1.th.toNat) else (none, ⟨mmay (fcap s t c.a).2.1 c.op, 0, 0⟩))
    else (none, ⟨(fcap s t c.a).2.2, 0, 0⟩))
  else (none, ⟨1, 0, 0⟩)
theorem mmay_zero {k : Cp} {o : Int} (h : mmay k o = 0) : k.ty = 3 ∧ mbit k o = true := by
  unfold mmay at h
  split at h
  · rename_i h1
    split at h
    · rename_i h2
      exact ⟨h1, h2⟩
    · cases h
  · cases h
/-- whose capability is a mail's -/
structure Mbx (s : St) (t : Int) (l : List Int) (k : Cp) (f i : Nat) : Prop where
  cap : fcap s t l = ((f : Int), k, 0)
  gst : Gst s
  slot : f < s.sl.length
  is : (slAt s.sl f).c = k
  ty : k.ty = 3
  ri : 0 ≤ k.ri ∧ k.ri ≤ 7
  ba : 0 ≤ k.ba ∧ k.ba ≤ 65535
  th : k.th = (i : Int)
  lt : i < s.th.length
  thty : (thAt s.th i).ty = 3
theorem mbx_of {s : St} {t x : Int} {l : List Int} {k : Cp} (h : fcap s t l = (x, k, 0)) (h3 : k.ty = 3) : ∃ f i : Nat, x = f ∧ k.th.toNat = i ∧ Mbx s t l k f i := by
  obtain ⟨f, rfl, hf, hg, hc, hn⟩ := fcap_yes h
  have G := sgood_iff.1 hg
  have F := G.fsl hf (by rw [hc, h3]; decide)
  have h4 := G.cgood hf
  have e : thOf s f = k.th.toNat := by rw [thOf, hc]
  rw [hc] at h4
  have hb : 0 ≤ k.ri ∧ k.ri ≤ 7 ∧ 0 ≤ k.ba ∧ k.ba ≤ 65535 ∧ 0 ≤ k.th := by
    obtain ⟨k1, k2, k3, k4⟩ := k
    simp only at h3
    rcases good_iff_all.1 h4 with h5 | h5
    · omega
    · simp only; omega
  refine ⟨f, k.th.toNat, rfl, rfl, h, G, hf, hc, h3, ⟨hb.1, hb.2.1⟩, ⟨hb.2.2.1, hb.2.2.2.1⟩, by omega, by rw [← e]; exact F.th, ?_⟩
  rw [← e, F.thty, hc, h3]
theorem mail_thing {t : Tng} (h : t.good = true) (h3 : t.ty = 3) : t.bits = 0 ∧ t.base = 0 ∧ 0 ≤ t.badge ∧ t.badge ≤ 65535 ∧ 0 ≤ t.frm ∧ t.frm ≤ 96 ∧ (t.full = false → t = Tng.of 3) := by
  have hc := tng_good.1 h
  cases hc <;> simp only [Tng.of] at h3 <;> try omega
  · exact ⟨rfl, rfl, by decide, by decide, by decide, by decide, fun _ => rfl⟩
  · rename_i w b f g1 g2 g3 g4
    exact ⟨rfl, rfl, g1, g2, g3, g4, fun e => by cases e⟩
theorem Gst.tgood {s : St} (G : Gst s) {i : Nat} (hi : i < s.th.length) : (thAt s.th i).good = true := by
  have := G.k2 i hi
  rw [St.k2, Bool.and_eq_true] at this
  exact this.1
theorem Gst.tfrom {s : St} (G : Gst s) {i : Nat} (hi : i < s.th.length) : s.from2 (thAt s.th i) = true := by
  have := G.k2 i hi
  simp only [St.k2, Bool.and_eq_true] at this
  exact this.2.2.2
theorem from2_iff {s : St} {t : Tng} (G : Gst s) : s.from2 t = true ↔ (0 < t.frm → (t.frm - 1).toNat < s.sl.length ∧ (slAt s.sl (t.frm - 1).toNat).c.non = false) := by
  have hl := G.lens.1
  rw [St.from2, Bool.not_eq_true', Bool.and_eq_false_iff, Bool.or_eq_false_iff, decide_eq_false_iff_not, decide_eq_false_iff_not]
  constructor
  · rintro (h | ⟨h1, h2⟩) h0
    · exact absurd h0 h
    · exact ⟨by omega, h2⟩
  · intro h
    by_cases h0 : 0 < t.frm
    · exact .inr ⟨by have := (h h0).1; omega, (h h0).2⟩
    · exact .inl h0
section
variable {s : St} {t : Int} {l : List Int} {k : Cp} {f i : Nat} (B : Mbx s t l k f i)
include B
theorem Mbx.tpt {x : Tng} (h3 : x.ty = 3) (hb : x.bits = 0) (hs : x.base = 0) (hg : x.good = true) (hf : s.from2 x = true) : Tpt s i x := by
  have h := mail_thing (B.gst.tgood B.lt) B.thty
  exact ⟨B.lt, by rw [B.thty, h3], by rw [h3]; decide, by rw [h3]; decide, by rw [h.1, hb], by rw [h.2.1, hs], hg, hf⟩
theorem Mbx.empt : Tpt s i (Tng.of 3) := B.tpt rfl rfl rfl (tng_good.2 .mail) rfl
theorem Mbx.fullt {w : Nat} {fr : Int} (h0 : 0 ≤ fr) (h : 0 < fr → (fr - 1).toNat < s.sl.length ∧ (slAt s.sl (fr - 1).toNat).c.non = false) : Tpt s i (mbox w k.ba fr) := by
  have hl := B.gst.few.1
  refine B.tpt rfl rfl rfl (tng_good.2 (.full w k.ba fr B.ba.1 B.ba.2 h0 ?_)) ((from2_iff B.gst).2 h)
  by_cases q : 0 < fr
  · have := (h q).1
    omega
  · omega
end
theorem Gst.posm {s : St} (G : Gst s) : 0 < s.sl.length ∧ 0 < s.th.length := by
  have h := Gd.ok_iff.1 G.ok
  have e := G.lens
  omega
theorem mfrom_ok {s : St} {t : Int} {c : Cl} {k : Cp} {fr : Int} (G : Gst s) (h : mfrom s t c k = (fr, 0)) : 0 ≤ fr ∧ (0 < fr → (fr - 1).toNat < s.sl.length ∧ (slAt s.sl (fr - 1).toNat).c.non = false ∧ (slAt s.sl (fr - 1).toNat).c.ty ≠ 1) ∧ (c.b ≠ [] → 0 < fr ∧ k.ri / 4 % 2 = 1) ∧ (c.b = [] → fr = 0) := by
  unfold mfrom at h
  split at h
  · rename_i hb
    injection h with h
    subst h
    exact ⟨by decide, fun e => absurd e (by decide), fun e => absurd hb e, fun _ => rfl⟩
  · rename_i hb
    split at h
    · rename_i hr
      split at h
      · rename_i he
        split at h
        · injection h with _ h
          cases h
        · rename_i h1
          injection h with h
          subst h
          obtain ⟨j, e1, hj, -, hc, hn⟩ := fcap_yes (s := s) (t := t) (l := c.b) (x := (fcap s t c.b).1) (cp := (fcap s t c.b).2.1) (Prod.ext rfl (Prod.ext rfl he))
          rw [e1]
          have e2 : ((j : Int) + 1 - 1).toNat = j := by omega
          rw [e2, hc]
          exact ⟨by omega, fun _ => ⟨hj, hn, h1⟩, fun _ => ⟨by omega, hr⟩, fun e => absurd e hb⟩
      · rename_i he
        injection h with _ h
        exact absurd h he
    · injection h with _ h
      cases h
theorem gput_some {s s' : St} {f t : Int} {c : Cp} {e : Int} (h : gput s f t c = (some s', e)) : e = 0 ∧ ∃ F T : Nat, f = F ∧ t = T ∧ Gst s ∧ Pts s F T c ∧ s' = gputS s F T c := by
  unfold gput at h
  split at h
  · rename_i h0
    obtain ⟨F, T, e1, e2, G, P⟩ := gmay_zero h0
    injection h with h1 h2
    injection h1 with h1
    subst e1 e2
    rw [Int.toNat_natCast, Int.toNat_natCast] at h1
    exact ⟨h2.symm, F, T, rfl, rfl, G, P, h1.symm⟩
  · injection h with h1
    cases h1
theorem gput_none {s : St} {f t : Int} {c : Cp} {e : Int} (h : gput s f t c = (none, e)) : e ≠ 0 := by
  unfold gput at h
  split at h
  · injection h with h1
    cases h1
  · rename_i h0
    injection h with _ h1
    rw [← h1]
    exact h0
/-- what is handed on: nothing, or what stands in a slot of the state -/
theorem mhand_ok {s : St} {t : Int} {c : Cl} {fr : Int} {r : Option St} (h : mhand s t c fr = (r, 0)) : (r = none ∧ (fr = 0 ∨ c.b = [])) ∨ ∃ F T : Nat, fr = F + 1 ∧ Gst s ∧ Pts s F T (slAt s.sl F).c ∧ r = some (gputS s F T (slAt s.sl F).c) ∧ c.b ≠ [] := by
  unfold mhand at h
  split at h
  · rename_i h0
    injection h with h1
    exact .inl ⟨h1.symm, h0⟩
  · rename_i h0
    split at h
    · rcases r with _ | s'
      · exact absurd rfl (gput_none h)
      · obtain ⟨-, F, T, e1, -, G, P, rfl⟩ := gput_some h
        have e2 : (fr - 1).toNat = F := by omega
        rw [e2] at P ⊢
        exact .inr ⟨F, T, by omega, G, P, rfl, fun e => h0 (.inr e)⟩
    · rename_i h1
      injection h with _ h2
      exact absurd h2 h1
theorem mhand_th {s : St} {t : Int} {c : Cl} {fr : Int} : ((mhand s t c fr).1.getD s).th = s.th ∧ ((mhand s t c fr).1.getD s).g = s.g ∧ ((mhand s t c fr).1.getD s).sl.length = s.sl.length := by
  unfold mhand
  split
  · exact ⟨rfl, rfl, rfl⟩
  · split
    · unfold gput
      split
      · exact ⟨rfl, rfl, List.length_set⟩
      · exact ⟨rfl, rfl, rfl⟩
    · exact ⟨rfl, rfl, rfl⟩
/-- what a call that went well has done -/
theorem mdo_some {s s' : St} {t : Int} {c : Cl} {q : Rep} (h : mdo s t c = (some s', q)) : cgood c = true ∧ q.err = 0 ∧ ∃ k f i, Mbx s t c.a k f i ∧ mbit k c.op = true ∧
    ((c.op = 7 ∧ ∃ fr, mfrom s t c k = (fr, 0) ∧ (thAt s.th i).full = false ∧ s' = tputS s i (mbox c.w k.ba fr) ∧ q = ⟨0, 0, 0⟩) ∨
     (c.op = 8 ∧ (thAt s.th i).full = true ∧ ∃ r, mhand s t c (thAt s.th i).frm = (r, 0) ∧ s' = tputS (r.getD s) i (Tng.of 3) ∧ q = ⟨0, (thAt s.th i).word, (thAt s.th i).badge⟩)) := by
  unfold mdo at h
  split at h
  · rename_i hop
    split at h
    · rename_i he
      split at h
      · rename_i hm
        obtain ⟨h3, hb⟩ := mmay_zero hm
        obtain ⟨f, i, -, ei, B⟩ := mbx_of (s := s) (t := t) (l := c.a) (x := (fcap s t c.a).1) (k := (fcap s t c.a).2.1) (Prod.ext rfl (Prod.ext rfl he)) h3
        rw [ei] at h
        split at h
        · rename_i h7
          unfold msend at h
          rw [ei] at h
          split at h
          · rename_i hf
            split at h
            · injection h with h1
              cases h1
            · rename_i hfu
              injection h with h1 h2
              injection h1 with h1
              exact ⟨hop.2, by rw [← h2], _, f, i, B, hb, .inl ⟨h7, _, Prod.ext rfl hf, by simpa using hfu, h1.symm, h2.symm⟩⟩
          · injection h with h1
            cases h1
        · rename_i h7
          unfold mrecv at h
          split at h
          · rename_i hfu
            split at h
            · rename_i hh
              injection h with h1 h2
              injection h1 with h1
              exact ⟨hop.2, by rw [← h2], _, f, i, B, hb, .inr ⟨hop.1.resolve_left h7, hfu, _, Prod.ext rfl hh, h1.symm, h2.symm⟩⟩
            · injection h with h1
              cases h1
          · injection h with h1
            cases h1
      · injection h with h1
        cases h1
    · injection h with h1
      cases h1
  · injection h with h1
    cases h1
theorem Pts.mbx {s : St} {t : Int} {l : List Int} {k : Cp} {f i F T : Nat} {c : Cp} (B : Mbx s t l k f i) (P : Pts s F T c) : Tpt (gputS s F T c) i (Tng.of 3) := by
  have M := B.empt
  exact ⟨M.lt, M.ty, M.no, M.z0, M.bits, M.base, M.good, rfl⟩
theorem mdo_good {s s' : St} {t : Int} {c : Cl} {q : Rep} (h : mdo s t c = (some s', q)) : Gst s ∧ Gst s' ∧ s'.g = s.g ∧ s'.sl.length = s.sl.length ∧ s'.th.length = s.th.length := by
  obtain ⟨-, -, k, f, i, B, -, ⟨-, fr, h1, -, rfl, -⟩ | ⟨-, -, r, h1, rfl, -⟩⟩ := mdo_some h
  · have hf := mfrom_ok B.gst h1
    exact ⟨B.gst, (B.fullt hf.1 fun e => ⟨(hf.2.1 e).1, (hf.2.1 e).2.1⟩).gst B.gst, rfl, rfl, tput_th⟩
  · rcases mhand_ok h1 with ⟨rfl, -⟩ | ⟨F, T, -, G, P, rfl, -⟩
    · exact ⟨B.gst, B.empt.gst B.gst, rfl, rfl, tput_th⟩
    · exact ⟨B.gst, (P.mbx B).gst (P.gst G), rfl, List.length_set, tput_th⟩
end Go.Proofs.YtkpbfbmkolgmgaaGreat
