/-
  What is asked, as plain data: a call, the form of each number that may be asked, its words, its text. No condition.
-/
import Derived.Test.YtfcifheejjppfaaDoorHa
namespace Go.Proofs.YtfcifheejjppfaaDoor
open Go.RowKit

/-- what is asked -/
structure Cl where
  op : Int
  a : List Int
  b : List Int
  x : Int
  y : Int
  w : Nat
def Cl.eq (c d : Cl) : Bool := decide (c.op = d.op) && (decide (c.a = d.a) && (decide (c.b = d.b) && (decide (c.x = d.x) && (decide (c.y = d.y) && decide (c.w = d.w)))))
theorem Cl.eq_iff {c d : Cl} : c.eq d = true ↔ c = d := by
  cases c
  cases d
  simp [Cl.eq]
def Cl.zero : Cl := ⟨0, [], [], 0, 0, 0⟩
/-- the form of what may be asked: its word; of the second way how many steps, of the numbers from where to where; whether it has a word -/
structure Fm where
  s : List UInt8
  bl : Nat
  bm : Nat
  xl : Nat
  xm : Nat
  yl : Nat
  ym : Nat
  w : Bool
def forms : Nat → Fm
  | 1 => ⟨[109, 97, 107, 101], 1, 3, 1, 5, 0, 4096, false⟩
  | 2 => ⟨[99, 111, 112, 121], 1, 3, 0, 7, 0, 0, false⟩
  | 3 => ⟨[109, 105, 110, 116], 1, 3, 0, 7, 1, 65535, false⟩
  | 4 => ⟨[109, 111, 118, 101], 1, 3, 0, 0, 0, 0, false⟩
  | 5 => ⟨[100, 101, 108, 101, 116, 101], 0, 0, 0, 0, 0, 0, false⟩
  | 6 => ⟨[114, 101, 118, 111, 107, 101], 0, 0, 0, 0, 0, 0, false⟩
  | 7 => ⟨[115, 101, 110, 100], 0, 3, 0, 0, 0, 0, true⟩
  | 8 => ⟨[114, 101, 99, 118], 0, 3, 0, 0, 0, 0, false⟩
  | 9 => ⟨[114, 105, 110, 103], 0, 0, 0, 0, 0, 0, false⟩
  | 10 => ⟨[112, 111, 108, 108], 0, 0, 0, 0, 0, 0, false⟩
  | 11 => ⟨[119, 114, 105, 116, 101], 0, 0, 0, 3, 0, 0, true⟩
  | 12 => ⟨[114, 101, 97, 100], 0, 0, 0, 3, 0, 0, false⟩
  | _ => ⟨[116, 101, 108, 108], 0, 0, 0, 0, 0, 0, false⟩
def fmOf (op : Int) : Option Fm := if 1 ≤ op ∧ op ≤ 13 then some (forms op.toNat) else none
def inSpan (l m : Nat) (x : Int) : Bool := decide ((l : Int) ≤ x) && decide (x ≤ (m : Int))
def fits (f : Fm) (c : Cl) : Bool := inSpan f.bl f.bm c.b.length && ((decide (c.b.length = 0) || pgood c.b) && (inSpan f.xl f.xm c.x && (inSpan f.yl f.ym c.y && (f.w || decide (c.w = 0)))))
/-- may it be? -/
def cgood (c : Cl) : Bool := match fmOf c.op with | none => false | some f => pgood c.a && fits f c
/-- the word of a way that may have no steps -/
def bword (l : List Int) : Nat := if pgood l = true then pword l else 0
/-- its words -/
def cwords (c : Cl) : List Nat := if cgood c = true then [c.op.toNat + 256 * c.x.toNat + 16777216 * c.y.toNat, pword c.a, bword c.b, c.w] else []
/-- what four words tell -/
def clOf (l0 l1 l2 l3 : Nat) : Cl := ⟨(l0 % 256 : Nat), (pget l1).getD [], (pget l2).getD [], (l0 / 256 % 65536 : Nat), (l0 / 16777216 % 65536 : Nat), l3⟩
def cget : List Nat → Option Cl
  | [l0, l1, l2, l3] => if cwords (clOf l0 l1 l2 l3) = [l0, l1, l2, l3] then some (clOf l0 l1 l2 l3) else none
  | _ => none

theorem inSpan_iff {l m : Nat} {x : Int} : inSpan l m x = true ↔ (l : Int) ≤ x ∧ x ≤ m := by simp [inSpan]
theorem forms_le : ∀ k < 14, (forms k).xm ≤ 7 ∧ (forms k).ym ≤ 65535 ∧ (forms k).bm ≤ 3 := by decide +kernel
theorem fm_some {op : Int} {f : Fm} (h : fmOf op = some f) : ∃ k : Nat, op = k ∧ 1 ≤ k ∧ k ≤ 13 ∧ f = forms k := by
  unfold fmOf at h
  by_cases hc : 1 ≤ op ∧ op ≤ 13
  · rw [if_pos hc] at h
    injection h with h
    exact ⟨op.toNat, by omega, by omega, by omega, h.symm⟩
  · rw [if_neg hc] at h
    cases h
theorem fm_at {k : Nat} (h1 : 1 ≤ k) (h2 : k ≤ 13) : fmOf (k : Int) = some (forms k) := by
  rw [fmOf, if_pos (by omega)]
  simp
/-- what may be asked, spelt out -/
theorem cgood_some {c : Cl} (h : cgood c = true) : ∃ k : Nat, c.op = k ∧ 1 ≤ k ∧ k ≤ 13 ∧ fmOf c.op = some (forms k) ∧ pgood c.a = true ∧ fits (forms k) c = true := by
  unfold cgood at h
  cases hf : fmOf c.op with
  | none => simp [hf] at h
  | some f =>
    obtain ⟨k, h1, h2, h3, rfl⟩ := fm_some hf
    simp [hf] at h
    exact ⟨k, h1, h2, h3, rfl, h.1, h.2⟩
structure Fit (k : Nat) (c : Cl) : Prop where
  b : (forms k).bl ≤ c.b.length ∧ c.b.length ≤ (forms k).bm
  bg : c.b = [] ∨ pgood c.b = true
  x : ((forms k).xl : Int) ≤ c.x ∧ c.x ≤ (forms k).xm
  y : ((forms k).yl : Int) ≤ c.y ∧ c.y ≤ (forms k).ym
  w : (forms k).w = true ∨ c.w = 0
theorem fits_fit {k : Nat} {c : Cl} (h : fits (forms k) c = true) : Fit k c := by
  simp only [fits, Bool.and_eq_true, Bool.or_eq_true, decide_eq_true_eq, inSpan_iff] at h
  obtain ⟨h1, h2, h3, h4, h5⟩ := h
  refine ⟨by omega, ?_, h3, h4, h5⟩
  rcases h2 with h2 | h2
  · exact Or.inl (List.eq_nil_of_length_eq_zero h2)
  · exact Or.inr h2
theorem pgood_nil : pgood [] = false := by decide
theorem pget_zero : pget 0 = none := by decide +kernel
theorem bword_nil : bword [] = 0 := by rw [bword, pgood_nil]; rfl
theorem bget {l : List Int} (h : l = [] ∨ pgood l = true) : (pget (bword l)).getD [] = l := by
  rcases h with rfl | h
  · rw [bword_nil, pget_zero]; rfl
  · rw [bword, if_pos h, pget_pword h]; rfl
theorem first_word {o x y : Nat} (ho : o < 256) (hx : x < 65536) (hy : y < 65536) :
    (o + 256 * x + 16777216 * y) % 256 = o ∧ (o + 256 * x + 16777216 * y) / 256 % 65536 = x ∧ (o + 256 * x + 16777216 * y) / 16777216 % 65536 = y := by omega
/-- the words of a call are read as it -/
theorem cget_cwords {c : Cl} (h : cgood c = true) : cget (cwords c) = some c := by
  obtain ⟨k, hk, h1, h2, -, ha, hf⟩ := cgood_some h
  have F := fits_fit hf
  have hl := forms_le k (by omega)
  obtain ⟨X, hX⟩ : ∃ X : Nat, c.x = X := ⟨c.x.toNat, by have := F.x; omega⟩
  obtain ⟨Y, hY⟩ : ∃ Y : Nat, c.y = Y := ⟨c.y.toNat, by have := F.y; omega⟩
  have e : cwords c = [k + 256 * X + 16777216 * Y, pword c.a, bword c.b, c.w] := by rw [cwords, if_pos h, hk, hX, hY]; rfl
  have hw := first_word (o := k) (x := X) (y := Y) (by omega) (by have := F.x; omega) (by have := F.y; omega)
  have hc : clOf (k + 256 * X + 16777216 * Y) (pword c.a) (bword c.b) c.w = c := by
    unfold clOf
    rw [hw.1, hw.2.1, hw.2.2, pget_pword ha, bget F.bg, ← hk, ← hX, ← hY]
    rfl
  rw [e, cget, hc, if_pos e]
theorem cwords_inj {c d : Cl} (hc : cgood c = true) (hd : cgood d = true) (h : cwords c = cwords d) : c = d := by
  have h1 := cget_cwords hc
  rw [h, cget_cwords hd] at h1
  injection h1 with h1
  exact h1.symm
theorem cwords_iff {c d : Cl} (hc : cgood c = true) (hd : cgood d = true) : decide (cwords c = cwords d) = c.eq d := by
  by_cases h : c = d
  · rw [Cl.eq_iff.2 h, h]; simp
  · rw [decide_eq_false fun e => h (cwords_inj hc hd e)]
    cases hq : c.eq d
    · rfl
    · exact absurd (Cl.eq_iff.1 hq) h
theorem cget_some {l : List Nat} {c : Cl} (h : cget l = some c) : cgood c = true ∧ cwords c = l := by
  match l, h with
  | [l0, l1, l2, l3], h =>
    have e : cget [l0, l1, l2, l3] = if cwords (clOf l0 l1 l2 l3) = [l0, l1, l2, l3] then some (clOf l0 l1 l2 l3) else none := rfl
    rw [e] at h
    by_cases hw : cwords (clOf l0 l1 l2 l3) = [l0, l1, l2, l3]
    · rw [if_pos hw] at h
      injection h with h
      subst h
      refine ⟨?_, hw⟩
      by_cases hg : cgood (clOf l0 l1 l2 l3) = true
      · exact hg
      · rw [cwords, if_neg hg] at hw
        cases hw
    · rw [if_neg hw] at h
      cases h

/-- the text of a way that may have no steps -/
def btext (l : List Int) : List UInt8 := if l = [] then [45] else ptext l
/-- the parts of its text -/
def cparts (f : Fm) (c : Cl) : List (List UInt8) :=
  [f.s, ptext c.a] ++ ((if 0 < f.bm then [btext c.b] else []) ++ ((if 0 < f.xm then [Lib.decDigits c.x.toNat] else []) ++ ((if 0 < f.ym then [Lib.decDigits c.y.toNat] else []) ++ (if f.w = true then [Lib.decDigits c.w] else []))))
/-- its text -/
def ctext (c : Cl) : List UInt8 := match fmOf c.op with | none => [] | some f => if cgood c = true then Lib.join (cparts f c) [32] else []

/-- a text, cut at its blanks -/
def cutb : List UInt8 → List (List UInt8)
  | [] => [[]]
  | z :: r => if z = 32 then [] :: cutb r else (z :: (cutb r).headD []) :: (cutb r).tail
theorem cutb_ne (s : List UInt8) : ∃ x r, cutb s = x :: r := by
  cases s with
  | nil => exact ⟨_, _, rfl⟩
  | cons z r => unfold cutb; split <;> exact ⟨_, _, rfl⟩
theorem cutb_plain {x : List UInt8} (h : (32 : UInt8) ∉ x) (s : List UInt8) : cutb (x ++ 32 :: s) = x :: cutb s := by
  induction x with
  | nil => simp [cutb]
  | cons z r ih =>
    have hz : z ≠ 32 := fun e => h (by simp [e])
    rw [List.cons_append, cutb, if_neg hz, ih fun e => h (by simp [e])]
    rfl
theorem cutb_one {x : List UInt8} (h : (32 : UInt8) ∉ x) : cutb x = [x] := by
  induction x with
  | nil => rfl
  | cons z r ih =>
    have hz : z ≠ 32 := fun e => h (by simp [e])
    rw [cutb, if_neg hz, ih fun e => h (by simp [e])]
    rfl
theorem cutb_join : ∀ (r : List (List UInt8)) (x : List UInt8), (∀ y ∈ x :: r, (32 : UInt8) ∉ y) → cutb (Lib.join (x :: r) [32]) = x :: r
  | [], x, h => by
    rw [Lib.join_one]
    exact cutb_one (h x (by simp))
  | y :: r, x, h => by
    have ih := cutb_join r y fun z hz => h z (by simp at hz ⊢; exact Or.inr hz)
    have e : Lib.join (x :: y :: r) [32] = x ++ 32 :: Lib.join (y :: r) [32] := by rw [Lib.join_cons, Lib.join_cons]; simp [Lib.joinTail]
    rw [e, cutb_plain (h x (by simp)), ih]
/-- the number of some digits -/
def dval (l : List UInt8) : Nat := l.foldl (fun v c => 10 * v + (c.toNat - 48)) 0
theorem dval_snoc (l : List UInt8) (c : UInt8) : dval (l ++ [c]) = 10 * dval l + (c.toNat - 48) := by simp [dval]
theorem digit_val : ∀ n < 10, (UInt8.ofNat (48 + n)).toNat - 48 = n ∧ 48 ≤ (UInt8.ofNat (48 + n)).toNat ∧ (UInt8.ofNat (48 + n)).toNat ≤ 57 := by decide +kernel
theorem dval_dec (u : Nat) : dval (Lib.decDigits u) = u := by
  induction u using Nat.strongRecOn with
  | _ u ih =>
    by_cases h : u < 10
    · rw [Lib.decDigits, dif_pos h]
      have := (digit_val u h).1
      simp only [dval, List.foldl_cons, List.foldl_nil]
      omega
    · rw [Lib.decDigits, dif_neg h, dval_snoc, ih (u / 10) (by omega), (digit_val (u % 10) (by omega)).1]
      omega
theorem decd_inj {u v : Nat} (h : Lib.decDigits u = Lib.decDigits v) : u = v := by rw [← dval_dec u, h, dval_dec]
theorem decd_in (u : Nat) : ∀ c ∈ Lib.decDigits u, 48 ≤ c.toNat ∧ c.toNat ≤ 57 := by
  induction u using Nat.strongRecOn with
  | _ u ih =>
    intro c hc
    by_cases h : u < 10
    · rw [Lib.decDigits, dif_pos h] at hc
      simp only [List.mem_singleton] at hc
      subst hc
      exact (digit_val u h).2
    · rw [Lib.decDigits, dif_neg h] at hc
      simp only [List.mem_append, List.mem_singleton] at hc
      rcases hc with hc | rfl
      · exact ih (u / 10) (by omega) c hc
      · exact (digit_val (u % 10) (by omega)).2
theorem decd_plain (u : Nat) : (32 : UInt8) ∉ Lib.decDigits u := fun h => by have := (decd_in u 32 h).1; simp at this
theorem decn_plain : ∀ n < 16, (32 : UInt8) ∉ pdec n := by decide +kernel
theorem joint_plain : ∀ (r : List Int), (∀ z ∈ r, 0 ≤ z ∧ z ≤ 15) → (32 : UInt8) ∉ Lib.joinTail [46] (r.map fun z => pdec z.toNat)
  | [], _ => by simp [Lib.joinTail]
  | z :: r, h => by
    have ih := joint_plain r fun y hy => h y (by simp [hy])
    have hz := h z (by simp)
    have hd := decn_plain z.toNat (by omega)
    have e : Lib.joinTail [46] ((z :: r).map fun z => pdec z.toNat) = 46 :: (pdec z.toNat ++ Lib.joinTail [46] (r.map fun z => pdec z.toNat)) := by simp [Lib.joinTail]
    rw [e]
    simp only [List.mem_cons, List.mem_append, not_or]
    exact ⟨by decide, hd, ih⟩
theorem ptext_plain {l : List Int} (h : pgood l = true) : (32 : UInt8) ∉ ptext l := by
  match l, h with
  | [], h => exact absurd h (by decide)
  | z :: r, h =>
    have hs := (pgood_iff.1 h).2.2
    rw [ptext_cons h]
    simp only [List.mem_append, not_or]
    exact ⟨decn_plain z.toNat (by have := hs z (by simp); omega), joint_plain r fun y hy => hs y (by simp [hy])⟩
theorem ptext_inj {l m : List Int} (hl : pgood l = true) (hm : pgood m = true) (h : ptext l = ptext m) : l = m := by
  have h1 := pparse_ptext hl
  rw [h, pparse_ptext hm] at h1
  injection h1 with h1
  exact h1.symm
theorem dash_none : pparse [45] = none := by decide +kernel
theorem btext_plain {l : List Int} (h : l = [] ∨ pgood l = true) : (32 : UInt8) ∉ btext l := by
  unfold btext
  split
  · decide
  · exact ptext_plain (h.resolve_left (by assumption))
theorem btext_inj {l m : List Int} (hl : l = [] ∨ pgood l = true) (hm : m = [] ∨ pgood m = true) (h : btext l = btext m) : l = m := by
  unfold btext at h
  split at h <;> split at h
  · simp_all
  · rename_i h1 h2
    have := pparse_ptext (hm.resolve_left h2)
    rw [← h, dash_none] at this
    cases this
  · rename_i h1 h2
    have := pparse_ptext (hl.resolve_left h1)
    rw [h, dash_none] at this
    cases this
  · rename_i h1 h2
    exact ptext_inj (hl.resolve_left h1) (hm.resolve_left h2) h
theorem forms_plain : ∀ k < 14, (32 : UInt8) ∉ (forms k).s := by decide +kernel
theorem forms_inj : ∀ k < 14, ∀ j < 14, 1 ≤ k → 1 ≤ j → (forms k).s = (forms j).s → k = j := by decide +kernel
theorem cparts_plain {k : Nat} {c : Cl} (hk : k < 14) (ha : pgood c.a = true) (F : Fit k c) : ∀ y ∈ cparts (forms k) c, (32 : UInt8) ∉ y := by
  intro y hy
  have h1 := btext_plain F.bg
  have h2 := decd_plain c.x.toNat
  have h3 := decd_plain c.y.toNat
  have h4 := decd_plain c.w
  simp only [cparts, List.mem_append, List.mem_cons, List.not_mem_nil, or_false] at hy
  rcases hy with (rfl | rfl) | hy | hy | hy | hy
  · exact forms_plain k hk
  · exact ptext_plain ha
  all_goals
    split at hy
    · simp only [List.mem_singleton] at hy
      subst hy
      assumption
    · cases hy
theorem cparts_cons (f : Fm) (c : Cl) : ∃ r, cparts f c = f.s :: r := ⟨_, rfl⟩
/-- calls that may be, of the same text, are the same -/
theorem ctext_inj {c d : Cl} (hc : cgood c = true) (hd : cgood d = true) (h : ctext c = ctext d) : c = d := by
  obtain ⟨k, ck, k1, k2, cf, ca, cF⟩ := cgood_some hc
  obtain ⟨j, dj, j1, j2, df, da, dF⟩ := cgood_some hd
  have CF := fits_fit cF
  have DF := fits_fit dF
  rw [ctext, ctext, cf, df] at h
  simp only [if_pos hc, if_pos hd] at h
  have hp : cparts (forms k) c = cparts (forms j) d := by
    obtain ⟨r, hr⟩ := cparts_cons (forms k) c
    obtain ⟨q, hq⟩ := cparts_cons (forms j) d
    have h1 := cparts_plain (by omega) ca CF
    have h2 := cparts_plain (by omega) da DF
    rw [hr] at h1 h ⊢
    rw [hq] at h2 h ⊢
    rw [← cutb_join r _ h1, h, cutb_join q _ h2]
  have hs : (forms k).s = (forms j).s := by
    have := congrArg List.head? hp
    simpa [cparts] using this
  obtain rfl := forms_inj k (by omega) j (by omega) k1 j1 hs
  have hl := forms_le k (by omega)
  have fb : c.b = d.b := by
    by_cases hb : 0 < (forms k).bm
    · have h2 := congrArg (fun l => l[2]?) hp
      simp only [cparts, if_pos hb] at h2
      simp at h2
      exact btext_inj CF.bg DF.bg h2
    · have h1 : c.b.length = 0 := by have := CF.b; omega
      have h2 : d.b.length = 0 := by have := DF.b; omega
      rw [List.eq_nil_of_length_eq_zero h1, List.eq_nil_of_length_eq_zero h2]
  have fa : c.a = d.a := by
    have h2 := congrArg (fun l => l[1]?) hp
    simp [cparts] at h2
    exact ptext_inj ca da h2
  have tl : (if 0 < (forms k).xm then [Lib.decDigits c.x.toNat] else []) ++ ((if 0 < (forms k).ym then [Lib.decDigits c.y.toNat] else []) ++ (if (forms k).w = true then [Lib.decDigits c.w] else [])) = (if 0 < (forms k).xm then [Lib.decDigits d.x.toNat] else []) ++ ((if 0 < (forms k).ym then [Lib.decDigits d.y.toNat] else []) ++ (if (forms k).w = true then [Lib.decDigits d.w] else [])) := by
    rw [cparts, cparts, fa, fb] at hp
    exact List.append_cancel_left (List.append_cancel_left hp)
  have fx : c.x = d.x := by
    by_cases hb : 0 < (forms k).xm
    · simp only [if_pos hb] at tl
      have h2 := congrArg List.head? tl
      simp at h2
      have := decd_inj h2
      have := CF.x
      have := DF.x
      omega
    · have := CF.x
      have := DF.x
      omega
  rw [fx] at tl
  have tl2 := List.append_cancel_left tl
  have fy : c.y = d.y := by
    by_cases hb : 0 < (forms k).ym
    · simp only [if_pos hb] at tl2
      have h2 := congrArg List.head? tl2
      simp at h2
      have := decd_inj h2
      have := CF.y
      have := DF.y
      omega
    · have := CF.y
      have := DF.y
      omega
  rw [fy] at tl2
  have tl3 := List.append_cancel_left tl2
  have fw : c.w = d.w := by
    by_cases hb : (forms k).w = true
    · simp only [if_pos hb] at tl3
      simp at tl3
      exact decd_inj tl3
    · rw [CF.w.resolve_left hb, DF.w.resolve_left hb]
  cases c
  cases d
  simp_all
theorem ctext_iff {c d : Cl} (hc : cgood c = true) (hd : cgood d = true) : decide (ctext c = ctext d) = c.eq d := by
  by_cases h : c = d
  · rw [Cl.eq_iff.2 h, h]; simp
  · rw [decide_eq_false fun e => h (ctext_inj hc hd e)]
    cases hq : c.eq d
    · rfl
    · exact absurd (Cl.eq_iff.1 hq) h
end Go.Proofs.YtfcifheejjppfaaDoor
