/-
  The reference's CallText whole. Conditions: the ways lie in memory, of at most a million steps.
-/
import Derived.Test.YtfcifheejjppfaaDoorAt
namespace Go.Proofs.YtfcifheejjppfaaDoor
open Go.RowKit

theorem join_mk : ∀ (r : List ByteArray) (a : List UInt8), bar (Lib.join (a :: r.map (·.data.toList)) [32]) = r.foldl (fun u s => u ++ ⟨#[32]⟩ ++ s) (bar a)
  | [], a => by rw [List.map_nil, Lib.join_one]; rfl
  | s :: r, a => by
    rw [List.foldl_cons, show (bar a ++ (⟨#[32]⟩ : ByteArray) ++ s) = bar (a ++ [32] ++ s.data.toList) from ?_, ← join_mk r]
    · rw [List.map_cons, Lib.join_cons, Lib.join_cons]
      congr 1
      simp [Lib.joinTail]
    · apply ByteArray.ext
      simp [bar]
theorem dash_mk (u : ByteArray) : u ++ ⟨#[32, 45]⟩ = u ++ ⟨#[32]⟩ ++ ⟨#[45]⟩ := by
  rw [ByteArray.append_assoc]
  rfl
theorem rctext_at {c : Cl} {v : Value} {t : ByteArray} {w : World} (h : ClAt w v c) (la : c.a.length ≤ 1000000) (lb : c.b.length ≤ 1000000) (hw : c.w < 18446744073709551616) (ht : bar (ctext c) = t) :
    Calls Tryd.prog 18 #[v] w fun e w' => e = .returned (.string t) ∧ Below w.heap.size w w' := by
  subst ht
  obtain ⟨A, ca, B, cb, rfl, hA, hB⟩ := h
  cases hg : cgood c
  · have e : ctext c = [] := by
      unfold ctext
      split
      · rfl
      · rw [hg]; rfl
    rw [e]
    exact rctext_none (a := c.a) (l := c.b) rfl rfl la lb hA hB hg
  · obtain ⟨k, hk, k1, k2, hf, ha, hfit⟩ := cgood_some hg
    have F := fits_fit hfit
    have hl := forms_le k (by omega)
    obtain ⟨o, a, b, x, y, z⟩ := c
    obtain ⟨X, rfl⟩ : ∃ X : Nat, x = X := ⟨x.toNat, by have := F.x; simp at this; omega⟩
    obtain ⟨Y, rfl⟩ : ∃ Y : Nat, y = Y := ⟨y.toNat, by have := F.y; simp at this; omega⟩
    have hx : X < 65536 := by have := F.x; simp at this; omega
    have hy : Y < 65536 := by have := F.y; simp at this; omega
    have hpt : ∀ {l : List Int}, pgood l = true → (⟨(ptext l).toArray⟩ : ByteArray).size ≤ 20 := fun {l} hl => by
      have := ptext_length hl
      show (ptext l).toArray.size ≤ 20
      rw [List.size_toArray]
      omega
    have hpb : (⟨(ptext b).toArray⟩ : ByteArray).size ≤ 20 := by
      rcases F.bg with hb | hb
      · rw [show b = [] from hb]; decide +kernel
      · exact hpt hb
    have hsz := And.intro (hpt ha) (And.intro hpb (And.intro (dct_size (n := X) (by omega)) (And.intro (dct_size (n := Y) (by omega)) (dct_size (n := z) hw))))
    have hparts : ctext ⟨o, a, b, X, Y, z⟩ = Lib.join (cparts (forms k) ⟨o, a, b, X, Y, z⟩) [32] := by
      rw [ctext, hf]
      simp only [if_pos hg]
    rw [hparts]
    obtain rfl : o = k := hk
    match k, k1, k2 with
    | 1, _, _ =>
      have hr := rctext_1 (A := A) (B := B) (ca := ca) (cb := cb) rfl rfl la lb hA hB hg hx hy hw rfl rfl rfl rfl rfl hsz
      have hne : ¬ b = [] := fun e => by
        have h1 := F.b.1
        simp [forms, e] at h1
      refine hr.mono ?_
      rintro e w' ⟨rfl, hb⟩
      refine ⟨?_, hb⟩
      dsimp only
      have hc : cparts (forms 1) ⟨((1 : Nat) : Int), a, b, X, Y, z⟩ = [109, 97, 107, 101] :: (([⟨(ptext a).toArray⟩, ⟨(ptext b).toArray⟩, dct X, dct Y] : List ByteArray).map (·.data.toList)) := by simp [cparts, forms, btext, hne, dct]
      rw [hc, join_mk]
      rfl
    | 2, _, _ =>
      have hr := rctext_2 (A := A) (B := B) (ca := ca) (cb := cb) rfl rfl la lb hA hB hg hx hy hw rfl rfl rfl rfl rfl hsz
      have hne : ¬ b = [] := fun e => by
        have h1 := F.b.1
        simp [forms, e] at h1
      refine hr.mono ?_
      rintro e w' ⟨rfl, hb⟩
      refine ⟨?_, hb⟩
      dsimp only
      have hc : cparts (forms 2) ⟨((2 : Nat) : Int), a, b, X, Y, z⟩ = [99, 111, 112, 121] :: (([⟨(ptext a).toArray⟩, ⟨(ptext b).toArray⟩, dct X] : List ByteArray).map (·.data.toList)) := by simp [cparts, forms, btext, hne, dct]
      rw [hc, join_mk]
      rfl
    | 3, _, _ =>
      have hr := rctext_3 (A := A) (B := B) (ca := ca) (cb := cb) rfl rfl la lb hA hB hg hx hy hw rfl rfl rfl rfl rfl hsz
      have hne : ¬ b = [] := fun e => by
        have h1 := F.b.1
        simp [forms, e] at h1
      refine hr.mono ?_
      rintro e w' ⟨rfl, hb⟩
      refine ⟨?_, hb⟩
      dsimp only
      have hc : cparts (forms 3) ⟨((3 : Nat) : Int), a, b, X, Y, z⟩ = [109, 105, 110, 116] :: (([⟨(ptext a).toArray⟩, ⟨(ptext b).toArray⟩, dct X, dct Y] : List ByteArray).map (·.data.toList)) := by simp [cparts, forms, btext, hne, dct]
      rw [hc, join_mk]
      rfl
    | 4, _, _ =>
      have hr := rctext_4 (A := A) (B := B) (ca := ca) (cb := cb) rfl rfl la lb hA hB hg hx hy hw rfl rfl rfl rfl rfl hsz
      have hne : ¬ b = [] := fun e => by
        have h1 := F.b.1
        simp [forms, e] at h1
      refine hr.mono ?_
      rintro e w' ⟨rfl, hb⟩
      refine ⟨?_, hb⟩
      dsimp only
      have hc : cparts (forms 4) ⟨((4 : Nat) : Int), a, b, X, Y, z⟩ = [109, 111, 118, 101] :: (([⟨(ptext a).toArray⟩, ⟨(ptext b).toArray⟩] : List ByteArray).map (·.data.toList)) := by simp [cparts, forms, btext, hne]
      rw [hc, join_mk]
      rfl
    | 5, _, _ =>
      have hr := rctext_5 (A := A) (B := B) (ca := ca) (cb := cb) rfl rfl la lb hA hB hg hx hy hw rfl rfl rfl rfl rfl hsz
      refine hr.mono ?_
      rintro e w' ⟨rfl, hb⟩
      refine ⟨?_, hb⟩
      dsimp only
      have hc : cparts (forms 5) ⟨((5 : Nat) : Int), a, b, X, Y, z⟩ = [100, 101, 108, 101, 116, 101] :: (([⟨(ptext a).toArray⟩] : List ByteArray).map (·.data.toList)) := by simp [cparts, forms]
      rw [hc, join_mk]
      rfl
    | 6, _, _ =>
      have hr := rctext_6 (A := A) (B := B) (ca := ca) (cb := cb) rfl rfl la lb hA hB hg hx hy hw rfl rfl rfl rfl rfl hsz
      refine hr.mono ?_
      rintro e w' ⟨rfl, hb⟩
      refine ⟨?_, hb⟩
      dsimp only
      have hc : cparts (forms 6) ⟨((6 : Nat) : Int), a, b, X, Y, z⟩ = [114, 101, 118, 111, 107, 101] :: (([⟨(ptext a).toArray⟩] : List ByteArray).map (·.data.toList)) := by simp [cparts, forms]
      rw [hc, join_mk]
      rfl
    | 7, _, _ =>
      have hr := rctext_7 (A := A) (B := B) (ca := ca) (cb := cb) rfl rfl la lb hA hB hg hx hy hw rfl rfl rfl rfl rfl hsz
      by_cases hne : b = []
      · have hl0 : b.length = 0 := by rw [hne]; rfl
        refine hr.mono ?_
        rintro e w' ⟨rfl, hb⟩
        refine ⟨?_, hb⟩
        dsimp only
        simp only [if_pos hl0]
        have hc : cparts (forms 7) ⟨((7 : Nat) : Int), a, b, X, Y, z⟩ = [115, 101, 110, 100] :: (([⟨(ptext a).toArray⟩, ⟨#[45]⟩, dct z] : List ByteArray).map (·.data.toList)) := by simp [cparts, forms, btext, hne, dct]
        rw [hc, join_mk]
        rw [dash_mk]
        rfl
      · have hl0 : ¬ b.length = 0 := fun e => hne (List.eq_nil_of_length_eq_zero e)
        refine hr.mono ?_
        rintro e w' ⟨rfl, hb⟩
        refine ⟨?_, hb⟩
        dsimp only
        simp only [if_neg hl0]
        have hc : cparts (forms 7) ⟨((7 : Nat) : Int), a, b, X, Y, z⟩ = [115, 101, 110, 100] :: (([⟨(ptext a).toArray⟩, ⟨(ptext b).toArray⟩, dct z] : List ByteArray).map (·.data.toList)) := by simp [cparts, forms, btext, hne, dct]
        rw [hc, join_mk]
        rfl
    | 8, _, _ =>
      have hr := rctext_8 (A := A) (B := B) (ca := ca) (cb := cb) rfl rfl la lb hA hB hg hx hy hw rfl rfl rfl rfl rfl hsz
      by_cases hne : b = []
      · have hl0 : b.length = 0 := by rw [hne]; rfl
        refine hr.mono ?_
        rintro e w' ⟨rfl, hb⟩
        refine ⟨?_, hb⟩
        dsimp only
        simp only [if_pos hl0]
        have hc : cparts (forms 8) ⟨((8 : Nat) : Int), a, b, X, Y, z⟩ = [114, 101, 99, 118] :: (([⟨(ptext a).toArray⟩, ⟨#[45]⟩] : List ByteArray).map (·.data.toList)) := by simp [cparts, forms, btext, hne]
        rw [hc, join_mk]
        rw [dash_mk]
        rfl
      · have hl0 : ¬ b.length = 0 := fun e => hne (List.eq_nil_of_length_eq_zero e)
        refine hr.mono ?_
        rintro e w' ⟨rfl, hb⟩
        refine ⟨?_, hb⟩
        dsimp only
        simp only [if_neg hl0]
        have hc : cparts (forms 8) ⟨((8 : Nat) : Int), a, b, X, Y, z⟩ = [114, 101, 99, 118] :: (([⟨(ptext a).toArray⟩, ⟨(ptext b).toArray⟩] : List ByteArray).map (·.data.toList)) := by simp [cparts, forms, btext, hne]
        rw [hc, join_mk]
        rfl
    | 9, _, _ =>
      have hr := rctext_9 (A := A) (B := B) (ca := ca) (cb := cb) rfl rfl la lb hA hB hg hx hy hw rfl rfl rfl rfl rfl hsz
      refine hr.mono ?_
      rintro e w' ⟨rfl, hb⟩
      refine ⟨?_, hb⟩
      dsimp only
      have hc : cparts (forms 9) ⟨((9 : Nat) : Int), a, b, X, Y, z⟩ = [114, 105, 110, 103] :: (([⟨(ptext a).toArray⟩] : List ByteArray).map (·.data.toList)) := by simp [cparts, forms]
      rw [hc, join_mk]
      rfl
    | 10, _, _ =>
      have hr := rctext_10 (A := A) (B := B) (ca := ca) (cb := cb) rfl rfl la lb hA hB hg hx hy hw rfl rfl rfl rfl rfl hsz
      refine hr.mono ?_
      rintro e w' ⟨rfl, hb⟩
      refine ⟨?_, hb⟩
      dsimp only
      have hc : cparts (forms 10) ⟨((10 : Nat) : Int), a, b, X, Y, z⟩ = [112, 111, 108, 108] :: (([⟨(ptext a).toArray⟩] : List ByteArray).map (·.data.toList)) := by simp [cparts, forms]
      rw [hc, join_mk]
      rfl
    | 11, _, _ =>
      have hr := rctext_11 (A := A) (B := B) (ca := ca) (cb := cb) rfl rfl la lb hA hB hg hx hy hw rfl rfl rfl rfl rfl hsz
      refine hr.mono ?_
      rintro e w' ⟨rfl, hb⟩
      refine ⟨?_, hb⟩
      dsimp only
      have hc : cparts (forms 11) ⟨((11 : Nat) : Int), a, b, X, Y, z⟩ = [119, 114, 105, 116, 101] :: (([⟨(ptext a).toArray⟩, dct X, dct z] : List ByteArray).map (·.data.toList)) := by simp [cparts, forms, dct]
      rw [hc, join_mk]
      rfl
    | 12, _, _ =>
      have hr := rctext_12 (A := A) (B := B) (ca := ca) (cb := cb) rfl rfl la lb hA hB hg hx hy hw rfl rfl rfl rfl rfl hsz
      refine hr.mono ?_
      rintro e w' ⟨rfl, hb⟩
      refine ⟨?_, hb⟩
      dsimp only
      have hc : cparts (forms 12) ⟨((12 : Nat) : Int), a, b, X, Y, z⟩ = [114, 101, 97, 100] :: (([⟨(ptext a).toArray⟩, dct X] : List ByteArray).map (·.data.toList)) := by simp [cparts, forms, dct]
      rw [hc, join_mk]
      rfl
    | 13, _, _ =>
      have hr := rctext_13 (A := A) (B := B) (ca := ca) (cb := cb) rfl rfl la lb hA hB hg hx hy hw rfl rfl rfl rfl rfl hsz
      refine hr.mono ?_
      rintro e w' ⟨rfl, hb⟩
      refine ⟨?_, hb⟩
      dsimp only
      have hc : cparts (forms 13) ⟨((13 : Nat) : Int), a, b, X, Y, z⟩ = [116, 101, 108, 108] :: (([⟨(ptext a).toArray⟩] : List ByteArray).map (·.data.toList)) := by simp [cparts, forms]
      rw [hc, join_mk]
      rfl
end Go.Proofs.YtfcifheejjppfaaDoor
