/-
  Plain facts of a memory with superblocks at its ends. No condition.
-/
import Derived.Test.YteadkcekoccmdaaSm
namespace Go.Proofs.Yteadkcekoccmdaa
open Go.RowKit

/-- words in the middle, up to the i-th -/
def mid (R : List Int) (i j : Nat) : Int := if 8 ≤ j ∧ j < i then R.getD (j - 8) 0 else 0
theorem mid_zero (R : List Int) (j : Nat) : 0 = mid R 8 j := by
  unfold mid
  rw [if_neg (by omega)]
theorem mid_succ (R : List Int) {i : Nat} (hi : 8 ≤ i) (j : Nat) : (if j = i then R.getD (i - 8) 0 else mid R i j) = mid R (i + 1) j := by
  unfold mid
  by_cases h : j = i
  · subst h
    rw [if_pos rfl, if_pos (by omega)]
  · rw [if_neg h]
    by_cases h2 : 8 ≤ j ∧ j < i
    · rw [if_pos h2, if_pos (by omega)]
    · rw [if_neg h2, if_neg (by omega)]
theorem getD_wd {R : List Int} (h : Wds R) (j : Nat) : Wd (R.getD j 0) := by
  by_cases hj : j < R.length
  · exact h.at hj
  · rw [List.getD, List.getElem?_eq_none (by omega)]
    exact ⟨by decide, by decide⟩
theorem mid_wd {R : List Int} (h : Wds R) (i j : Nat) : Wd (mid R i j) := by
  unfold mid
  split
  · exact getD_wd h _
  · exact ⟨by omega, by omega⟩
/-- and the ends -/
def ends (c d : Bool) (X Y R : List Int) (m N i j : Nat) : Int := if c = true ∧ j < i then X.getD j 0 else if d = true ∧ N - 8 ≤ j ∧ j < N - 8 + i then Y.getD (j - (N - 8)) 0 else mid R m j
section
variable {c d : Bool} {X Y R : List Int} {m N : Nat}
theorem ends_zero (j : Nat) : mid R m j = ends c d X Y R m N 0 j := by
  unfold ends
  rw [if_neg (by omega), if_neg (by omega)]
theorem ends_wd (hX : Wds X) (hY : Wds Y) (hR : Wds R) (i j : Nat) : Wd (ends c d X Y R m N i j) := by
  unfold ends
  split
  · exact getD_wd hX _
  · split
    · exact getD_wd hY _
    · exact mid_wd hR _ _
theorem ends_succ {i : Nat} (hi : i < 8) (hN : 16 ≤ N) (j : Nat) : (if d = true ∧ j = N - 8 + i then Y.getD i 0 else if c = true ∧ j = i then X.getD i 0 else ends c d X Y R m N i j) = ends c d X Y R m N (i + 1) j := by
  unfold ends
  by_cases h1 : d = true ∧ j = N - 8 + i
  · rw [if_pos h1, if_neg (show ¬ (c = true ∧ j < i + 1) by omega), if_pos ⟨h1.1, by omega, by omega⟩, show j - (N - 8) = i by omega]
  · rw [if_neg h1]
    by_cases h2 : c = true ∧ j = i
    · rw [if_pos h2, if_pos ⟨h2.1, by omega⟩, h2.2]
    · rw [if_neg h2]
      by_cases h3 : c = true ∧ j < i
      · rw [if_pos h3, if_pos ⟨h3.1, by omega⟩]
      · rw [if_neg h3, if_neg (show ¬ (c = true ∧ j < i + 1) from fun q => by
          rcases Nat.lt_or_ge j i with h | h
          · exact h3 ⟨q.1, h⟩
          · exact h2 ⟨q.1, by omega⟩)]
        by_cases h4 : d = true ∧ N - 8 ≤ j ∧ j < N - 8 + i
        · rw [if_pos h4, if_pos ⟨h4.1, h4.2.1, by omega⟩]
        · rw [if_neg h4, if_neg (show ¬ (d = true ∧ N - 8 ≤ j ∧ j < N - 8 + (i + 1)) from fun q => by
            rcases Nat.lt_or_ge j (N - 8 + i) with h | h
            · exact h4 ⟨q.1, q.2.1, h⟩
            · exact h1 ⟨q.1, by omega⟩)]
end
theorem full_at {s : Sp} {j : Nat} (h : j < 8) : s.full[j]? = some (s.full.getD j 0) := by
  rw [List.getD, List.getElem?_eq_getElem (show j < s.full.length from h)]
  rfl
/-- what is found there -/
theorem ends_found {c d : Bool} {x y : Sp} {R : List Int} {m N r : Nat} (hx : x.g.ok = true) (hy : y.g.ok = true) (hrx : x.g.rows = (r : Int)) (hry : y.g.rows = (r : Int)) (hN : N = 8 * r) (h16 : 16 ≤ N) (hm : m ≤ N - 8) :
    find (ls N (ends c d x.full y.full R m N 8)) = (if c = true then x else if d = true then y else zsp) ∧ first (ls N (ends c d x.full y.full R m N 8)) = c ∧ back (ls N (ends c d x.full y.full R m N 8)) = d := by
  have hok : 8 ≤ N ∧ N % 8 = 0 := by omega
  have hr : N / 8 = r := by omega
  have hH : c = true → ls 8 (ends c d x.full y.full R m N 8) = x.full := fun hc => ls_eq rfl fun j hj => by
    rw [full_at hj]
    unfold ends
    rw [if_pos ⟨hc, hj⟩]
  have hH0 : c = false → ls 8 (ends c d x.full y.full R m N 8) = ls 8 (fun _ => 0) := fun hc => ls_same fun j hj => by
    unfold ends mid
    rw [if_neg (fun q => by rw [hc] at q; cases q.1), if_neg (by omega), if_neg (by omega)]
  have hT : d = true → ls 8 (fun j => ends c d x.full y.full R m N 8 (N - 8 + j)) = y.full := fun hd => ls_eq rfl fun j hj => by
    rw [full_at hj]
    unfold ends
    rw [if_neg (by omega), if_pos ⟨hd, by omega, by omega⟩, show N - 8 + j - (N - 8) = j by omega]
  have hT0 : d = false → ls 8 (fun j => ends c d x.full y.full R m N 8 (N - 8 + j)) = ls 8 (fun _ => 0) := fun hd => ls_same fun j hj => by
    unfold ends mid
    rw [if_neg (by omega), if_neg (fun q => by rw [hd] at q; cases q.1), if_neg (by omega)]
  have h1 : first (ls N (ends c d x.full y.full R m N 8)) = c := by
    rw [first_ls hok hr]
    rcases c with _ | _
    · rw [hH0 rfl]; exact fits_not _ got_zeros
    · rw [hH rfl]; exact fits_full hx hrx
  have h2 : back (ls N (ends c d x.full y.full R m N 8)) = d := by
    rw [back_ls hok hr]
    rcases d with _ | _
    · rw [hT0 rfl]; exact fits_not _ got_zeros
    · rw [hT rfl]; exact fits_full hy hry
  refine ⟨?_, h1, h2⟩
  rw [find_ls hok.1, h1, h2]
  rcases c with _ | _
  · rcases d with _ | _
    · rfl
    · rw [if_neg (by decide), if_pos rfl, if_neg (by decide), if_pos rfl, hT rfl, get_full hy]
  · rw [if_pos rfl, if_pos rfl, hH rfl, get_full hx]
theorem rows_good {g : Gd} (h : g.ok = true) : ∃ r : Nat, g.rows = (r : Int) ∧ 2 ≤ r ∧ r ≤ 4096 := by
  obtain ⟨h1, h2, h3, h4, h5, h6, h7⟩ := Gd.ok_iff.1 h
  have e : g.rows = g.copy0 / 8 + 1 := by unfold Gd.rows; rw [if_pos h]
  have hb : 8 ≤ g.copy0 ∧ g.copy0 ≤ 32000 := by unfold Gd.copy0 Gd.thing0 Gd.slot0; omega
  obtain ⟨r, hr⟩ := Int.eq_ofNat_of_zero_le (show 0 ≤ g.rows by omega)
  exact ⟨r, hr, by omega, by omega⟩

/-- the first three cells are stored anew -/
def put3 (w : World) (b : Nat) (g : Gd) : World := ((w.setCell ⟨b, 0, none⟩ (.int .i64 g.t)).setCell ⟨b, 1, none⟩ (.int .i64 g.s)).setCell ⟨b, 2, none⟩ (.int .i64 g.k)
theorem Bs.put3 {w : World} {b : Nat} {y : Sp} (h : Bs w b y) (g : Gd) : Bs (put3 w b g) b ⟨g, y.b⟩ := by
  refine ⟨?_, ?_, ?_, ?_, fun j => ?_, by simpa [Go.Proofs.Yteadkcekoccmdaa.put3, World.setCell] using h.lt⟩
  · unfold Go.Proofs.Yteadkcekoccmdaa.put3
    rw [set_ne _ _ _ _ _ (by omega), set_ne _ _ _ _ _ (by omega)]
    exact World.cell?_setCell_same _ _ _ h.t
  · unfold Go.Proofs.Yteadkcekoccmdaa.put3
    rw [set_ne _ _ _ _ _ (by omega)]
    exact World.cell?_setCell_same _ _ _ (by rw [set_ne _ _ _ _ _ (by omega)]; exact h.s)
  · unfold Go.Proofs.Yteadkcekoccmdaa.put3
    exact World.cell?_setCell_same _ _ _ (by rw [set_ne _ _ _ _ _ (by omega), set_ne _ _ _ _ _ (by omega)]; exact h.k)
  · unfold Go.Proofs.Yteadkcekoccmdaa.put3
    rw [set_ne _ _ _ _ _ (by omega), set_ne _ _ _ _ _ (by omega), set_ne _ _ _ _ _ (by omega)]
    exact h.u
  · unfold Go.Proofs.Yteadkcekoccmdaa.put3
    rw [World.frozen?_setCell, World.frozen?_setCell, World.frozen?_setCell]
    exact h.free j
theorem Bs.put3_other {w : World} {b c : Nat} {y : Sp} (h : Bs w c y) (g : Gd) (hn : c ≠ b) : Bs (Go.Proofs.Yteadkcekoccmdaa.put3 w b g) c y := by
  have hc : ∀ j, (Go.Proofs.Yteadkcekoccmdaa.put3 w b g).cell? ⟨c, j, none⟩ = w.cell? ⟨c, j, none⟩ := fun j => by
    have hn : ∀ i, (⟨b, i, none⟩ : Addr) ≠ ⟨c, j, none⟩ := fun i q => by injection q with q1; exact hn q1.symm
    unfold Go.Proofs.Yteadkcekoccmdaa.put3
    rw [World.cell?_setCell_other _ _ _ _ (hn 2), World.cell?_setCell_other _ _ _ _ (hn 1), World.cell?_setCell_other _ _ _ _ (hn 0)]
  refine ⟨(hc 0).trans h.t, (hc 1).trans h.s, (hc 2).trans h.k, (hc 3).trans h.u, fun j => ?_, by simpa [Go.Proofs.Yteadkcekoccmdaa.put3, World.setCell] using h.lt⟩
  unfold Go.Proofs.Yteadkcekoccmdaa.put3
  rw [World.frozen?_setCell, World.frozen?_setCell, World.frozen?_setCell]
  exact h.free j
theorem put3_below {W w : World} {b : Nat} {g : Gd} (h : Below W.heap.size W w) (hb : W.heap.size ≤ b) : Below W.heap.size W (put3 w b g) :=
  h.trans ⟨rfl, rfl, rfl, by simp [put3, World.setCell], fun k hk => by
    have hne : k ≠ b := by omega
    unfold put3
    rw [Below.heap_setCell _ _ _ _ hne, Below.heap_setCell _ _ _ _ hne, Below.heap_setCell _ _ _ _ hne]⟩

/-- two superblocks, lists that were made; what was before stands -/
structure Kb (W : World) (p q : Nat) (x y : Sp) (vs : List (Value × List Int)) (w : World) : Prop where
  hp : Bs w p x
  hq : Bs w q y
  lists : ∀ v l, (v, l) ∈ vs → Words w v l
  old : Below W.heap.size W w
section
variable {W w w' : World} {p q : Nat} {x y : Sp} {vs : List (Value × List Int)}
theorem Kb.on (h : Kb W p q x y vs w) (hb : Below w.heap.size w w') : Kb W p q x y vs w' := ⟨h.hp.on hb, h.hq.on hb, fun v l hv => (h.lists v l hv).below hb, below_on h.old hb⟩
theorem Kb.drew (h : Kb W p q x y vs w) : Kb W p q x y vs w.drew :=
  ⟨h.hp.drew, h.hq.drew, fun v l hv => by
    obtain ⟨A, cap, e, hc, hL⟩ := h.lists v l hv
    exact ⟨A, cap, e, hc, hL⟩, h.old.drew⟩
theorem Kb.more {v : Value} {l : List Int} (h : Kb W p q x y vs w) (hv : Words w v l) : Kb W p q x y ((v, l) :: vs) w :=
  ⟨h.hp, h.hq, fun v' l' hm => by
    rcases List.mem_cons.1 hm with e | e
    · injection e with q1 q2
      rw [q1, q2]; exact hv
    · exact h.lists v' l' e, h.old⟩
theorem kb_list {N : Nat} {xs : Array Value} {l : List Int} {t s k u t1 s1 k1 u1 : Int} (hk : Kb W p q ⟨⟨t, s, k⟩, u⟩ ⟨⟨t1, s1, k1⟩, u1⟩ vs w) (h : Calls Try.prog N xs w fun e w' => ∃ v, e = .returned v ∧ Words w' v l ∧ Below w.heap.size w w') :
    Calls Try.prog N xs w fun e w' => ∃ v, e = .returned v ∧ w'.cell? ⟨p, 0, none⟩ = some (.int .i64 t) ∧ w'.cell? ⟨p, 1, none⟩ = some (.int .i64 s) ∧ w'.cell? ⟨p, 2, none⟩ = some (.int .i64 k) ∧ w'.cell? ⟨p, 3, none⟩ = some (.int .u64 u) ∧
      w'.cell? ⟨q, 0, none⟩ = some (.int .i64 t1) ∧ w'.cell? ⟨q, 1, none⟩ = some (.int .i64 s1) ∧ w'.cell? ⟨q, 2, none⟩ = some (.int .i64 k1) ∧ w'.cell? ⟨q, 3, none⟩ = some (.int .u64 u1) ∧ Kb W p q ⟨⟨t, s, k⟩, u⟩ ⟨⟨t1, s1, k1⟩, u1⟩ ((v, l) :: vs) w' := by
  refine h.mono ?_
  rintro e w' ⟨v, rfl, hv, hb⟩
  have h := (hk.on hb).more hv
  exact ⟨v, rfl, h.hp.t, h.hp.s, h.hp.k, h.hp.u, h.hq.t, h.hq.s, h.hq.k, h.hq.u, h⟩
end
end Go.Proofs.Yteadkcekoccmdaa
