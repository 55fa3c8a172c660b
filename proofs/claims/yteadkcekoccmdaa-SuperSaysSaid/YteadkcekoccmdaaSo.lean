/-
  The walks of the law's own and of the reference's PutSuper. No condition beyond that a boot's number is a word.
-/
import Derived.Test.YteadkcekoccmdaaSj
namespace Go.Proofs.Yteadkcekoccmdaa
open Go.RowKit

theorem sets_ne (w : World) (b c : Nat) (v0 v1 v2 v3 : Value) (j : Nat) (h : c ≠ b) : ((((w.setCell ⟨b, 0, none⟩ v0).setCell ⟨b, 1, none⟩ v1).setCell ⟨b, 2, none⟩ v2).setCell ⟨b, 3, none⟩ v3).cell? ⟨c, j, none⟩ = w.cell? ⟨c, j, none⟩ := by
  have hn : ∀ i, (⟨b, i, none⟩ : Addr) ≠ ⟨c, j, none⟩ := fun i q => by injection q with q1; exact h q1.symm
  rw [World.cell?_setCell_other _ _ _ _ (hn 3), World.cell?_setCell_other _ _ _ _ (hn 2), World.cell?_setCell_other _ _ _ _ (hn 1), World.cell?_setCell_other _ _ _ _ (hn 0)]

/-- a superblock in b, another in c; what was before stands -/
def Two (W : World) (b c : Nat) (x y : Sp) (w : World) : Prop := Bs w b x ∧ Bs w c y ∧ W.heap.size ≤ c ∧ Below W.heap.size W w
theorem Two.on {W w w' : World} {b c : Nat} {x y : Sp} (h : Two W b c x y w) (hb : Below w.heap.size w w') : Two W b c x y w' := ⟨h.1.on hb, h.2.1.on hb, h.2.2.1, below_on h.2.2.2 hb⟩
theorem Two.drew {W w : World} {b c : Nat} {x y : Sp} (h : Two W b c x y w) : Two W b c x y w.drew := ⟨h.1.drew, h.2.1.drew, h.2.2.1, h.2.2.2.drew⟩
theorem two_geo {W w : World} {b c : Nat} {x y : Sp} (h : Two W b c x y w) :
    Calls Try.prog 26 #[.agg #[.int .i64 x.g.t, .int .i64 x.g.s, .int .i64 x.g.k]] w fun e w' => e = .returned (.agg #[.int .i64 x.g.t, .int .i64 x.g.s, .int .i64 x.g.k]) ∧
      w'.cell? ⟨b, 0, none⟩ = some (.int .i64 x.g.t) ∧ w'.cell? ⟨b, 1, none⟩ = some (.int .i64 x.g.s) ∧ w'.cell? ⟨b, 2, none⟩ = some (.int .i64 x.g.k) ∧ w'.cell? ⟨b, 3, none⟩ = some (.int .u64 x.b) ∧
      w'.cell? ⟨c, 0, none⟩ = some (.int .i64 y.g.t) ∧ w'.cell? ⟨c, 1, none⟩ = some (.int .i64 y.g.s) ∧ w'.cell? ⟨c, 2, none⟩ = some (.int .i64 y.g.k) ∧ w'.cell? ⟨c, 3, none⟩ = some (.int .u64 y.b) ∧
      w'.frozen? ⟨c, 0, none⟩ = false ∧ w'.frozen? ⟨c, 1, none⟩ = false ∧ w'.frozen? ⟨c, 2, none⟩ = false ∧ w'.frozen? ⟨c, 3, none⟩ = false ∧ Two W b c x y w' := by
  refine (geoof_any x.g w).mono ?_
  rintro e w' ⟨rfl, hb⟩
  have := h.on hb
  exact ⟨rfl, this.1.t, this.1.s, this.1.k, this.1.u, this.2.1.t, this.2.1.s, this.2.1.k, this.2.1.u, this.2.1.free 0, this.2.1.free 1, this.2.1.free 2, this.2.1.free 3, this⟩

set_option maxHeartbeats 2000000 in
theorem own_any (x : Sp) (w : World) : Calls Try.prog 17 #[.agg #[.int .i64 x.g.t, .int .i64 x.g.s, .int .i64 x.g.k, .int .u64 x.b]] w fun e w' => e = .returned (.agg #[.int .i64 x.g.t, .int .i64 x.g.s, .int .i64 x.g.k, .int .u64 x.b]) ∧ Below w.heap.size w w' := by
  have hA := Bs.new w x 30
  have hC := Bs.new (w.alloc (.cells #[.int .i64 x.g.t, .int .i64 x.g.s, .int .i64 x.g.k, .int .u64 x.b] 30)) zsp 38
  rw [show (w.alloc (.cells #[.int .i64 x.g.t, .int .i64 x.g.s, .int .i64 x.g.k, .int .u64 x.b] 30)).heap.size = w.heap.size + 1 by simp] at hC
  have HT : Hid (Two w w.heap.size (w.heap.size + 1) x zsp ((w.alloc (.cells #[.int .i64 x.g.t, .int .i64 x.g.s, .int .i64 x.g.k, .int .u64 x.b] 30)).alloc (.cells #[.int .i64 0, .int .i64 0, .int .i64 0, .int .u64 0] 38))) :=
    Lib.hid (⟨hA.on (below_alloc _ _), hC, by omega, below_on (below_alloc _ _) (below_alloc _ _)⟩)
  have HNE : Hid (∀ (w' : World) (v0 v1 v2 v3 : Value) (j : Nat), ((((w'.setCell ⟨w.heap.size + 1, 0, none⟩ v0).setCell ⟨w.heap.size + 1, 1, none⟩ v1).setCell ⟨w.heap.size + 1, 2, none⟩ v2).setCell ⟨w.heap.size + 1, 3, none⟩ v3).cell? ⟨w.heap.size, j, none⟩ = w'.cell? ⟨w.heap.size, j, none⟩) :=
    Lib.hid fun w' v0 v1 v2 v3 j => sets_ne w' _ _ v0 v1 v2 v3 j (by omega)
  clear hA hC
  obtain ⟨⟨t, s, k⟩, b⟩ := x
  go_enter Try.func17, Try.ntmps17
  go_wp2_with fail
  generalize (w.alloc (.cells #[.int .i64 t, .int .i64 s, .int .i64 k, .int .u64 b] 30)).alloc (.cells #[.int .i64 0, .int .i64 0, .int .i64 0, .int .u64 0] 38) = w1 at *
  have h1 := HT.out.drew
  have HD := Lib.hid h1
  have a0 : w1.drew.cell? ⟨w.heap.size, 0, none⟩ = some (.int .i64 t) := h1.1.t
  have a1 : w1.drew.cell? ⟨w.heap.size, 1, none⟩ = some (.int .i64 s) := h1.1.s
  have a2 : w1.drew.cell? ⟨w.heap.size, 2, none⟩ = some (.int .i64 k) := h1.1.k
  have a3 : w1.drew.cell? ⟨w.heap.size, 3, none⟩ = some (.int .u64 b) := h1.1.u
  clear h1 HT
  go_region_held3 (fun w' => w'.cell? ⟨w.heap.size, 0, none⟩ = some (.int .i64 t) ∧ w'.cell? ⟨w.heap.size, 1, none⟩ = some (.int .i64 s) ∧ w'.cell? ⟨w.heap.size, 2, none⟩ = some (.int .i64 k) ∧ w'.cell? ⟨w.heap.size, 3, none⟩ = some (.int .u64 b))
    (first | exact ⟨by with_reducible assumption, by with_reducible assumption, by with_reducible assumption, by with_reducible assumption⟩ | exact ⟨(HNE.out _ _ _ _ _ _).trans (by with_reducible assumption), (HNE.out _ _ _ _ _ _).trans (by with_reducible assumption), (HNE.out _ _ _ _ _ _).trans (by with_reducible assumption), (HNE.out _ _ _ _ _ _).trans (by with_reducible assumption)⟩)
    (first | (go_at_call 26; ((with_reducible refine (two_geo HD.out).mono ?_); rintro e w' ⟨rfl, z0, z1, z2, z3, y0, y1, y2, y3, g0, g1, g2, g3, ht⟩)))
  change Exit.then _ _ _ _ (put4 w' (w.heap.size + 1) ⟨⟨t, s, k⟩, b⟩)
  have hp := ht.2.1.put ⟨⟨t, s, k⟩, b⟩
  have HB6 := Lib.hid (put4_below (x := ⟨⟨t, s, k⟩, b⟩) ht.2.2.2 ht.2.2.1)
  clear z0 z1 z2 z3 y0 y1 y2 y3 g0 g1 g2 g3 ht HNE a0 a1 a2 a3 HD
  generalize put4 w' (w.heap.size + 1) ⟨⟨t, s, k⟩, b⟩ = w6 at *
  have e0 : w6.cell? ⟨w.heap.size + 1, 0, none⟩ = some (.int .i64 t) := hp.t
  have e1 : w6.cell? ⟨w.heap.size + 1, 1, none⟩ = some (.int .i64 s) := hp.s
  have e2 : w6.cell? ⟨w.heap.size + 1, 2, none⟩ = some (.int .i64 k) := hp.k
  have e3 : w6.cell? ⟨w.heap.size + 1, 3, none⟩ = some (.int .u64 b) := hp.u
  clear hp
  go_wp2_with fail
  refine bodyPost_ret (by simp [results, Try.results17, go_sem, e0, e1, e2, e3]; rfl) rfl ?_
  exact ⟨rfl, HB6.out⟩

theorem words_of_owns {w : World} {B n : Nat} {v : Value} {l : List Int} (h : w.ownsRow B 28 1 v n (wcells l)) : Words w v l := by
  have hn : n = l.length := by have := h.1; rw [wcells_length] at this; omega
  subst hn
  rcases h.2 with ⟨rfl, h1⟩ | ⟨g, cap, cur, rfl, hbase, hg, h1, h2, h3, h4⟩
  · rw [List.length_eq_zero_iff.1 h1]
    exact words_none w 0
  · refine ⟨some ⟨g, 0, none⟩, cap, rfl, h1, fun _ => ⟨g, 0, rfl, (Array.getElem?_eq_some_iff.1 hg).1, fun j z hz => ?_⟩⟩
    have hj : j < l.length := (List.getElem?_eq_some_iff.1 hz).1
    have := h.cellAt j (by omega)
    rw [Nat.zero_add, this]
    unfold wcells
    rw [List.getElem?_map, hz]
    rfl
theorem owns_seven (w : World) (a0 a1 a2 a3 a4 a5 a6 : Int) : (w.alloc (.cells #[.int .u64 a0, .int .u64 a1, .int .u64 a2, .int .u64 a3, .int .u64 a4, .int .u64 a5, .int .u64 a6] 28)).ownsRow w.heap.size 28 1 (.slice (some ⟨w.heap.size, 0, none⟩) 7 7) 7 (wcells [a0, a1, a2, a3, a4, a5, a6]) :=
  ⟨rfl, .inr ⟨w.heap.size, 7, #[.int .u64 a0, .int .u64 a1, .int .u64 a2, .int .u64 a3, .int .u64 a4, .int .u64 a5, .int .u64 a6], rfl, Nat.le_refl _, heap_alloc_new w _, Nat.le_refl _, by unfold maxLen; omega, rfl, rfl⟩⟩

set_option maxHeartbeats 1000000 in
theorem rput_any (s : Sp) (w : World) (hb : 0 ≤ s.b ∧ s.b < 18446744073709551616) : Calls Try.prog 16 #[.agg #[.int .i64 s.g.t, .int .i64 s.g.s, .int .i64 s.g.k, .int .u64 s.b]] w fun e w' => ∃ v, e = .returned v ∧ Words w' v s.put ∧ Below w.heap.size w w' := by
  obtain ⟨⟨t, s, k⟩, b⟩ := s
  have HB := Lib.hid (below_alloc w (.cells #[.int .i64 t, .int .i64 s, .int .i64 k, .int .u64 b] 38))
  have V0 : Hid (Bs (w.alloc (.cells #[.int .i64 t, .int .i64 s, .int .i64 k, .int .u64 b] 38)) w.heap.size ⟨⟨t, s, k⟩, b⟩) := Lib.hid (Bs.new w ⟨⟨t, s, k⟩, b⟩ 38)
  have H0 := Lib.hid hb
  clear hb
  rcases hg : Gd.ok ⟨t, s, k⟩ with _ | _
  · have HG := Lib.hid hg
    clear hg
    go_enter Try.func16, Try.ntmps16
    go_wp2_with (go_at_call 24; (with_reducible refine (rgood_at (g := ⟨t, s, k⟩) HG.out _).mono ?_); rintro e w' ⟨rfl, hb⟩; replace HB := Lib.hid (below_on HB.out hb); clear hb)
    go_ret
    refine ⟨_, rfl, ?_, HB.out⟩
    rw [Sp.put_no HG.out]
    exact words_none _ _
  · have HG := Lib.hid hg
    clear hg
    have hok := Gd.ok_iff.1 HG.out
    simp only at hok
    have ut : IntKind.u64.wrap t = t := u64_in (by omega) (by omega)
    have us : IntKind.u64.wrap s = s := u64_in (by omega) (by omega)
    have uk : IntKind.u64.wrap k = k := u64_in (by omega) (by omega)
    clear hok
    go_enter Try.func16, Try.ntmps16
    go_wp2_with fail
    refine (rgood_at (g := ⟨t, s, k⟩) HG.out _).mono ?_
    rintro e w1 ⟨rfl, hb⟩
    have hv := V0.out.on hb
    have B1 := Lib.hid (below_on HB.out hb)
    have c0 : w1.cell? ⟨w.heap.size, 0, none⟩ = some (.int .i64 t) := hv.t
    have c1 : w1.cell? ⟨w.heap.size, 1, none⟩ = some (.int .i64 s) := hv.s
    have c2 : w1.cell? ⟨w.heap.size, 2, none⟩ = some (.int .i64 k) := hv.k
    have c3 : w1.cell? ⟨w.heap.size, 3, none⟩ = some (.int .u64 b) := hv.u
    clear hb hv HB V0
    go_wp2_with fail
    obtain ⟨w2, hw2⟩ : ∃ w2, w2 = w1.alloc (.cells #[.int .u64 8243106252149764145, .int .u64 t, .int .u64 s, .int .u64 k, .int .u64 b, .int .u64 0, .int .u64 0] 28) := ⟨_, rfl⟩
    have OW : Hid (w2.ownsRow w1.heap.size 28 1 (.slice (some ⟨w1.heap.size, 0, none⟩) 7 7) 7 (wcells (Sp.front ⟨⟨t, s, k⟩, b⟩))) := Lib.hid (by rw [hw2]; exact owns_seven w1 _ _ _ _ _ _ _)
    have B2 : Hid (Below w1.heap.size w1 w2) := Lib.hid (by rw [hw2]; exact below_alloc _ _)
    rw [← hw2]
    have hsl : Words w2 (.slice (some ⟨w1.heap.size, 0, none⟩) 7 7) (Sp.front ⟨⟨t, s, k⟩, b⟩) := words_of_owns OW.out
    obtain ⟨A, cp, hA, -, hL⟩ := hsl
    injection hA with hA1 hA2 hA3
    subst hA1
    clear hw2 ut us uk c0 c1 c2 c3 hA2 hA3
    refine (rsum_any (some ⟨w1.heap.size, 0, none⟩) 7 (Sp.front ⟨⟨t, s, k⟩, b⟩) w2 (by show 7 ≤ maxLen; unfold maxLen; omega) hL.lies (front_words HG.out H0.out)).mono ?_
    rintro e w3 ⟨rfl, rfl⟩
    obtain ⟨⟨p0, p1⟩, q0, q1⟩ := spin_range (Sp.front ⟨⟨t, s, k⟩, b⟩)
    obtain ⟨X, hX⟩ : ∃ X, close (Sp.front ⟨⟨t, s, k⟩, b⟩) = X := ⟨_, rfl⟩
    have hXe : (spin (Sp.front ⟨⟨t, s, k⟩, b⟩)).2 * 4294967296 + (spin (Sp.front ⟨⟨t, s, k⟩, b⟩)).1 = X := hX
    have HX := Lib.hid hX
    clear hX hL
    generalize (spin (Sp.front ⟨⟨t, s, k⟩, b⟩)).1 = p at *
    generalize (spin (Sp.front ⟨⟨t, s, k⟩, b⟩)).2 = q at *
    have up : IntKind.u64.wrap p = p := u64_in (by omega) (by omega)
    have uq : IntKind.u64.wrap q = q := u64_in (by omega) (by omega)
    have um : IntKind.u64.wrap (q * 4294967296) = q * 4294967296 := u64_in (by omega) (by omega)
    have ua : IntKind.u64.wrap (q * 4294967296 + p) = X := by rw [hXe]; exact u64_in (by omega) (by omega)
    clear hXe
    obtain ⟨i0, hii, hz0, hz1, hz2⟩ := info28_parts
    have HNEW : Hid (∀ (j : Nat) (u : Value), (wcells [X])[j]? = some u → (w2.alloc (.cells #[.int .u64 X] 28)).cell? ((⟨w2.heap.size, 0, none⟩ : Addr).add j) = some u) := Lib.hid fun j u hu => by
      rw [Addr.add_mid, Nat.zero_add, cell_of_row _ _ j _ _ _ (heap_alloc_new w2 _), ← hu]
      unfold wcells
      simp
    have HSZ : Hid (w1.heap.size ≤ (w2.alloc (.cells #[.int .u64 X] 28)).heap.size) := Lib.hid (by have := B2.out.size; simp; omega)
    have hB3 : Below w.heap.size w (w2.alloc (.cells #[.int .u64 X] 28)) := below_on (below_on B1.out B2.out) (below_alloc _ _)
    have hB4 : Below w1.heap.size w1 (w2.alloc (.cells #[.int .u64 X] 28)) := below_on B2.out (below_alloc _ _)
    have HB3 := Lib.hid hB3
    have HSW : Hid (w.heap.size ≤ w1.heap.size) := Lib.hid B1.out.size
    clear hB3 hB4
    go_wp2_with (at_builtin; refine wpList_append_own _ rfl _ _ 23 rfl w1.heap.size 28 i0 (.int .u64 0) 1 8 Try.underlying23 hii hz0 hz1 hz2 rfl (by decide) _ 7 (wcells (Sp.front ⟨⟨t, s, k⟩, b⟩)) rfl (OW.out.alloc _) ⟨w2.heap.size, 0, none⟩ 1 1 (wcells [X]) rfl rfl HNEW.out wcells_one (by unfold maxLen; omega) (by omega) HSZ.out ?_)
    intro v' w4 hown hgrow _
    have HOW := Lib.hid hown
    have HB4 := Lib.hid (HB3.out.grown hgrow HB3.out.size (fun k hk => by simp [Value.ownBlock] at hk; have := HSW.out; omega))
    clear hown hgrow
    go_wp2
    go_ret
    refine ⟨_, rfl, ?_, HB4.out⟩
    rw [Sp.put_yes HG.out]
    have := HOW.out
    have hf : wcells (Sp.front ⟨⟨t, s, k⟩, b⟩) ++ wcells [X] = wcells (Sp.full ⟨⟨t, s, k⟩, b⟩) := by
      unfold wcells
      rw [← List.map_append, ← HX.out]
      rfl
    rw [hf] at this
    exact words_of_owns this
end Go.Proofs.Yteadkcekoccmdaa
