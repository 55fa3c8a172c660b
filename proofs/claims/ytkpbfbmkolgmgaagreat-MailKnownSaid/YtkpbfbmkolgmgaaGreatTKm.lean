/-
  The program's Clone. Condition: the state lies in memory, at most a thousand slots and things.
-/
import Derived.Test.YtkpbfbmkolgmgaaGreatTKe
import Derived.Test.YtkpbfbmkolgmgaaGreatTKi
namespace Go.Proofs.YtkpbfbmkolgmgaaGreat
open Go.RowKit

/-- the parameter's box, the result's -/
structure Cbx (W w : World) (g q : Nat) (a b c : Int) (A : Option Addr) (n ca : Nat) (C : Option Addr) (m cc : Nat) : Prop where
  box : Sbx W w g a b c A n ca C m cc
  gf : ∀ j, w.frozen? ⟨g, j, none⟩ = false
  q0 : w.cell? ⟨q, 0, none⟩ = some (.int .i64 0)
  q1 : w.cell? ⟨q, 1, none⟩ = some (.int .i64 0)
  q2 : w.cell? ⟨q, 2, none⟩ = some (.int .i64 0)
  q3 : w.cell? ⟨q, 3, none⟩ = some (.slice none 0 0)
  q4 : w.cell? ⟨q, 4, none⟩ = some (.slice none 0 0)
  qf : ∀ j, w.frozen? ⟨q, j, none⟩ = false
  gq : g + 1 = q
  lt : q < w.heap.size
section
variable {W w w' : World} {g q : Nat} {a b c : Int} {A : Option Addr} {n ca : Nat} {C : Option Addr} {m cc : Nat}
theorem Cbx.on (h : Cbx W w g q a b c A n ca C m cc) (hb : Below w.heap.size w w') : Cbx W w' g q a b c A n ca C m cc := by
  have e : ∀ k, w'.cell? ⟨q, k, none⟩ = w.cell? ⟨q, k, none⟩ := fun k => hb.cell (p := ⟨q, k, none⟩) h.lt
  exact ⟨h.box.on hb, fun j => by rw [World.frozen?_of_block (w := w) (a := ⟨g, j, none⟩) (hb.block g h.box.lt)]; exact h.gf j, (e _).trans h.q0, (e _).trans h.q1, (e _).trans h.q2, (e _).trans h.q3, (e _).trans h.q4, fun j => by rw [World.frozen?_of_block (w := w) (a := ⟨q, j, none⟩) (hb.block q h.lt)]; exact h.qf j, h.gq, Nat.lt_of_lt_of_le h.lt hb.size⟩
theorem Cbx.set3 (h : Cbx W w g q a b c A n ca C m cc) (A' : Option Addr) (n' ca' : Nat) : Cbx W (w.setCell ⟨g, 3, none⟩ (.slice A' n' ca')) g q a b c A' n' ca' C m cc := by
  have hq : ∀ j, (w.setCell ⟨g, 3, none⟩ (.slice A' n' ca')).cell? ⟨q, j, none⟩ = w.cell? ⟨q, j, none⟩ := fun j => World.cell?_setCell_other _ _ _ _ (fun k => by injection k with k; have := h.gq; omega)
  exact ⟨⟨(set_ne _ _ _ _ _ (by decide)).trans h.box.c0, (set_ne _ _ _ _ _ (by decide)).trans h.box.c1, (set_ne _ _ _ _ _ (by decide)).trans h.box.c2, World.cell?_setCell_same _ _ _ h.box.c3, (set_ne _ _ _ _ _ (by decide)).trans h.box.c4, below_set h.box.old h.box.base, h.box.base, by simpa [World.setCell] using h.box.lt⟩, fun j => by rw [World.frozen?_setCell]; exact h.gf j, (hq _).trans h.q0, (hq _).trans h.q1, (hq _).trans h.q2, (hq _).trans h.q3, (hq _).trans h.q4, fun j => by rw [World.frozen?_setCell]; exact h.qf j, h.gq, by simpa [World.setCell] using h.lt⟩
theorem Cbx.set4 (h : Cbx W w g q a b c A n ca C m cc) (C' : Option Addr) (m' cc' : Nat) : Cbx W (w.setCell ⟨g, 4, none⟩ (.slice C' m' cc')) g q a b c A n ca C' m' cc' := by
  have hq : ∀ j, (w.setCell ⟨g, 4, none⟩ (.slice C' m' cc')).cell? ⟨q, j, none⟩ = w.cell? ⟨q, j, none⟩ := fun j => World.cell?_setCell_other _ _ _ _ (fun k => by injection k with k; have := h.gq; omega)
  exact ⟨⟨(set_ne _ _ _ _ _ (by decide)).trans h.box.c0, (set_ne _ _ _ _ _ (by decide)).trans h.box.c1, (set_ne _ _ _ _ _ (by decide)).trans h.box.c2, (set_ne _ _ _ _ _ (by decide)).trans h.box.c3, World.cell?_setCell_same _ _ _ h.box.c4, below_set h.box.old h.box.base, h.box.base, by simpa [World.setCell] using h.box.lt⟩, fun j => by rw [World.frozen?_setCell]; exact h.gf j, (hq _).trans h.q0, (hq _).trans h.q1, (hq _).trans h.q2, (hq _).trans h.q3, (hq _).trans h.q4, fun j => by rw [World.frozen?_setCell]; exact h.qf j, h.gq, by simpa [World.setCell] using h.lt⟩
end
theorem SlotsAt.fnd {w w' : World} {A : Option Addr} {l : List Sl} {g : Nat} (h : SlotsAt w w.heap.size A l) (k : Fnd w w' g) (hne : 0 < l.length → ∃ b, A = some ⟨b, 0, none⟩ ∧ b ≠ g) : SlotsAt w' w'.heap.size A l := fun h0 => by
  obtain ⟨b, o, e, hlt, hc⟩ := h h0
  obtain ⟨b', e', hn⟩ := hne h0
  rw [e] at e'
  injection e' with e'
  injection e' with e1 e2
  subst e1
  exact ⟨b, o, e, Nat.lt_of_lt_of_le hlt k.size, fun j hj => (hc j hj).same fun i => k.cell hlt hn⟩
theorem ThingsAt.fnd {w w' : World} {A : Option Addr} {l : List Tng} {g : Nat} (h : ThingsAt w w.heap.size A l) (k : Fnd w w' g) (hne : 0 < l.length → ∃ b, A = some ⟨b, 0, none⟩ ∧ b ≠ g) : ThingsAt w' w'.heap.size A l := fun h0 => by
  obtain ⟨b, o, e, hlt, hc⟩ := h h0
  obtain ⟨b', e', hn⟩ := hne h0
  rw [e] at e'
  injection e' with e'
  injection e' with e1 e2
  subst e1
  exact ⟨b, o, e, Nat.lt_of_lt_of_le hlt k.size, fun j hj => (hc j hj).same fun i => k.cell hlt hn⟩
/-- a state of the call's own, behind the two boxes at g -/
structure Fsc (W w : World) (g : Nat) (s : St) (A C : Option Addr) : Prop where
  lies : StAt w s A C
  sl : 0 < s.sl.length → ∃ b, A = some ⟨b, 0, none⟩ ∧ g + 2 ≤ b ∧ b < w.heap.size ∧ ∀ k, w.frozen? ⟨b, k, none⟩ = false
  th : 0 < s.th.length → ∃ b, C = some ⟨b, 0, none⟩ ∧ g + 2 ≤ b ∧ b < w.heap.size ∧ ∀ k, w.frozen? ⟨b, k, none⟩ = false
  ne : 0 < s.sl.length → 0 < s.th.length → A ≠ C
theorem Fsc.step {W w w' : World} {g k : Nat} {s : St} {A C : Option Addr} (h : Fsc W w g s A C) (f : Fnd w w' k) (hk : k < g + 2) : Fsc W w' g s A C :=
  ⟨⟨h.lies.sl.fnd f fun h0 => by obtain ⟨b, h1, h2, _⟩ := h.sl h0; exact ⟨b, h1, by omega⟩, h.lies.th.fnd f fun h0 => by obtain ⟨b, h1, h2, _⟩ := h.th h0; exact ⟨b, h1, by omega⟩⟩,
   fun h0 => by obtain ⟨b, h1, h2, h3, h4⟩ := h.sl h0; exact ⟨b, h1, h2, Nat.lt_of_lt_of_le h3 f.size, fun j => by rw [World.frozen?_of_block (w := w) (a := ⟨b, j, none⟩) (f.block b h3 (by omega))]; exact h4 j⟩,
   fun h0 => by obtain ⟨b, h1, h2, h3, h4⟩ := h.th h0; exact ⟨b, h1, h2, Nat.lt_of_lt_of_le h3 f.size, fun j => by rw [World.frozen?_of_block (w := w) (a := ⟨b, j, none⟩) (f.block b h3 (by omega))]; exact h4 j⟩, h.ne⟩
theorem Fsc.fsh {W w : World} {g : Nat} {s : St} {A C : Option Addr} (h : Fsc W w g s A C) (hg : W.heap.size ≤ g) : Fsh W w s A C :=
  ⟨h.lies, fun h0 => by obtain ⟨b, h1, h2, h3, h4⟩ := h.sl h0; exact ⟨b, h1, by omega, h3, h4⟩, fun h0 => by obtain ⟨b, h1, h2, h3, h4⟩ := h.th h0; exact ⟨b, h1, by omega, h3, h4⟩, h.ne⟩
def CmF (W wx : World) (g q : Nat) (a b c : Int) (n m : Nat) (s : St) : Prop := ∃ A' ca' C' cc', n ≤ ca' ∧ m ≤ cc' ∧ Cbx W wx g q a b c A' n ca' C' m cc' ∧ Fsc W wx g s A' C'
set_option maxRecDepth 100000 in
set_option maxHeartbeats 8000000 in
theorem pclone_is {s : St} {a b c : Int} {A C : Option Addr} {n ca m cc : Nat} {w : World} (hS : StH w s a b c A n ca C m cc) :
    Calls Tryz.prog 11 #[.agg #[.int .i64 a, .int .i64 b, .int .i64 c, .slice A n ca, .slice C m cc]] w fun e w' => CloneF w w' e a b c n m s := by
  have HS := Lib.hid hS
  have k1 : Cbx w ((w.alloc (.cells #[.int .i64 a, .int .i64 b, .int .i64 c, .slice A n ca, .slice C m cc] 27)).alloc (.cells #[.int .i64 0, .int .i64 0, .int .i64 0, .slice none 0 0, .slice none 0 0] 27)) w.heap.size (w.heap.size + 1) a b c A n ca C m cc := by
    have hb := Sbx.new w a b c A n ca C m cc 27
    have hq := Sbx.new (w.alloc (.cells #[.int .i64 a, .int .i64 b, .int .i64 c, .slice A n ca, .slice C m cc] 27)) 0 0 0 none 0 0 none 0 0 27
    have hsz : (w.alloc (.cells #[.int .i64 a, .int .i64 b, .int .i64 c, .slice A n ca, .slice C m cc] 27)).heap.size = w.heap.size + 1 := by simp
    have hgf : ∀ j, (w.alloc (.cells #[.int .i64 a, .int .i64 b, .int .i64 c, .slice A n ca, .slice C m cc] 27)).frozen? ⟨w.heap.size, j, none⟩ = false := fun j => frozen_of_row _ _ j _ _ (heap_alloc_new _ _)
    have hqf : ∀ j, ((w.alloc (.cells #[.int .i64 a, .int .i64 b, .int .i64 c, .slice A n ca, .slice C m cc] 27)).alloc (.cells #[.int .i64 0, .int .i64 0, .int .i64 0, .slice none 0 0, .slice none 0 0] 27)).frozen? ⟨(w.alloc (.cells #[.int .i64 a, .int .i64 b, .int .i64 c, .slice A n ca, .slice C m cc] 27)).heap.size, j, none⟩ = false := fun j => frozen_of_row _ _ j _ _ (heap_alloc_new _ _)
    rw [hsz] at hq hqf
    have hal := below_alloc (w.alloc (.cells #[.int .i64 a, .int .i64 b, .int .i64 c, .slice A n ca, .slice C m cc] 27)) (.cells #[.int .i64 0, .int .i64 0, .int .i64 0, .slice none 0 0, .slice none 0 0] 27)
    exact ⟨hb.on hal, fun j => by rw [World.frozen?_of_block (a := ⟨w.heap.size, j, none⟩) (hal.block _ hb.lt)]; exact hgf j, hq.c0, hq.c1, hq.c2, hq.c3, hq.c4, hqf, rfl, hq.lt⟩
  clear hS
  go_enter Tryz.func11, Tryz.ntmps11
  go_wp2_with fail
  obtain ⟨g, hg⟩ : ∃ g, g = w.heap.size := ⟨_, rfl⟩
  have HGW := Lib.hid hg
  obtain ⟨q, hq⟩ : ∃ q, q = g + 1 := ⟨_, rfl⟩
  rw [← hg, ← hq] at k1
  rw [← hg]
  try rw [← hq]
  clear hg hq
  generalize (w.alloc _).alloc _ = w1 at k1 ⊢
  have HC1 := Lib.hid k1
  clear k1
  go_cut [10] from 3 to 10 (fun _ wx => CmF w wx g q a b c n m s)
  case first =>
    refine wp_region_held_drew (S := fun _ => True) (by kernel_rfl) trivial (fun hHeld => ?_)
    have HC0 := Lib.hid (HC1.out.on (below_self w1).drew)
    generalize w1.drew = w0 at HC0 ⊢
    have HH0 := Lib.hid (HS.out.on HC0.out.box.old)
    refine wpAnyH_take (i := 0) (v := ?_) rfl (by kernel_rfl) (by kernel_rfl) (by kernel_rfl) (fun _ _ _ h => h) (Or.inl ⟨by rfl, ?_⟩) (by assumption) ?_
    rotate_left
    · intro w hSw; go_split_ands; go_simp; try with_reducible rfl
    simp only [Act.put, List.setIfInBounds_toArray, List.set_cons_zero, List.set_cons_succ, List.getElem_toArray, List.getElem_cons_zero]
    refine wpAnyH_take (i := 3) (v := ?_) rfl (by kernel_rfl) (by kernel_rfl) (by kernel_rfl) (fun _ _ _ h => h) (Or.inl ⟨by rfl, ?_⟩) (by assumption) ?_
    rotate_left
    · intro w hSw; go_split_ands; go_simp; try with_reducible rfl
    simp only [Act.put, List.setIfInBounds_toArray, List.set_cons_zero, List.set_cons_succ, List.getElem_toArray, List.getElem_cons_zero, List.getElem_cons_succ]
    refine wpAnyH_ready (rs := [1, 4]) (by kernel_rfl) (by simp) ?_
    refine AllReadyH.cons rfl (fun K hK => ?_) (AllReadyH.cons rfl (fun K hK => ?_) AllReadyH.nil)
    · obtain ⟨⟨b0, b1, b2, c3, c4, -, -, lt⟩, -, -, -, -, -, -, -, -, -⟩ := HC0.out
      go_simp
      refine hK.out _ _ trivial (fun hHeld => ?_)
      clear hK K
      try simp only [Act.put, List.setIfInBounds_toArray, List.set_cons_zero, List.set_cons_succ, List.getElem_toArray, List.getElem_cons_zero, List.getElem_cons_succ]
      clear b0 b1 b2 c3 c4 lt
      refine wpAnyH_ready (rs := [2, 4]) (by kernel_rfl) (by simp) ?_
      refine AllReadyH.cons rfl (fun K hK => ?_) (AllReadyH.cons rfl (fun K hK => ?_) AllReadyH.nil)
      · go_simp
        refine (clsl_at (HH0.out.lies.sl) HS.out.hn HS.out.few).mono ?_
        rintro e w0x ⟨A', ca', rfl, hca', hSA, hSB, hb⟩
        have HC0x := Lib.hid (HC0.out.on hb)
        have HH0x := Lib.hid (HH0.out.on hb)
        have HCA := Lib.hid hca'
        have HSA := Lib.hid hSA
        have HSB : Hid (0 < s.sl.length → ∃ b, A' = some ⟨b, 0, none⟩ ∧ g + 2 ≤ b ∧ b < w0x.heap.size ∧ ∀ k, w0x.frozen? ⟨b, k, none⟩ = false) := Lib.hid fun h => by obtain ⟨b, h1, h2, h3, h4⟩ := hSB h; exact ⟨b, h1, by have := HC0.out.lt; have := HC0.out.gq; omega, h3, h4⟩
        clear hb hca' hSA hSB
        refine hK.out _ _ trivial (fun hHeld => ?_)
        clear hK K
        try simp only [Act.put, List.setIfInBounds_toArray, List.set_cons_zero, List.set_cons_succ, List.getElem_toArray, List.getElem_cons_zero, List.getElem_cons_succ]
        refine wpAnyH_ready (rs := [4]) (by kernel_rfl) (by simp) ?_
        refine AllReadyH.cons rfl (fun K hK => ?_) AllReadyH.nil
        obtain ⟨⟨b0, b1, b2, c3, c4, -, -, lt⟩, -, -, -, -, -, -, -, -, -⟩ := HC0x.out
        go_simp
        refine hK.out _ _ trivial (fun hHeld => ?_)
        clear hK K
        try simp only [Act.put, List.setIfInBounds_toArray, List.set_cons_zero, List.set_cons_succ, List.getElem_toArray, List.getElem_cons_zero, List.getElem_cons_succ]
        clear b0 b1 b2 c3 c4 lt
        refine wpAnyH_take (i := 6) (v := ?_) rfl (by kernel_rfl) (by kernel_rfl) (by kernel_rfl) (fun _ _ _ h => h) (Or.inl ⟨by rfl, ?_⟩) (by assumption) ?_
        rotate_left
        · intro w hSw; go_split_ands; go_simp; try with_reducible rfl
        simp only [Act.put, List.setIfInBounds_toArray, List.set_cons_zero, List.set_cons_succ, List.getElem_toArray, List.getElem_cons_zero, List.getElem_cons_succ]
        refine wpAnyH_ready (rs := [5]) (by kernel_rfl) (by simp) ?_
        refine AllReadyH.cons rfl (fun K hK => ?_) AllReadyH.nil
        go_simp
        refine (clth_at (HH0x.out.lies.th) HS.out.hm HS.out.fewm).mono ?_
        rintro e w0xy ⟨C', cc', rfl, hcc', hTA, hTB, hb⟩
        have HC0xy := Lib.hid (HC0x.out.on hb)
        have HSA2 := Lib.hid (HSA.out.on hb)
        have hF : Fsc w w0xy g s A' C' := ⟨⟨HSA2.out, hTA⟩, fun h => by obtain ⟨b, h1, h2, h3, h4⟩ := HSB.out h; exact ⟨b, h1, h2, Nat.lt_of_lt_of_le h3 hb.size, fun k => by rw [World.frozen?_of_block (w := w0x) (a := ⟨b, k, none⟩) (hb.block b h3)]; exact h4 k⟩, fun h => by obtain ⟨b, h1, h2, h3, h4⟩ := hTB h; exact ⟨b, h1, by have := HC0x.out.lt; have := HC0x.out.gq; omega, h3, h4⟩, fun h1 h2 e => by obtain ⟨b, h3, h4, h5, h6⟩ := HSB.out h1; obtain ⟨b', h3', h4', h5', h6'⟩ := hTB h2; rw [h3, h3'] at e; injection e with e; injection e with e; omega⟩
        have HF := Lib.hid hF
        have HCC := Lib.hid hcc'
        clear hb hcc' hTA hTB hF HSA HSB HSA2
        refine hK.out _ _ trivial (fun hHeld => ?_)
        clear hK K
        try simp only [Act.put, List.setIfInBounds_toArray, List.set_cons_zero, List.set_cons_succ, List.getElem_toArray, List.getElem_cons_zero, List.getElem_cons_succ]
        obtain ⟨⟨b0, b1, b2, c3, c4, -, -, lt⟩, gf, -, -, -, -, -, -, -, -⟩ := HC0xy.out
        have gf3 := gf 3
        have gf4 := gf 4
        refine wpAnyH_ready (rs := [7]) (by kernel_rfl) (by simp) ?_
        refine AllReadyH.cons rfl (fun K hK => ?_) AllReadyH.nil
        go_simp
        refine hK.out _ _ trivial (fun hHeld => ?_)
        clear hK K
        try simp only [Act.put, List.setIfInBounds_toArray, List.set_cons_zero, List.set_cons_succ, List.getElem_toArray, List.getElem_cons_zero, List.getElem_cons_succ]
        refine wpAnyH_take (i := 8) (v := ?_) rfl (by kernel_rfl) (by kernel_rfl) (by kernel_rfl) (fun _ _ _ h => h) (Or.inl ⟨by rfl, ?_⟩) (by assumption) ?_
        rotate_left
        · intro w hSw; go_split_ands; go_simp; try with_reducible rfl
        simp only [Act.put, List.setIfInBounds_toArray, List.set_cons_zero, List.set_cons_succ, List.getElem_toArray, List.getElem_cons_zero, List.getElem_cons_succ]
        have HC7 := Lib.hid (HC0xy.out.set3 A' n ca')
        have HF7 := Lib.hid (HF.out.step (Fnd.mark w0xy g 3 (.slice A' n ca')) (by omega))
        clear b0 b1 b2 c3 c4 lt gf gf3 gf4
        obtain ⟨⟨b0, b1, b2, c3, c4, -, -, lt⟩, gf, -, -, -, -, -, -, -, -⟩ := HC7.out
        have gf3 := gf 3
        have gf4 := gf 4
        refine wpAnyH_ready (rs := [9]) (by kernel_rfl) (by simp) ?_
        refine AllReadyH.cons rfl (fun K hK => ?_) AllReadyH.nil
        go_simp
        refine hK.out _ _ trivial (fun hHeld => ?_)
        clear hK K
        try simp only [Act.put, List.setIfInBounds_toArray, List.set_cons_zero, List.set_cons_succ, List.getElem_toArray, List.getElem_cons_zero, List.getElem_cons_succ]
        refine wpAnyH_done (by kernel_rfl) ?_ _
        have HC8 := Lib.hid (HC7.out.set4 C' m cc')
        have HF8 := Lib.hid (HF7.out.step (Fnd.mark _ g 4 (.slice C' m cc')) (by omega))
        clear b0 b1 b2 c3 c4 lt gf gf3 gf4
        go_wp2_with fail
        go_meet
        exact ⟨_, _, _, _, HCA.out, HCC.out, HC8.out, HF8.out⟩
      · obtain ⟨⟨b0, b1, b2, c3, c4, -, -, lt⟩, -, -, -, -, -, -, -, -, -⟩ := HC0.out
        go_simp
        refine hK.out _ _ trivial (fun hHeld => ?_)
        clear hK K
        try simp only [Act.put, List.setIfInBounds_toArray, List.set_cons_zero, List.set_cons_succ, List.getElem_toArray, List.getElem_cons_zero, List.getElem_cons_succ]
        clear b0 b1 b2 c3 c4 lt
        refine wpAnyH_ready (rs := [2]) (by kernel_rfl) (by simp) ?_
        refine AllReadyH.cons rfl (fun K hK => ?_) AllReadyH.nil
        go_simp
        refine (clsl_at (HH0.out.lies.sl) HS.out.hn HS.out.few).mono ?_
        rintro e w0x ⟨A', ca', rfl, hca', hSA, hSB, hb⟩
        have HC0x := Lib.hid (HC0.out.on hb)
        have HH0x := Lib.hid (HH0.out.on hb)
        have HCA := Lib.hid hca'
        have HSA := Lib.hid hSA
        have HSB : Hid (0 < s.sl.length → ∃ b, A' = some ⟨b, 0, none⟩ ∧ g + 2 ≤ b ∧ b < w0x.heap.size ∧ ∀ k, w0x.frozen? ⟨b, k, none⟩ = false) := Lib.hid fun h => by obtain ⟨b, h1, h2, h3, h4⟩ := hSB h; exact ⟨b, h1, by have := HC0.out.lt; have := HC0.out.gq; omega, h3, h4⟩
        clear hb hca' hSA hSB
        refine hK.out _ _ trivial (fun hHeld => ?_)
        clear hK K
        try simp only [Act.put, List.setIfInBounds_toArray, List.set_cons_zero, List.set_cons_succ, List.getElem_toArray, List.getElem_cons_zero, List.getElem_cons_succ]
        refine wpAnyH_take (i := 6) (v := ?_) rfl (by kernel_rfl) (by kernel_rfl) (by kernel_rfl) (fun _ _ _ h => h) (Or.inl ⟨by rfl, ?_⟩) (by assumption) ?_
        rotate_left
        · intro w hSw; go_split_ands; go_simp; try with_reducible rfl
        simp only [Act.put, List.setIfInBounds_toArray, List.set_cons_zero, List.set_cons_succ, List.getElem_toArray, List.getElem_cons_zero, List.getElem_cons_succ]
        refine wpAnyH_ready (rs := [5]) (by kernel_rfl) (by simp) ?_
        refine AllReadyH.cons rfl (fun K hK => ?_) AllReadyH.nil
        go_simp
        refine (clth_at (HH0x.out.lies.th) HS.out.hm HS.out.fewm).mono ?_
        rintro e w0xy ⟨C', cc', rfl, hcc', hTA, hTB, hb⟩
        have HC0xy := Lib.hid (HC0x.out.on hb)
        have HSA2 := Lib.hid (HSA.out.on hb)
        have hF : Fsc w w0xy g s A' C' := ⟨⟨HSA2.out, hTA⟩, fun h => by obtain ⟨b, h1, h2, h3, h4⟩ := HSB.out h; exact ⟨b, h1, h2, Nat.lt_of_lt_of_le h3 hb.size, fun k => by rw [World.frozen?_of_block (w := w0x) (a := ⟨b, k, none⟩) (hb.block b h3)]; exact h4 k⟩, fun h => by obtain ⟨b, h1, h2, h3, h4⟩ := hTB h; exact ⟨b, h1, by have := HC0x.out.lt; have := HC0x.out.gq; omega, h3, h4⟩, fun h1 h2 e => by obtain ⟨b, h3, h4, h5, h6⟩ := HSB.out h1; obtain ⟨b', h3', h4', h5', h6'⟩ := hTB h2; rw [h3, h3'] at e; injection e with e; injection e with e; omega⟩
        have HF := Lib.hid hF
        have HCC := Lib.hid hcc'
        clear hb hcc' hTA hTB hF HSA HSB HSA2
        refine hK.out _ _ trivial (fun hHeld => ?_)
        clear hK K
        try simp only [Act.put, List.setIfInBounds_toArray, List.set_cons_zero, List.set_cons_succ, List.getElem_toArray, List.getElem_cons_zero, List.getElem_cons_succ]
        obtain ⟨⟨b0, b1, b2, c3, c4, -, -, lt⟩, gf, -, -, -, -, -, -, -, -⟩ := HC0xy.out
        have gf3 := gf 3
        have gf4 := gf 4
        refine wpAnyH_ready (rs := [7]) (by kernel_rfl) (by simp) ?_
        refine AllReadyH.cons rfl (fun K hK => ?_) AllReadyH.nil
        go_simp
        refine hK.out _ _ trivial (fun hHeld => ?_)
        clear hK K
        try simp only [Act.put, List.setIfInBounds_toArray, List.set_cons_zero, List.set_cons_succ, List.getElem_toArray, List.getElem_cons_zero, List.getElem_cons_succ]
        refine wpAnyH_take (i := 8) (v := ?_) rfl (by kernel_rfl) (by kernel_rfl) (by kernel_rfl) (fun _ _ _ h => h) (Or.inl ⟨by rfl, ?_⟩) (by assumption) ?_
        rotate_left
        · intro w hSw; go_split_ands; go_simp; try with_reducible rfl
        simp only [Act.put, List.setIfInBounds_toArray, List.set_cons_zero, List.set_cons_succ, List.getElem_toArray, List.getElem_cons_zero, List.getElem_cons_succ]
        have HC7 := Lib.hid (HC0xy.out.set3 A' n ca')
        have HF7 := Lib.hid (HF.out.step (Fnd.mark w0xy g 3 (.slice A' n ca')) (by omega))
        clear b0 b1 b2 c3 c4 lt gf gf3 gf4
        obtain ⟨⟨b0, b1, b2, c3, c4, -, -, lt⟩, gf, -, -, -, -, -, -, -, -⟩ := HC7.out
        have gf3 := gf 3
        have gf4 := gf 4
        refine wpAnyH_ready (rs := [9]) (by kernel_rfl) (by simp) ?_
        refine AllReadyH.cons rfl (fun K hK => ?_) AllReadyH.nil
        go_simp
        refine hK.out _ _ trivial (fun hHeld => ?_)
        clear hK K
        try simp only [Act.put, List.setIfInBounds_toArray, List.set_cons_zero, List.set_cons_succ, List.getElem_toArray, List.getElem_cons_zero, List.getElem_cons_succ]
        refine wpAnyH_done (by kernel_rfl) ?_ _
        have HC8 := Lib.hid (HC7.out.set4 C' m cc')
        have HF8 := Lib.hid (HF7.out.step (Fnd.mark _ g 4 (.slice C' m cc')) (by omega))
        clear b0 b1 b2 c3 c4 lt gf gf3 gf4
        go_wp2_with fail
        go_meet
        exact ⟨_, _, _, _, HCA.out, HCC.out, HC8.out, HF8.out⟩
    · obtain ⟨⟨b0, b1, b2, c3, c4, -, -, lt⟩, -, -, -, -, -, -, -, -, -⟩ := HC0.out
      go_simp
      refine hK.out _ _ trivial (fun hHeld => ?_)
      clear hK K
      try simp only [Act.put, List.setIfInBounds_toArray, List.set_cons_zero, List.set_cons_succ, List.getElem_toArray, List.getElem_cons_zero, List.getElem_cons_succ]
      clear b0 b1 b2 c3 c4 lt
      refine wpAnyH_ready (rs := [1]) (by kernel_rfl) (by simp) ?_
      refine AllReadyH.cons rfl (fun K hK => ?_) AllReadyH.nil
      obtain ⟨⟨b0, b1, b2, c3, c4, -, -, lt⟩, -, -, -, -, -, -, -, -, -⟩ := HC0.out
      go_simp
      refine hK.out _ _ trivial (fun hHeld => ?_)
      clear hK K
      try simp only [Act.put, List.setIfInBounds_toArray, List.set_cons_zero, List.set_cons_succ, List.getElem_toArray, List.getElem_cons_zero, List.getElem_cons_succ]
      clear b0 b1 b2 c3 c4 lt
      refine wpAnyH_ready (rs := [2]) (by kernel_rfl) (by simp) ?_
      refine AllReadyH.cons rfl (fun K hK => ?_) AllReadyH.nil
      go_simp
      refine (clsl_at (HH0.out.lies.sl) HS.out.hn HS.out.few).mono ?_
      rintro e w0x ⟨A', ca', rfl, hca', hSA, hSB, hb⟩
      have HC0x := Lib.hid (HC0.out.on hb)
      have HH0x := Lib.hid (HH0.out.on hb)
      have HCA := Lib.hid hca'
      have HSA := Lib.hid hSA
      have HSB : Hid (0 < s.sl.length → ∃ b, A' = some ⟨b, 0, none⟩ ∧ g + 2 ≤ b ∧ b < w0x.heap.size ∧ ∀ k, w0x.frozen? ⟨b, k, none⟩ = false) := Lib.hid fun h => by obtain ⟨b, h1, h2, h3, h4⟩ := hSB h; exact ⟨b, h1, by have := HC0.out.lt; have := HC0.out.gq; omega, h3, h4⟩
      clear hb hca' hSA hSB
      refine hK.out _ _ trivial (fun hHeld => ?_)
      clear hK K
      try simp only [Act.put, List.setIfInBounds_toArray, List.set_cons_zero, List.set_cons_succ, List.getElem_toArray, List.getElem_cons_zero, List.getElem_cons_succ]
      refine wpAnyH_take (i := 6) (v := ?_) rfl (by kernel_rfl) (by kernel_rfl) (by kernel_rfl) (fun _ _ _ h => h) (Or.inl ⟨by rfl, ?_⟩) (by assumption) ?_
      rotate_left
      · intro w hSw; go_split_ands; go_simp; try with_reducible rfl
      simp only [Act.put, List.setIfInBounds_toArray, List.set_cons_zero, List.set_cons_succ, List.getElem_toArray, List.getElem_cons_zero, List.getElem_cons_succ]
      refine wpAnyH_ready (rs := [5]) (by kernel_rfl) (by simp) ?_
      refine AllReadyH.cons rfl (fun K hK => ?_) AllReadyH.nil
      go_simp
      refine (clth_at (HH0x.out.lies.th) HS.out.hm HS.out.fewm).mono ?_
      rintro e w0xy ⟨C', cc', rfl, hcc', hTA, hTB, hb⟩
      have HC0xy := Lib.hid (HC0x.out.on hb)
      have HSA2 := Lib.hid (HSA.out.on hb)
      have hF : Fsc w w0xy g s A' C' := ⟨⟨HSA2.out, hTA⟩, fun h => by obtain ⟨b, h1, h2, h3, h4⟩ := HSB.out h; exact ⟨b, h1, h2, Nat.lt_of_lt_of_le h3 hb.size, fun k => by rw [World.frozen?_of_block (w := w0x) (a := ⟨b, k, none⟩) (hb.block b h3)]; exact h4 k⟩, fun h => by obtain ⟨b, h1, h2, h3, h4⟩ := hTB h; exact ⟨b, h1, by have := HC0x.out.lt; have := HC0x.out.gq; omega, h3, h4⟩, fun h1 h2 e => by obtain ⟨b, h3, h4, h5, h6⟩ := HSB.out h1; obtain ⟨b', h3', h4', h5', h6'⟩ := hTB h2; rw [h3, h3'] at e; injection e with e; injection e with e; omega⟩
      have HF := Lib.hid hF
      have HCC := Lib.hid hcc'
      clear hb hcc' hTA hTB hF HSA HSB HSA2
      refine hK.out _ _ trivial (fun hHeld => ?_)
      clear hK K
      try simp only [Act.put, List.setIfInBounds_toArray, List.set_cons_zero, List.set_cons_succ, List.getElem_toArray, List.getElem_cons_zero, List.getElem_cons_succ]
      obtain ⟨⟨b0, b1, b2, c3, c4, -, -, lt⟩, gf, -, -, -, -, -, -, -, -⟩ := HC0xy.out
      have gf3 := gf 3
      have gf4 := gf 4
      refine wpAnyH_ready (rs := [7]) (by kernel_rfl) (by simp) ?_
      refine AllReadyH.cons rfl (fun K hK => ?_) AllReadyH.nil
      go_simp
      refine hK.out _ _ trivial (fun hHeld => ?_)
      clear hK K
      try simp only [Act.put, List.setIfInBounds_toArray, List.set_cons_zero, List.set_cons_succ, List.getElem_toArray, List.getElem_cons_zero, List.getElem_cons_succ]
      refine wpAnyH_take (i := 8) (v := ?_) rfl (by kernel_rfl) (by kernel_rfl) (by kernel_rfl) (fun _ _ _ h => h) (Or.inl ⟨by rfl, ?_⟩) (by assumption) ?_
      rotate_left
      · intro w hSw; go_split_ands; go_simp; try with_reducible rfl
      simp only [Act.put, List.setIfInBounds_toArray, List.set_cons_zero, List.set_cons_succ, List.getElem_toArray, List.getElem_cons_zero, List.getElem_cons_succ]
      have HC7 := Lib.hid (HC0xy.out.set3 A' n ca')
      have HF7 := Lib.hid (HF.out.step (Fnd.mark w0xy g 3 (.slice A' n ca')) (by omega))
      clear b0 b1 b2 c3 c4 lt gf gf3 gf4
      obtain ⟨⟨b0, b1, b2, c3, c4, -, -, lt⟩, gf, -, -, -, -, -, -, -, -⟩ := HC7.out
      have gf3 := gf 3
      have gf4 := gf 4
      refine wpAnyH_ready (rs := [9]) (by kernel_rfl) (by simp) ?_
      refine AllReadyH.cons rfl (fun K hK => ?_) AllReadyH.nil
      go_simp
      refine hK.out _ _ trivial (fun hHeld => ?_)
      clear hK K
      try simp only [Act.put, List.setIfInBounds_toArray, List.set_cons_zero, List.set_cons_succ, List.getElem_toArray, List.getElem_cons_zero, List.getElem_cons_succ]
      refine wpAnyH_done (by kernel_rfl) ?_ _
      have HC8 := Lib.hid (HC7.out.set4 C' m cc')
      have HF8 := Lib.hid (HF7.out.step (Fnd.mark _ g 4 (.slice C' m cc')) (by omega))
      clear b0 b1 b2 c3 c4 lt gf gf3 gf4
      go_wp2_with fail
      go_meet
      exact ⟨_, _, _, _, HCA.out, HCC.out, HC8.out, HF8.out⟩
  obtain ⟨A', ca', C', cc', hca', hcc', hC, hF⟩ := hcut
  have HC2 := Lib.hid hC
  have HF2 := Lib.hid hF
  have HCA := Lib.hid hca'
  have HCC := Lib.hid hcc'
  clear hC hF hca' hcc' HC1
  obtain ⟨⟨b0, b1, b2, c3, c4, old, -, lt⟩, -, q0, q1, q2, q3, q4, qf, hgq, qlt⟩ := HC2.out
  have f0 := qf 0
  have f1 := qf 1
  have f2 := qf 2
  have f3 := qf 3
  have f4 := qf 4
  have HOLD := Lib.hid old
  have HQG := Lib.hid hgq
  clear qf old hgq
  go_wp2
  refine bodyPost_ret (by simp [results, Tryz.results11, go_sem, q0, q1, q2, q3, q4]; rfl) rfl ?_
  have hk : q < g + 2 := by have := HQG.out; omega
  have hq : w.heap.size ≤ q := by have := HQG.out; have := HGW.out; omega
  refine ⟨A', ca', C', cc', rfl, HCA.out, HCC.out, Fsc.fsh (g := g) (((((HF2.out.step (Fnd.mark _ q 0 _) hk).step (Fnd.mark _ q 1 _) hk).step (Fnd.mark _ q 2 _) hk).step (Fnd.mark _ q 3 _) hk).step (Fnd.mark _ q 4 _) hk) (by have := HGW.out; omega), ?_⟩
  exact below_set (below_set (below_set (below_set (below_set HOLD.out hq) hq) hq) hq) hq
end Go.Proofs.YtkpbfbmkolgmgaaGreat
