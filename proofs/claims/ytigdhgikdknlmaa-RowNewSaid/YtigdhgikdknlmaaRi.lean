/-
  The walk of the law RowNew of reevelaw2: it answers true. Condition: the acts lie in memory.
-/
import Derived.Test.YtigdhgikdknlmaaRh
import Derived.Deep.CutBlock
namespace Go.Proofs.Ytigdhgikdknlmaa
open Go.RowKit

theorem At.cellN {w : World} {b : Nat} {r : Ln} (h : At w b 0 r) (k j : Nat) (hk : k = 8 + j) (hj : j < 8) : w.cell? ⟨b, k, none⟩ = some (.int .u64 (r.N.getD j 0)) := by
  have := h.N hj
  rwa [Nat.zero_add, ← hk] at this
theorem At.out0 {w : World} {b : Nat} {r : Ln} (h : At w b 0 r) : w.cell? ⟨b, 16, none⟩ = some (.bool r.out) := by
  have := h.out
  rwa [Nat.zero_add] at this
theorem At.sent0 {w : World} {b : Nat} {r : Ln} (h : At w b 0 r) : w.cell? ⟨b, 17, none⟩ = some (.bool r.sent) := by
  have := h.sent
  rwa [Nat.zero_add] at this

/-- at the head of a round -/
def NewRel (W : World) (R NB n : Nat) (k : Nat) (p : Value) (wr : World) : Prop :=
  ∃ (i : Nat) (r : Ln), k + i = n ∧ p = .int .i64 i ∧ At wr R 0 r ∧ Eight wr NB r.N ∧ (r.out = false → r.L = r.N) ∧ (r.sent = true → r.out = true) ∧ Below W.heap.size W wr

/-- behind an act -/
def Mid (W : World) (R : Nat) (wc : World) : Prop :=
  ∃ r : Ln, At wc R 0 r ∧ Eight wc (R + 1) r.N ∧ (r.out = false → r.L = r.N) ∧ (r.sent = true → r.out = true) ∧ Below W.heap.size W wc
theorem mid_of {W wr wc : World} {R : Nat} {r r' : Ln} (hE : Eight wr (R + 1) r.N) (hB : Below W.heap.size W wr) (hR : W.heap.size ≤ R) (ht : Turn wr wc R 0 r') (hN : r'.N = r.N)
    (h1 : r'.out = false → r'.L = r'.N) (h2 : r'.sent = true → r'.out = true) : Mid W R wc :=
  ⟨r', ht.here, by rw [hN]; exact hE.turn ht (by omega), h1, h2, hB.trans (ht.fr.below hR hB.size)⟩

theorem mid_flush {W wr wc : World} {R : Nat} {r : Ln} (hE : Eight wr (R + 1) r.N) (hB : Below W.heap.size W wr) (hR : W.heap.size ≤ R) (ht : Turn wr wc R 0 r.flush)
    (h1 : r.out = false → r.L = r.N) (h2 : r.sent = true → r.out = true) : Mid W R wc := by
  refine mid_of hE hB hR ht rfl h1 ?_
  obtain ⟨L, N, ou, se⟩ := r
  cases ou <;> cases se <;> simp_all [Ln.flush]
theorem mid_fence {W wr wc : World} {R : Nat} {r : Ln} (hE : Eight wr (R + 1) r.N) (hB : Below W.heap.size W wr) (hR : W.heap.size ≤ R) (ht : Turn wr wc R 0 r.fence)
    (h1 : r.out = false → r.L = r.N) (h2 : r.sent = true → r.out = true) : Mid W R wc := by
  obtain ⟨L, N, ou, se⟩ := r
  cases ou <;> cases se <;> first | exact mid_of hE hB hR ht rfl h1 h2 | exact mid_of hE hB hR ht rfl (fun _ => rfl) (fun h => by cases h)
theorem mid_fall {W wr wc : World} {R : Nat} {r : Ln} (hE : Eight wr (R + 1) r.N) (hB : Below W.heap.size W wr) (hR : W.heap.size ≤ R) (ht : Turn wr wc R 0 (r.fall true))
    (h1 : r.out = false → r.L = r.N) (h2 : r.sent = true → r.out = true) : Mid W R wc := by
  obtain ⟨L, N, ou, se⟩ := r
  cases ou
  · exact mid_of hE hB hR ht rfl h1 h2
  · exact mid_of hE hB hR ht rfl (fun _ => rfl) (fun h => by cases h)
theorem below_trans' {B : Nat} {wr w1 w2 : World} {R : Nat} (h : Below B wr.drew w1) (hf : Fr (w1.drewN 1) w2 (R + 1) 0 8) (hR : B ≤ R) (hB : B ≤ wr.heap.size) : Below B wr w2 := by
  have h' : Below B wr w1 := ⟨h.os, h.tape, h.output, h.size, h.block⟩
  exact (below_draws h' 1).trans (hf.below (by omega) (Nat.le_trans hB h'.size))
theorem mid_store {W wr w1 : World} {R i : Nat} {v : Int} {r : Ln} (hE : Eight w1 (R + 1) (r.N.set i v)) (hA : At w1 R 0 { r with N := r.N.set i v, out := true, sent := false }) (hB : Below W.heap.size W wr)
    (hb : Below W.heap.size wr w1) (k : Nat) : Mid W R (w1.drewN k) :=
  ⟨_, hA.drewN k, hE.drewN k, fun h => (by cases h), fun h => (by cases h), below_draws (hB.trans hb) k⟩
theorem store_keep (R b p q : Nat) (i v : Int) (x y : Value) (r : Ln) (w : World) (h : At w R 0 r) (hx : w.cell? ⟨b, p, none⟩ = some x) (hy : w.cell? ⟨b, q, none⟩ = some y) (hb : b < R) :
    Calls Try.prog 8 #[.pointer (some ⟨R, 0, none⟩), .int .i64 i, .int .u64 v] w fun e w' => e = .returned (.bool (inl i)) ∧ Turn w w' R 0 (r.store i v) ∧ w'.cell? ⟨b, p, none⟩ = some x ∧ w'.cell? ⟨b, q, none⟩ = some y :=
  (store_any R 0 i v r w h).mono fun e w' ⟨h1, h2⟩ => by
    have hk := h2.fr.block b (Nat.lt_trans hb h.lt) (by omega)
    exact ⟨h1, h2, (World.cell?_of_block (a := ⟨b, p, none⟩) hk).trans hx, (World.cell?_of_block (a := ⟨b, q, none⟩) hk).trans hy⟩

set_option maxRecDepth 100000 in
set_option maxHeartbeats 4000000 in
theorem new_walk_in (A : Option Addr) (cap : Nat) (l : List Ac) (w : World) (hl : l.length ≤ 80) (hL : ActsAt w w.heap.size A l) :
    Calls Try.prog 6 #[.slice A l.length cap] w fun e w' => e = .returned (.bool true) ∧ Below w.heap.size w w' := by
  have LL := Lib.hid hL
  obtain ⟨n, hn⟩ : ∃ m, m = l.length := ⟨_, rfl⟩
  rw [← hn] at hl ⊢
  have HN := Lib.hid hn
  clear hn hL
  have hl2 : ¬ (80 : Int) < n := by omega
  go_enter Try.func6, Try.ntmps6
  go_wp2_with fail
  refine (awake_any _).mono ?_
  rintro e w0 ⟨rfl, hb⟩
  have HR : Hid (w.heap.size ≤ w0.heap.size) := Lib.hid hb.size
  have B0 := Lib.hid ((hb.alloc hb.size (.cells blank.cells.toArray 27)).alloc (by have := hb.size; simp; omega) (.cells (wcells zeros).toArray 25))
  have E0 := Lib.hid (Eight.new (w0.alloc (.cells blank.cells.toArray 27)) 25 zeros rfl)
  have A0 := Lib.hid ((At.new w0 27 blank blank_ok).keep (Below.heap_alloc (w0.alloc (.cells blank.cells.toArray 27)) (.cells (wcells zeros).toArray 25) w0.heap.size (by simp)))
  clear hb
  simp only [blank, Ln.cells, wcells, zeros, List.map_cons, List.map_nil, List.cons_append, List.nil_append] at A0 B0 E0
  go_wp2_with fail
  obtain ⟨R, hR⟩ : ∃ R, R = w0.heap.size := ⟨_, rfl⟩
  simp only [World.size_alloc, ← hR] at A0 E0 HR ⊢
  clear hR
  go_loopg [5] n (fun k p wr => NewRel w R (R + 1) n k p wr)
  case atStart =>
    refine ⟨0, blank, by omega, rfl, A0.out, E0.out, fun _ => rfl, ?_, B0.out⟩
    intro h; cases h
  case round =>
    obtain ⟨i, r, hk, rfl, hA, hE, h1, h2, hB⟩ := hrel
    have HA := Lib.hid hA
    have HE := Lib.hid hE
    have HB := Lib.hid hB
    have H1 := Lib.hid h1
    have H2 := Lib.hid h2
    have HK := Lib.hid hk
    clear hA hE hB h1 h2 hk A0 E0 B0
    by_cases hlt : i < n
    · obtain ⟨b, o, rfl, hbl, hcs⟩ := LL.out (by rw [← HN.out]; omega)
      obtain ⟨a, ha⟩ : ∃ a, l[i]? = some a := ⟨l[i]'(by rw [← HN.out]; exact hlt), List.getElem?_eq_getElem _⟩
      obtain ⟨g1, g2, g3⟩ := hcs i a ha
      have c1 : wr.cell? ⟨b, o + i * 3, none⟩ = some (.int .i64 a.op) := by rw [← g1]; exact HB.out.cell hbl
      have c2 : wr.cell? ⟨b, o + i * 3 + 1, none⟩ = some (.int .i64 a.at_) := by rw [← g2]; exact HB.out.cell hbl
      have c3 : wr.cell? ⟨b, o + i * 3 + 2, none⟩ = some (.int .u64 a.v) := by rw [← g3]; exact HB.out.cell hbl
      have hbR : Hid (b < R) := Lib.hid (Nat.lt_of_lt_of_le hbl HR.out)
      clear g1 g2 g3 hcs ha hbl
      have hlt2 : (i : Int) < (n : Int) := by omega
      go_upto_block 2 with fail
      go_cut [] from 14 to 122 (fun wc => Mid w R wc)
      case first =>
        have hop : ((a.op : Int) == 0) = true ∨ (((a.op : Int) == 0) = false ∧ ((a.op : Int) == 1) = true) ∨ (((a.op : Int) == 0) = false ∧ ((a.op : Int) == 1) = false ∧ ((a.op : Int) == 2) = true) ∨ (((a.op : Int) == 0) = false ∧ ((a.op : Int) == 1) = false ∧ ((a.op : Int) == 2) = false) := by
          cases ((a.op : Int) == 0) <;> cases ((a.op : Int) == 1) <;> cases ((a.op : Int) == 2) <;> simp
        rcases hop with o1 | ⟨o1, o2⟩ | ⟨o1, o2, o3⟩ | ⟨o1, o2, o3⟩
        · have HAd : Hid (At wr.drew R 0 r) := Lib.hid (HA.out.drewN 1)
          have D2 : Hid (wr.drew.cell? ⟨b, o + i * 3 + 1, none⟩ = some (.int .i64 a.at_)) := c2
          have D3 : Hid (wr.drew.cell? ⟨b, o + i * 3 + 2, none⟩ = some (.int .u64 a.v)) := c3
          have hb : inl a.at_ = false ∨ inl a.at_ = true := by cases inl a.at_ <;> simp
          rcases hb with hb | hb
          · have HS : Hid (r.store a.at_ a.v = r) := Lib.hid (by unfold Ln.store; rw [hb]; rfl)
            have HIN := Lib.hid hb
            rcases inl_no hb with hx | hx
            · have d1 : decide ((0 : Int) ≤ a.at_) = false := by simp; omega
              clear hb
              go_wp2_with fail
              refine wp_region_held_drew (S := fun w' => w'.cell? ⟨b, o + i * 3 + 1, none⟩ = some (.int .i64 a.at_) ∧ w'.cell? ⟨b, o + i * 3 + 2, none⟩ = some (.int .u64 a.v)) (by kernel_rfl) ⟨D2.out, D3.out⟩ (fun hHeld => ?_)
              refine wpAnyH_take (i := 0) (v := ?_) rfl (by kernel_rfl) (by kernel_rfl) (by kernel_rfl) (fun _ _ _ h => h) (Or.inl ⟨by rfl, ?_⟩) (by assumption) ?_
              rotate_left
              · intro w hSw; go_split_ands; go_simp; try with_reducible rfl
              simp only [Act.put, List.setIfInBounds_toArray, List.set_cons_zero, List.set_cons_succ, List.getElem_toArray, List.getElem_cons_zero]
              refine wpAnyH_take (i := 1) (v := ?_) rfl (by kernel_rfl) (by kernel_rfl) (by kernel_rfl) (fun _ _ _ h => h) (Or.inl ⟨by rfl, ?_⟩) (by assumption) ?_
              rotate_left
              · intro w hSw; go_split_ands; go_simp; try with_reducible rfl
              simp only [Act.put, List.setIfInBounds_toArray, List.set_cons_zero, List.set_cons_succ, List.getElem_toArray, List.getElem_cons_zero, List.getElem_cons_succ]
              refine wpAnyH_take (i := 2) (v := ?_) rfl (by kernel_rfl) (by kernel_rfl) (by kernel_rfl) (fun _ _ _ h => h) (Or.inl ⟨by rfl, ?_⟩) (by assumption) ?_
              rotate_left
              · intro w hSw; go_split_ands; go_simp; try with_reducible rfl
              simp only [Act.put, List.setIfInBounds_toArray, List.set_cons_zero, List.set_cons_succ, List.getElem_toArray, List.getElem_cons_zero, List.getElem_cons_succ]
              refine wpAnyH_take (i := 3) (v := ?_) rfl (by kernel_rfl) (by kernel_rfl) (by kernel_rfl) (fun _ _ _ h => h) (Or.inl ⟨by rfl, ?_⟩) (by assumption) ?_
              rotate_left
              · intro w hSw; go_split_ands; go_simp; try with_reducible rfl
              simp only [Act.put, List.setIfInBounds_toArray, List.set_cons_zero, List.set_cons_succ, List.getElem_toArray, List.getElem_cons_zero, List.getElem_cons_succ]
              refine wpAnyH_take (i := 4) (v := ?_) rfl (by kernel_rfl) (by kernel_rfl) (by kernel_rfl) (fun _ _ _ h => h) (Or.inl ⟨by rfl, ?_⟩) (by assumption) ?_
              rotate_left
              · intro w hSw; go_split_ands; go_simp; try with_reducible rfl
              simp only [Act.put, List.setIfInBounds_toArray, List.set_cons_zero, List.set_cons_succ, List.getElem_toArray, List.getElem_cons_zero, List.getElem_cons_succ]
              refine wpAnyH_take (i := 5) (v := ?_) rfl (by kernel_rfl) (by kernel_rfl) (by kernel_rfl) (fun _ _ _ h => h) (Or.inl ⟨by rfl, ?_⟩) (by assumption) ?_
              rotate_left
              · intro w hSw; go_split_ands; go_simp; try with_reducible rfl
              simp only [Act.put, List.setIfInBounds_toArray, List.set_cons_zero, List.set_cons_succ, List.getElem_toArray, List.getElem_cons_zero, List.getElem_cons_succ]
              refine wpAnyH_take (i := 6) (v := ?_) rfl (by kernel_rfl) (by kernel_rfl) (by kernel_rfl) (fun _ _ _ h => h) (Or.inl ⟨by rfl, ?_⟩) (by assumption) ?_
              rotate_left
              · intro w hSw; go_split_ands; go_simp; try with_reducible rfl
              simp only [Act.put, List.setIfInBounds_toArray, List.set_cons_zero, List.set_cons_succ, List.getElem_toArray, List.getElem_cons_zero, List.getElem_cons_succ]
              refine wpAnyH_take (i := 7) (v := ?_) rfl (by kernel_rfl) (by kernel_rfl) (by kernel_rfl) (fun _ _ _ h => h) (Or.inl ⟨by rfl, ?_⟩) (by assumption) ?_
              rotate_left
              · intro w hSw; go_split_ands; go_simp; try with_reducible rfl
              simp only [Act.put, List.setIfInBounds_toArray, List.set_cons_zero, List.set_cons_succ, List.getElem_toArray, List.getElem_cons_zero, List.getElem_cons_succ]
              refine wpAnyH_take (i := 8) (v := ?_) rfl (by kernel_rfl) (by kernel_rfl) (by kernel_rfl) (fun _ _ _ h => h) (Or.inl ⟨by rfl, ?_⟩) (by assumption) ?_
              rotate_left
              · intro w hSw; go_split_ands; go_simp; try with_reducible rfl
              simp only [Act.put, List.setIfInBounds_toArray, List.set_cons_zero, List.set_cons_succ, List.getElem_toArray, List.getElem_cons_zero, List.getElem_cons_succ]
              refine wpAnyH_take (i := 9) (v := ?_) rfl (by kernel_rfl) (by kernel_rfl) (by kernel_rfl) (fun _ _ _ h => h) (Or.inl ⟨by rfl, ?_⟩) (by assumption) ?_
              rotate_left
              · intro w hSw; go_split_ands; go_simp; try with_reducible rfl
              simp only [Act.put, List.setIfInBounds_toArray, List.set_cons_zero, List.set_cons_succ, List.getElem_toArray, List.getElem_cons_zero, List.getElem_cons_succ]
              refine wpAnyH_take (i := 10) (v := ?_) rfl (by kernel_rfl) (by kernel_rfl) (by kernel_rfl) (fun _ _ _ h => h) (Or.inl ⟨by rfl, ?_⟩) (by assumption) ?_
              rotate_left
              · intro w hSw; go_split_ands; go_simp; try with_reducible rfl
              simp only [Act.put, List.setIfInBounds_toArray, List.set_cons_zero, List.set_cons_succ, List.getElem_toArray, List.getElem_cons_zero, List.getElem_cons_succ]
              refine wpAnyH_take (i := 12) (v := ?_) rfl (by kernel_rfl) (by kernel_rfl) (by kernel_rfl) (fun _ _ _ h => h) (Or.inl ⟨by rfl, ?_⟩) (by assumption) ?_
              rotate_left
              · intro w hSw; go_split_ands; go_simp; try with_reducible rfl
              simp only [Act.put, List.setIfInBounds_toArray, List.set_cons_zero, List.set_cons_succ, List.getElem_toArray, List.getElem_cons_zero, List.getElem_cons_succ]
              refine wpAnyH_take (i := 13) (v := ?_) rfl (by kernel_rfl) (by kernel_rfl) (by kernel_rfl) (fun _ _ _ h => h) (Or.inl ⟨by rfl, ?_⟩) (by assumption) ?_
              rotate_left
              · intro w hSw; go_split_ands; go_simp; try with_reducible rfl
              simp only [Act.put, List.setIfInBounds_toArray, List.set_cons_zero, List.set_cons_succ, List.getElem_toArray, List.getElem_cons_zero, List.getElem_cons_succ]
              refine wpAnyH_take (i := 14) (v := ?_) rfl (by kernel_rfl) (by kernel_rfl) (by kernel_rfl) (fun _ _ _ h => h) (Or.inl ⟨by rfl, ?_⟩) (by assumption) ?_
              rotate_left
              · intro w hSw; go_split_ands; go_simp; try with_reducible rfl
              simp only [Act.put, List.setIfInBounds_toArray, List.set_cons_zero, List.set_cons_succ, List.getElem_toArray, List.getElem_cons_zero, List.getElem_cons_succ]
              refine wpAnyH_take (i := 15) (v := ?_) rfl (by kernel_rfl) (by kernel_rfl) (by kernel_rfl) (fun _ _ _ h => h) (Or.inl ⟨by rfl, ?_⟩) (by assumption) ?_
              rotate_left
              · intro w hSw; go_split_ands; go_simp; try with_reducible rfl
              simp only [Act.put, List.setIfInBounds_toArray, List.set_cons_zero, List.set_cons_succ, List.getElem_toArray, List.getElem_cons_zero, List.getElem_cons_succ]
              refine wpAnyH_take (i := 16) (v := ?_) rfl (by kernel_rfl) (by kernel_rfl) (by kernel_rfl) (fun _ _ _ h => h) (Or.inl ⟨by rfl, ?_⟩) (by assumption) ?_
              rotate_left
              · intro w hSw; go_split_ands; go_simp; try with_reducible rfl
              simp only [Act.put, List.setIfInBounds_toArray, List.set_cons_zero, List.set_cons_succ, List.getElem_toArray, List.getElem_cons_zero, List.getElem_cons_succ]
              refine wpAnyH_take (i := 17) (v := ?_) rfl (by kernel_rfl) (by kernel_rfl) (by kernel_rfl) (fun _ _ _ h => h) (Or.inl ⟨by rfl, ?_⟩) (by assumption) ?_
              rotate_left
              · intro w hSw; go_split_ands; go_simp; try with_reducible rfl
              simp only [Act.put, List.setIfInBounds_toArray, List.set_cons_zero, List.set_cons_succ, List.getElem_toArray, List.getElem_cons_zero, List.getElem_cons_succ]
              refine wpAnyH_ready (rs := [11]) (by kernel_rfl) (by simp) ?_
              refine AllReadyH.cons rfl (fun K hK => ?_) AllReadyH.nil
              go_simp
              refine (store_keep R b _ _ a.at_ a.v _ _ r _ HAd.out D2.out D3.out hbR.out).mono ?_
              rw [HIN.out]
              rintro e w' ⟨rfl, ht, q1, q2⟩
              refine hK.out _ _ ⟨q1, q2⟩ (fun hHeld => ?_)
              clear hK K
              try simp only [Act.put, List.setIfInBounds_toArray, List.set_cons_zero, List.set_cons_succ]
              refine wpAnyH_take (i := 18) (v := ?_) rfl (by kernel_rfl) (by kernel_rfl) (by kernel_rfl) (fun _ _ _ h => h) (Or.inl ⟨by rfl, ?_⟩) (by assumption) ?_
              rotate_left
              · intro w hSw; go_split_ands; go_simp; try with_reducible rfl
              simp only [Act.put, List.setIfInBounds_toArray, List.set_cons_zero, List.set_cons_succ, List.getElem_toArray, List.getElem_cons_zero, List.getElem_cons_succ]
              refine wpAnyH_take (i := 19) rfl (by kernel_rfl) (by kernel_rfl) (by kernel_rfl) (fun _ _ _ h => h) (Or.inr ⟨by rfl, rfl⟩) (by assumption) ?_
              simp only [Act.put, List.setIfInBounds_toArray, List.set_cons_zero, List.set_cons_succ, List.getElem_toArray, List.getElem_cons_zero, List.getElem_cons_succ]
              refine wpAnyH_take (i := 20) rfl (by kernel_rfl) (by kernel_rfl) (by kernel_rfl) (fun _ _ _ h => h) (Or.inr ⟨by rfl, rfl⟩) (by assumption) ?_
              simp only [Act.put, List.setIfInBounds_toArray, List.set_cons_zero, List.set_cons_succ, List.getElem_toArray, List.getElem_cons_zero, List.getElem_cons_succ]
              refine wpAnyH_take (i := 21) rfl (by kernel_rfl) (by kernel_rfl) (by kernel_rfl) (fun _ _ _ h => h) (Or.inr ⟨by rfl, rfl⟩) (by assumption) ?_
              simp only [Act.put, List.setIfInBounds_toArray, List.set_cons_zero, List.set_cons_succ, List.getElem_toArray, List.getElem_cons_zero, List.getElem_cons_succ]
              refine wpAnyH_take (i := 22) rfl (by kernel_rfl) (by kernel_rfl) (by kernel_rfl) (fun _ _ _ h => h) (Or.inr ⟨by rfl, rfl⟩) (by assumption) ?_
              simp only [Act.put, List.setIfInBounds_toArray, List.set_cons_zero, List.set_cons_succ, List.getElem_toArray, List.getElem_cons_zero, List.getElem_cons_succ]
              refine wpAnyH_take (i := 23) rfl (by kernel_rfl) (by kernel_rfl) (by kernel_rfl) (fun _ _ _ h => h) (Or.inr ⟨by rfl, rfl⟩) (by assumption) ?_
              simp only [Act.put, List.setIfInBounds_toArray, List.set_cons_zero, List.set_cons_succ, List.getElem_toArray, List.getElem_cons_zero, List.getElem_cons_succ]
              refine wpAnyH_take (i := 24) rfl (by kernel_rfl) (by kernel_rfl) (by kernel_rfl) (fun _ _ _ h => h) (Or.inr ⟨by rfl, rfl⟩) (by assumption) ?_
              simp only [Act.put, List.setIfInBounds_toArray, List.set_cons_zero, List.set_cons_succ, List.getElem_toArray, List.getElem_cons_zero, List.getElem_cons_succ]
              refine wpAnyH_take (i := 25) (v := ?_) rfl (by kernel_rfl) (by kernel_rfl) (by kernel_rfl) (fun _ _ _ h => h) (Or.inl ⟨by rfl, ?_⟩) (by assumption) ?_
              rotate_left
              · intro w hSw; go_split_ands; go_simp; try with_reducible rfl
              simp only [Act.put, List.setIfInBounds_toArray, List.set_cons_zero, List.set_cons_succ, List.getElem_toArray, List.getElem_cons_zero, List.getElem_cons_succ]
              refine wpAnyH_take (i := 26) (v := ?_) rfl (by kernel_rfl) (by kernel_rfl) (by kernel_rfl) (fun _ _ _ h => h) (Or.inl ⟨by rfl, ?_⟩) (by assumption) ?_
              rotate_left
              · intro w hSw; go_split_ands; go_simp; try with_reducible rfl
              simp only [Act.put, List.setIfInBounds_toArray, List.set_cons_zero, List.set_cons_succ, List.getElem_toArray, List.getElem_cons_zero, List.getElem_cons_succ]
              refine wpAnyH_done (by kernel_rfl) ?_ _
              have HT := Lib.hid ht
              clear ht
              go_wp2
              go_meet
              rw [HS.out] at HT
              exact mid_of (HE.out.drewN 1) (below_draws HB.out 1) HR.out HT.out rfl H1.out H2.out
            · have d1 : decide ((0 : Int) ≤ a.at_) = true := by simp; omega
              have d2 : decide (a.at_ < (8 : Int)) = false := by simp; omega
              clear hb
              go_wp2_with fail
              refine wp_region_held_drew (S := fun w' => w'.cell? ⟨b, o + i * 3 + 1, none⟩ = some (.int .i64 a.at_) ∧ w'.cell? ⟨b, o + i * 3 + 2, none⟩ = some (.int .u64 a.v)) (by kernel_rfl) ⟨D2.out, D3.out⟩ (fun hHeld => ?_)
              refine wpAnyH_take (i := 0) (v := ?_) rfl (by kernel_rfl) (by kernel_rfl) (by kernel_rfl) (fun _ _ _ h => h) (Or.inl ⟨by rfl, ?_⟩) (by assumption) ?_
              rotate_left
              · intro w hSw; go_split_ands; go_simp; try with_reducible rfl
              simp only [Act.put, List.setIfInBounds_toArray, List.set_cons_zero, List.set_cons_succ, List.getElem_toArray, List.getElem_cons_zero]
              refine wpAnyH_take (i := 1) (v := ?_) rfl (by kernel_rfl) (by kernel_rfl) (by kernel_rfl) (fun _ _ _ h => h) (Or.inl ⟨by rfl, ?_⟩) (by assumption) ?_
              rotate_left
              · intro w hSw; go_split_ands; go_simp; try with_reducible rfl
              simp only [Act.put, List.setIfInBounds_toArray, List.set_cons_zero, List.set_cons_succ, List.getElem_toArray, List.getElem_cons_zero, List.getElem_cons_succ]
              refine wpAnyH_take (i := 2) (v := ?_) rfl (by kernel_rfl) (by kernel_rfl) (by kernel_rfl) (fun _ _ _ h => h) (Or.inl ⟨by rfl, ?_⟩) (by assumption) ?_
              rotate_left
              · intro w hSw; go_split_ands; go_simp; try with_reducible rfl
              simp only [Act.put, List.setIfInBounds_toArray, List.set_cons_zero, List.set_cons_succ, List.getElem_toArray, List.getElem_cons_zero, List.getElem_cons_succ]
              refine wpAnyH_take (i := 3) (v := ?_) rfl (by kernel_rfl) (by kernel_rfl) (by kernel_rfl) (fun _ _ _ h => h) (Or.inl ⟨by rfl, ?_⟩) (by assumption) ?_
              rotate_left
              · intro w hSw; go_split_ands; go_simp; try with_reducible rfl
              simp only [Act.put, List.setIfInBounds_toArray, List.set_cons_zero, List.set_cons_succ, List.getElem_toArray, List.getElem_cons_zero, List.getElem_cons_succ]
              refine wpAnyH_take (i := 4) (v := ?_) rfl (by kernel_rfl) (by kernel_rfl) (by kernel_rfl) (fun _ _ _ h => h) (Or.inl ⟨by rfl, ?_⟩) (by assumption) ?_
              rotate_left
              · intro w hSw; go_split_ands; go_simp; try with_reducible rfl
              simp only [Act.put, List.setIfInBounds_toArray, List.set_cons_zero, List.set_cons_succ, List.getElem_toArray, List.getElem_cons_zero, List.getElem_cons_succ]
              refine wpAnyH_take (i := 5) (v := ?_) rfl (by kernel_rfl) (by kernel_rfl) (by kernel_rfl) (fun _ _ _ h => h) (Or.inl ⟨by rfl, ?_⟩) (by assumption) ?_
              rotate_left
              · intro w hSw; go_split_ands; go_simp; try with_reducible rfl
              simp only [Act.put, List.setIfInBounds_toArray, List.set_cons_zero, List.set_cons_succ, List.getElem_toArray, List.getElem_cons_zero, List.getElem_cons_succ]
              refine wpAnyH_take (i := 6) (v := ?_) rfl (by kernel_rfl) (by kernel_rfl) (by kernel_rfl) (fun _ _ _ h => h) (Or.inl ⟨by rfl, ?_⟩) (by assumption) ?_
              rotate_left
              · intro w hSw; go_split_ands; go_simp; try with_reducible rfl
              simp only [Act.put, List.setIfInBounds_toArray, List.set_cons_zero, List.set_cons_succ, List.getElem_toArray, List.getElem_cons_zero, List.getElem_cons_succ]
              refine wpAnyH_take (i := 7) (v := ?_) rfl (by kernel_rfl) (by kernel_rfl) (by kernel_rfl) (fun _ _ _ h => h) (Or.inl ⟨by rfl, ?_⟩) (by assumption) ?_
              rotate_left
              · intro w hSw; go_split_ands; go_simp; try with_reducible rfl
              simp only [Act.put, List.setIfInBounds_toArray, List.set_cons_zero, List.set_cons_succ, List.getElem_toArray, List.getElem_cons_zero, List.getElem_cons_succ]
              refine wpAnyH_take (i := 8) (v := ?_) rfl (by kernel_rfl) (by kernel_rfl) (by kernel_rfl) (fun _ _ _ h => h) (Or.inl ⟨by rfl, ?_⟩) (by assumption) ?_
              rotate_left
              · intro w hSw; go_split_ands; go_simp; try with_reducible rfl
              simp only [Act.put, List.setIfInBounds_toArray, List.set_cons_zero, List.set_cons_succ, List.getElem_toArray, List.getElem_cons_zero, List.getElem_cons_succ]
              refine wpAnyH_take (i := 9) (v := ?_) rfl (by kernel_rfl) (by kernel_rfl) (by kernel_rfl) (fun _ _ _ h => h) (Or.inl ⟨by rfl, ?_⟩) (by assumption) ?_
              rotate_left
              · intro w hSw; go_split_ands; go_simp; try with_reducible rfl
              simp only [Act.put, List.setIfInBounds_toArray, List.set_cons_zero, List.set_cons_succ, List.getElem_toArray, List.getElem_cons_zero, List.getElem_cons_succ]
              refine wpAnyH_take (i := 10) (v := ?_) rfl (by kernel_rfl) (by kernel_rfl) (by kernel_rfl) (fun _ _ _ h => h) (Or.inl ⟨by rfl, ?_⟩) (by assumption) ?_
              rotate_left
              · intro w hSw; go_split_ands; go_simp; try with_reducible rfl
              simp only [Act.put, List.setIfInBounds_toArray, List.set_cons_zero, List.set_cons_succ, List.getElem_toArray, List.getElem_cons_zero, List.getElem_cons_succ]
              refine wpAnyH_take (i := 12) (v := ?_) rfl (by kernel_rfl) (by kernel_rfl) (by kernel_rfl) (fun _ _ _ h => h) (Or.inl ⟨by rfl, ?_⟩) (by assumption) ?_
              rotate_left
              · intro w hSw; go_split_ands; go_simp; try with_reducible rfl
              simp only [Act.put, List.setIfInBounds_toArray, List.set_cons_zero, List.set_cons_succ, List.getElem_toArray, List.getElem_cons_zero, List.getElem_cons_succ]
              refine wpAnyH_take (i := 13) (v := ?_) rfl (by kernel_rfl) (by kernel_rfl) (by kernel_rfl) (fun _ _ _ h => h) (Or.inl ⟨by rfl, ?_⟩) (by assumption) ?_
              rotate_left
              · intro w hSw; go_split_ands; go_simp; try with_reducible rfl
              simp only [Act.put, List.setIfInBounds_toArray, List.set_cons_zero, List.set_cons_succ, List.getElem_toArray, List.getElem_cons_zero, List.getElem_cons_succ]
              refine wpAnyH_take (i := 14) (v := ?_) rfl (by kernel_rfl) (by kernel_rfl) (by kernel_rfl) (fun _ _ _ h => h) (Or.inl ⟨by rfl, ?_⟩) (by assumption) ?_
              rotate_left
              · intro w hSw; go_split_ands; go_simp; try with_reducible rfl
              simp only [Act.put, List.setIfInBounds_toArray, List.set_cons_zero, List.set_cons_succ, List.getElem_toArray, List.getElem_cons_zero, List.getElem_cons_succ]
              refine wpAnyH_take (i := 15) (v := ?_) rfl (by kernel_rfl) (by kernel_rfl) (by kernel_rfl) (fun _ _ _ h => h) (Or.inl ⟨by rfl, ?_⟩) (by assumption) ?_
              rotate_left
              · intro w hSw; go_split_ands; go_simp; try with_reducible rfl
              simp only [Act.put, List.setIfInBounds_toArray, List.set_cons_zero, List.set_cons_succ, List.getElem_toArray, List.getElem_cons_zero, List.getElem_cons_succ]
              refine wpAnyH_take (i := 16) (v := ?_) rfl (by kernel_rfl) (by kernel_rfl) (by kernel_rfl) (fun _ _ _ h => h) (Or.inl ⟨by rfl, ?_⟩) (by assumption) ?_
              rotate_left
              · intro w hSw; go_split_ands; go_simp; try with_reducible rfl
              simp only [Act.put, List.setIfInBounds_toArray, List.set_cons_zero, List.set_cons_succ, List.getElem_toArray, List.getElem_cons_zero, List.getElem_cons_succ]
              refine wpAnyH_take (i := 17) (v := ?_) rfl (by kernel_rfl) (by kernel_rfl) (by kernel_rfl) (fun _ _ _ h => h) (Or.inl ⟨by rfl, ?_⟩) (by assumption) ?_
              rotate_left
              · intro w hSw; go_split_ands; go_simp; try with_reducible rfl
              simp only [Act.put, List.setIfInBounds_toArray, List.set_cons_zero, List.set_cons_succ, List.getElem_toArray, List.getElem_cons_zero, List.getElem_cons_succ]
              refine wpAnyH_ready (rs := [11]) (by kernel_rfl) (by simp) ?_
              refine AllReadyH.cons rfl (fun K hK => ?_) AllReadyH.nil
              go_simp
              refine (store_keep R b _ _ a.at_ a.v _ _ r _ HAd.out D2.out D3.out hbR.out).mono ?_
              rw [HIN.out]
              rintro e w' ⟨rfl, ht, q1, q2⟩
              refine hK.out _ _ ⟨q1, q2⟩ (fun hHeld => ?_)
              clear hK K
              try simp only [Act.put, List.setIfInBounds_toArray, List.set_cons_zero, List.set_cons_succ]
              refine wpAnyH_take (i := 18) (v := ?_) rfl (by kernel_rfl) (by kernel_rfl) (by kernel_rfl) (fun _ _ _ h => h) (Or.inl ⟨by rfl, ?_⟩) (by assumption) ?_
              rotate_left
              · intro w hSw; go_split_ands; go_simp; try with_reducible rfl
              simp only [Act.put, List.setIfInBounds_toArray, List.set_cons_zero, List.set_cons_succ, List.getElem_toArray, List.getElem_cons_zero, List.getElem_cons_succ]
              refine wpAnyH_take (i := 19) (v := ?_) rfl (by kernel_rfl) (by kernel_rfl) (by kernel_rfl) (fun _ _ _ h => h) (Or.inl ⟨by rfl, ?_⟩) (by assumption) ?_
              rotate_left
              · intro w hSw; go_split_ands; go_simp; try with_reducible rfl
              simp only [Act.put, List.setIfInBounds_toArray, List.set_cons_zero, List.set_cons_succ, List.getElem_toArray, List.getElem_cons_zero, List.getElem_cons_succ]
              refine wpAnyH_take (i := 20) (v := ?_) rfl (by kernel_rfl) (by kernel_rfl) (by kernel_rfl) (fun _ _ _ h => h) (Or.inl ⟨by rfl, ?_⟩) (by assumption) ?_
              rotate_left
              · intro w hSw; go_split_ands; go_simp; try with_reducible rfl
              simp only [Act.put, List.setIfInBounds_toArray, List.set_cons_zero, List.set_cons_succ, List.getElem_toArray, List.getElem_cons_zero, List.getElem_cons_succ]
              refine wpAnyH_take (i := 21) (v := ?_) rfl (by kernel_rfl) (by kernel_rfl) (by kernel_rfl) (fun _ _ _ h => h) (Or.inl ⟨by rfl, ?_⟩) (by assumption) ?_
              rotate_left
              · intro w hSw; go_split_ands; go_simp; try with_reducible rfl
              simp only [Act.put, List.setIfInBounds_toArray, List.set_cons_zero, List.set_cons_succ, List.getElem_toArray, List.getElem_cons_zero, List.getElem_cons_succ]
              refine wpAnyH_take (i := 22) (v := ?_) rfl (by kernel_rfl) (by kernel_rfl) (by kernel_rfl) (fun _ _ _ h => h) (Or.inl ⟨by rfl, ?_⟩) (by assumption) ?_
              rotate_left
              · intro w hSw; go_split_ands; go_simp; try with_reducible rfl
              simp only [Act.put, List.setIfInBounds_toArray, List.set_cons_zero, List.set_cons_succ, List.getElem_toArray, List.getElem_cons_zero, List.getElem_cons_succ]
              refine wpAnyH_take (i := 23) (v := ?_) rfl (by kernel_rfl) (by kernel_rfl) (by kernel_rfl) (fun _ _ _ h => h) (Or.inl ⟨by rfl, ?_⟩) (by assumption) ?_
              rotate_left
              · intro w hSw; go_split_ands; go_simp; try with_reducible rfl
              simp only [Act.put, List.setIfInBounds_toArray, List.set_cons_zero, List.set_cons_succ, List.getElem_toArray, List.getElem_cons_zero, List.getElem_cons_succ]
              refine wpAnyH_take (i := 24) (v := ?_) rfl (by kernel_rfl) (by kernel_rfl) (by kernel_rfl) (fun _ _ _ h => h) (Or.inl ⟨by rfl, ?_⟩) (by assumption) ?_
              rotate_left
              · intro w hSw; go_split_ands; go_simp; try with_reducible rfl
              simp only [Act.put, List.setIfInBounds_toArray, List.set_cons_zero, List.set_cons_succ, List.getElem_toArray, List.getElem_cons_zero, List.getElem_cons_succ]
              refine wpAnyH_take (i := 25) (v := ?_) rfl (by kernel_rfl) (by kernel_rfl) (by kernel_rfl) (fun _ _ _ h => h) (Or.inl ⟨by rfl, ?_⟩) (by assumption) ?_
              rotate_left
              · intro w hSw; go_split_ands; go_simp; try with_reducible rfl
              simp only [Act.put, List.setIfInBounds_toArray, List.set_cons_zero, List.set_cons_succ, List.getElem_toArray, List.getElem_cons_zero, List.getElem_cons_succ]
              refine wpAnyH_take (i := 26) (v := ?_) rfl (by kernel_rfl) (by kernel_rfl) (by kernel_rfl) (fun _ _ _ h => h) (Or.inl ⟨by rfl, ?_⟩) (by assumption) ?_
              rotate_left
              · intro w hSw; go_split_ands; go_simp; try with_reducible rfl
              simp only [Act.put, List.setIfInBounds_toArray, List.set_cons_zero, List.set_cons_succ, List.getElem_toArray, List.getElem_cons_zero, List.getElem_cons_succ]
              refine wpAnyH_done (by kernel_rfl) ?_ _
              have HT := Lib.hid ht
              clear ht
              go_wp2
              go_meet
              rw [HS.out] at HT
              exact mid_of (HE.out.drewN 1) (below_draws HB.out 1) HR.out HT.out rfl H1.out H2.out
          · obtain ⟨x0, x1⟩ := inl_yes hb
            have HS : Hid (r.store a.at_ a.v = { r with N := r.N.set a.at_.toNat a.v, out := true, sent := false }) := Lib.hid (by unfold Ln.store; rw [if_pos hb])
            have HIN := Lib.hid hb
            clear hb
            obtain ⟨k, hk⟩ := Int.eq_ofNat_of_zero_le x0
            have HKK := Lib.hid hk
            have d1 : decide ((0 : Int) ≤ a.at_) = true := by simp; omega
            have d2 : decide (a.at_ < (8 : Int)) = true := by simp; omega
            clear hk
            go_wp2_with fail
            refine wp_region_held_drew (S := fun w' => w'.cell? ⟨b, o + i * 3 + 1, none⟩ = some (.int .i64 a.at_) ∧ w'.cell? ⟨b, o + i * 3 + 2, none⟩ = some (.int .u64 a.v)) (by kernel_rfl) ⟨D2.out, D3.out⟩ (fun hHeld => ?_)
            refine wpAnyH_take (i := 0) (v := ?_) rfl (by kernel_rfl) (by kernel_rfl) (by kernel_rfl) (fun _ _ _ h => h) (Or.inl ⟨by rfl, ?_⟩) (by assumption) ?_
            rotate_left
            · intro w hSw; go_split_ands; go_simp; try with_reducible rfl
            simp only [Act.put, List.setIfInBounds_toArray, List.set_cons_zero, List.set_cons_succ, List.getElem_toArray, List.getElem_cons_zero]
            refine wpAnyH_take (i := 1) (v := ?_) rfl (by kernel_rfl) (by kernel_rfl) (by kernel_rfl) (fun _ _ _ h => h) (Or.inl ⟨by rfl, ?_⟩) (by assumption) ?_
            rotate_left
            · intro w hSw; go_split_ands; go_simp; try with_reducible rfl
            simp only [Act.put, List.setIfInBounds_toArray, List.set_cons_zero, List.set_cons_succ, List.getElem_toArray, List.getElem_cons_zero, List.getElem_cons_succ]
            refine wpAnyH_take (i := 2) (v := ?_) rfl (by kernel_rfl) (by kernel_rfl) (by kernel_rfl) (fun _ _ _ h => h) (Or.inl ⟨by rfl, ?_⟩) (by assumption) ?_
            rotate_left
            · intro w hSw; go_split_ands; go_simp; try with_reducible rfl
            simp only [Act.put, List.setIfInBounds_toArray, List.set_cons_zero, List.set_cons_succ, List.getElem_toArray, List.getElem_cons_zero, List.getElem_cons_succ]
            refine wpAnyH_take (i := 3) (v := ?_) rfl (by kernel_rfl) (by kernel_rfl) (by kernel_rfl) (fun _ _ _ h => h) (Or.inl ⟨by rfl, ?_⟩) (by assumption) ?_
            rotate_left
            · intro w hSw; go_split_ands; go_simp; try with_reducible rfl
            simp only [Act.put, List.setIfInBounds_toArray, List.set_cons_zero, List.set_cons_succ, List.getElem_toArray, List.getElem_cons_zero, List.getElem_cons_succ]
            refine wpAnyH_take (i := 4) (v := ?_) rfl (by kernel_rfl) (by kernel_rfl) (by kernel_rfl) (fun _ _ _ h => h) (Or.inl ⟨by rfl, ?_⟩) (by assumption) ?_
            rotate_left
            · intro w hSw; go_split_ands; go_simp; try with_reducible rfl
            simp only [Act.put, List.setIfInBounds_toArray, List.set_cons_zero, List.set_cons_succ, List.getElem_toArray, List.getElem_cons_zero, List.getElem_cons_succ]
            refine wpAnyH_take (i := 5) (v := ?_) rfl (by kernel_rfl) (by kernel_rfl) (by kernel_rfl) (fun _ _ _ h => h) (Or.inl ⟨by rfl, ?_⟩) (by assumption) ?_
            rotate_left
            · intro w hSw; go_split_ands; go_simp; try with_reducible rfl
            simp only [Act.put, List.setIfInBounds_toArray, List.set_cons_zero, List.set_cons_succ, List.getElem_toArray, List.getElem_cons_zero, List.getElem_cons_succ]
            refine wpAnyH_take (i := 6) (v := ?_) rfl (by kernel_rfl) (by kernel_rfl) (by kernel_rfl) (fun _ _ _ h => h) (Or.inl ⟨by rfl, ?_⟩) (by assumption) ?_
            rotate_left
            · intro w hSw; go_split_ands; go_simp; try with_reducible rfl
            simp only [Act.put, List.setIfInBounds_toArray, List.set_cons_zero, List.set_cons_succ, List.getElem_toArray, List.getElem_cons_zero, List.getElem_cons_succ]
            refine wpAnyH_take (i := 7) (v := ?_) rfl (by kernel_rfl) (by kernel_rfl) (by kernel_rfl) (fun _ _ _ h => h) (Or.inl ⟨by rfl, ?_⟩) (by assumption) ?_
            rotate_left
            · intro w hSw; go_split_ands; go_simp; try with_reducible rfl
            simp only [Act.put, List.setIfInBounds_toArray, List.set_cons_zero, List.set_cons_succ, List.getElem_toArray, List.getElem_cons_zero, List.getElem_cons_succ]
            refine wpAnyH_take (i := 8) (v := ?_) rfl (by kernel_rfl) (by kernel_rfl) (by kernel_rfl) (fun _ _ _ h => h) (Or.inl ⟨by rfl, ?_⟩) (by assumption) ?_
            rotate_left
            · intro w hSw; go_split_ands; go_simp; try with_reducible rfl
            simp only [Act.put, List.setIfInBounds_toArray, List.set_cons_zero, List.set_cons_succ, List.getElem_toArray, List.getElem_cons_zero, List.getElem_cons_succ]
            refine wpAnyH_take (i := 9) (v := ?_) rfl (by kernel_rfl) (by kernel_rfl) (by kernel_rfl) (fun _ _ _ h => h) (Or.inl ⟨by rfl, ?_⟩) (by assumption) ?_
            rotate_left
            · intro w hSw; go_split_ands; go_simp; try with_reducible rfl
            simp only [Act.put, List.setIfInBounds_toArray, List.set_cons_zero, List.set_cons_succ, List.getElem_toArray, List.getElem_cons_zero, List.getElem_cons_succ]
            refine wpAnyH_take (i := 10) (v := ?_) rfl (by kernel_rfl) (by kernel_rfl) (by kernel_rfl) (fun _ _ _ h => h) (Or.inl ⟨by rfl, ?_⟩) (by assumption) ?_
            rotate_left
            · intro w hSw; go_split_ands; go_simp; try with_reducible rfl
            simp only [Act.put, List.setIfInBounds_toArray, List.set_cons_zero, List.set_cons_succ, List.getElem_toArray, List.getElem_cons_zero, List.getElem_cons_succ]
            refine wpAnyH_take (i := 12) (v := ?_) rfl (by kernel_rfl) (by kernel_rfl) (by kernel_rfl) (fun _ _ _ h => h) (Or.inl ⟨by rfl, ?_⟩) (by assumption) ?_
            rotate_left
            · intro w hSw; go_split_ands; go_simp; try with_reducible rfl
            simp only [Act.put, List.setIfInBounds_toArray, List.set_cons_zero, List.set_cons_succ, List.getElem_toArray, List.getElem_cons_zero, List.getElem_cons_succ]
            refine wpAnyH_take (i := 13) (v := ?_) rfl (by kernel_rfl) (by kernel_rfl) (by kernel_rfl) (fun _ _ _ h => h) (Or.inl ⟨by rfl, ?_⟩) (by assumption) ?_
            rotate_left
            · intro w hSw; go_split_ands; go_simp; try with_reducible rfl
            simp only [Act.put, List.setIfInBounds_toArray, List.set_cons_zero, List.set_cons_succ, List.getElem_toArray, List.getElem_cons_zero, List.getElem_cons_succ]
            refine wpAnyH_take (i := 14) (v := ?_) rfl (by kernel_rfl) (by kernel_rfl) (by kernel_rfl) (fun _ _ _ h => h) (Or.inl ⟨by rfl, ?_⟩) (by assumption) ?_
            rotate_left
            · intro w hSw; go_split_ands; go_simp; try with_reducible rfl
            simp only [Act.put, List.setIfInBounds_toArray, List.set_cons_zero, List.set_cons_succ, List.getElem_toArray, List.getElem_cons_zero, List.getElem_cons_succ]
            refine wpAnyH_take (i := 15) (v := ?_) rfl (by kernel_rfl) (by kernel_rfl) (by kernel_rfl) (fun _ _ _ h => h) (Or.inl ⟨by rfl, ?_⟩) (by assumption) ?_
            rotate_left
            · intro w hSw; go_split_ands; go_simp; try with_reducible rfl
            simp only [Act.put, List.setIfInBounds_toArray, List.set_cons_zero, List.set_cons_succ, List.getElem_toArray, List.getElem_cons_zero, List.getElem_cons_succ]
            refine wpAnyH_take (i := 16) (v := ?_) rfl (by kernel_rfl) (by kernel_rfl) (by kernel_rfl) (fun _ _ _ h => h) (Or.inl ⟨by rfl, ?_⟩) (by assumption) ?_
            rotate_left
            · intro w hSw; go_split_ands; go_simp; try with_reducible rfl
            simp only [Act.put, List.setIfInBounds_toArray, List.set_cons_zero, List.set_cons_succ, List.getElem_toArray, List.getElem_cons_zero, List.getElem_cons_succ]
            refine wpAnyH_take (i := 17) (v := ?_) rfl (by kernel_rfl) (by kernel_rfl) (by kernel_rfl) (fun _ _ _ h => h) (Or.inl ⟨by rfl, ?_⟩) (by assumption) ?_
            rotate_left
            · intro w hSw; go_split_ands; go_simp; try with_reducible rfl
            simp only [Act.put, List.setIfInBounds_toArray, List.set_cons_zero, List.set_cons_succ, List.getElem_toArray, List.getElem_cons_zero, List.getElem_cons_succ]
            refine wpAnyH_ready (rs := [11]) (by kernel_rfl) (by simp) ?_
            refine AllReadyH.cons rfl (fun K hK => ?_) AllReadyH.nil
            go_simp
            refine (store_keep R b _ _ a.at_ a.v _ _ r _ HAd.out D2.out D3.out hbR.out).mono ?_
            rw [HIN.out]
            rintro e w' ⟨rfl, ht, q1, q2⟩
            refine hK.out _ _ ⟨q1, q2⟩ (fun hHeld => ?_)
            clear hK K
            try simp only [Act.put, List.setIfInBounds_toArray, List.set_cons_zero, List.set_cons_succ]
            refine wpAnyH_take (i := 18) (v := ?_) rfl (by kernel_rfl) (by kernel_rfl) (by kernel_rfl) (fun _ _ _ h => h) (Or.inl ⟨by rfl, ?_⟩) (by assumption) ?_
            rotate_left
            · intro w hSw; go_split_ands; go_simp; try with_reducible rfl
            simp only [Act.put, List.setIfInBounds_toArray, List.set_cons_zero, List.set_cons_succ, List.getElem_toArray, List.getElem_cons_zero, List.getElem_cons_succ]
            refine wpAnyH_take (i := 19) (v := ?_) rfl (by kernel_rfl) (by kernel_rfl) (by kernel_rfl) (fun _ _ _ h => h) (Or.inl ⟨by rfl, ?_⟩) (by assumption) ?_
            rotate_left
            · intro w hSw; go_split_ands; go_simp; try with_reducible rfl
            simp only [Act.put, List.setIfInBounds_toArray, List.set_cons_zero, List.set_cons_succ, List.getElem_toArray, List.getElem_cons_zero, List.getElem_cons_succ]
            refine wpAnyH_take (i := 20) (v := ?_) rfl (by kernel_rfl) (by kernel_rfl) (by kernel_rfl) (fun _ _ _ h => h) (Or.inl ⟨by rfl, ?_⟩) (by assumption) ?_
            rotate_left
            · intro w hSw; go_split_ands; go_simp; try with_reducible rfl
            simp only [Act.put, List.setIfInBounds_toArray, List.set_cons_zero, List.set_cons_succ, List.getElem_toArray, List.getElem_cons_zero, List.getElem_cons_succ]
            refine wpAnyH_take (i := 21) (v := ?_) rfl (by kernel_rfl) (by kernel_rfl) (by kernel_rfl) (fun _ _ _ h => h) (Or.inl ⟨by rfl, ?_⟩) (by assumption) ?_
            rotate_left
            · intro w hSw; go_split_ands; go_simp; try with_reducible rfl
            simp only [Act.put, List.setIfInBounds_toArray, List.set_cons_zero, List.set_cons_succ, List.getElem_toArray, List.getElem_cons_zero, List.getElem_cons_succ]
            refine wpAnyH_take (i := 22) (v := ?_) rfl (by kernel_rfl) (by kernel_rfl) (by kernel_rfl) (fun _ _ _ h => h) (Or.inl ⟨by rfl, ?_⟩) (by assumption) ?_
            rotate_left
            · intro w hSw; go_split_ands; go_simp; try with_reducible rfl
            simp only [Act.put, List.setIfInBounds_toArray, List.set_cons_zero, List.set_cons_succ, List.getElem_toArray, List.getElem_cons_zero, List.getElem_cons_succ]
            refine wpAnyH_take (i := 23) (v := ?_) rfl (by kernel_rfl) (by kernel_rfl) (by kernel_rfl) (fun _ _ _ h => h) (Or.inl ⟨by rfl, ?_⟩) (by assumption) ?_
            rotate_left
            · intro w hSw; go_split_ands; go_simp; try with_reducible rfl
            simp only [Act.put, List.setIfInBounds_toArray, List.set_cons_zero, List.set_cons_succ, List.getElem_toArray, List.getElem_cons_zero, List.getElem_cons_succ]
            refine wpAnyH_take (i := 24) (v := ?_) rfl (by kernel_rfl) (by kernel_rfl) (by kernel_rfl) (fun _ _ _ h => h) (Or.inl ⟨by rfl, ?_⟩) (by assumption) ?_
            rotate_left
            · intro w hSw; go_split_ands; go_simp; try with_reducible rfl
            simp only [Act.put, List.setIfInBounds_toArray, List.set_cons_zero, List.set_cons_succ, List.getElem_toArray, List.getElem_cons_zero, List.getElem_cons_succ]
            refine wpAnyH_take (i := 25) (v := ?_) rfl (by kernel_rfl) (by kernel_rfl) (by kernel_rfl) (fun _ _ _ h => h) (Or.inl ⟨by rfl, ?_⟩) (by assumption) ?_
            rotate_left
            · intro w hSw; go_split_ands; go_simp; try with_reducible rfl
            simp only [Act.put, List.setIfInBounds_toArray, List.set_cons_zero, List.set_cons_succ, List.getElem_toArray, List.getElem_cons_zero, List.getElem_cons_succ]
            refine wpAnyH_take (i := 26) (v := ?_) rfl (by kernel_rfl) (by kernel_rfl) (by kernel_rfl) (fun _ _ _ h => h) (Or.inl ⟨by rfl, ?_⟩) (by assumption) ?_
            rotate_left
            · intro w hSw; go_split_ands; go_simp; try with_reducible rfl
            simp only [Act.put, List.setIfInBounds_toArray, List.set_cons_zero, List.set_cons_succ, List.getElem_toArray, List.getElem_cons_zero, List.getElem_cons_succ]
            refine wpAnyH_done (by kernel_rfl) ?_ _
            rw [HS.out] at ht
            have HT := Lib.hid ht
            have k8 : k < 8 := by have := HKK.out; omega
            have hE2 : Eight w' (R + 1) r.N := (HE.out.drewN 1).turn ht (by omega)
            have m1 := hE2.cell k8
            have m2 := hE2.open_ k8
            have HE2 := Lib.hid hE2
            have e : a.at_.toNat = k := by rw [HKK.out]; exact Int.toNat_natCast k
            have hst := (hE2.drewN 1).set_ k a.v k8
            have hA2 : At w' R 0 { r with N := r.N.set k a.v, out := true, sent := false } := by rw [← e]; exact ht.here
            have hmid : ∀ q, Mid w R (((w'.drewN 1).setCell ⟨R + 1, k, none⟩ (.int .u64 a.v)).drewN q) := fun q =>
              mid_store hst.1 ((hA2.drewN 1).fr hst.2 (by omega)) HB.out (below_trans' (ht.fr.below (B := w.heap.size) HR.out HB.out.size) hst.2 HR.out HB.out.size) q
            have HM := Lib.hid hmid
            rw [HKK.out] at q1 x0 x1 d1 d2 ⊢
            clear ht hE2 e hst hA2 hmid
            go_wp2_with fail
            go_region
            all_goals
              go_wp2
              go_meet
              exact HM.out 0
        · go_wp2_with (go_at_call 10; refine (flush_any R 0 r _ HA.out).mono ?_; rintro e w' ⟨rfl, ht⟩; have HT := Lib.hid ht; clear ht)
          go_meet
          exact mid_flush HE.out HB.out HR.out HT.out H1.out H2.out
        · go_wp2_with (go_at_call 9; refine (fence_any R 0 r _ HA.out).mono ?_; rintro e w' ⟨rfl, ht⟩; have HT := Lib.hid ht; clear ht)
          go_meet
          exact mid_fence HE.out HB.out HR.out HT.out H1.out H2.out
        · go_wp2_with (go_at_call 12; refine (evict_any R 0 r _ HA.out).mono ?_; rintro e w' ⟨rfl, ht⟩; have HT := Lib.hid ht; clear ht)
          go_meet
          exact mid_fall HE.out HB.out HR.out HT.out H1.out H2.out
      case rest =>
        obtain ⟨r', kA, kE, k1, k2, kB⟩ := hcut
        clear HA HE HB H1 H2 c1 c2 c3
        obtain ⟨L, N, ou, se⟩ := r'
        have hlen := kA.ok.2
        obtain ⟨b0, b1, b2, b3, b4, b5, b6, b7, rfl⟩ := eight hlen
        have e1 := eql25 [b0, b1, b2, b3, b4, b5, b6, b7] [b0, b1, b2, b3, b4, b5, b6, b7] rfl rfl
        simp only [beq_self_eq_true, wcells, List.map_cons, List.map_nil] at e1
        clear hlen
        have n0 : wc.cell? ⟨R, 8, none⟩ = some (.int .u64 b0) := kA.cellN 8 0 rfl (by omega)
        have n1 : wc.cell? ⟨R, 9, none⟩ = some (.int .u64 b1) := kA.cellN 9 1 rfl (by omega)
        have n2 : wc.cell? ⟨R, 10, none⟩ = some (.int .u64 b2) := kA.cellN 10 2 rfl (by omega)
        have n3 : wc.cell? ⟨R, 11, none⟩ = some (.int .u64 b3) := kA.cellN 11 3 rfl (by omega)
        have n4 : wc.cell? ⟨R, 12, none⟩ = some (.int .u64 b4) := kA.cellN 12 4 rfl (by omega)
        have n5 : wc.cell? ⟨R, 13, none⟩ = some (.int .u64 b5) := kA.cellN 13 5 rfl (by omega)
        have n6 : wc.cell? ⟨R, 14, none⟩ = some (.int .u64 b6) := kA.cellN 14 6 rfl (by omega)
        have n7 : wc.cell? ⟨R, 15, none⟩ = some (.int .u64 b7) := kA.cellN 15 7 rfl (by omega)
        have m0 : wc.cell? ⟨R + 1, 0, none⟩ = some (.int .u64 b0) := kE.cell (j := 0) (by omega)
        have m1 : wc.cell? ⟨R + 1, 1, none⟩ = some (.int .u64 b1) := kE.cell (j := 1) (by omega)
        have m2 : wc.cell? ⟨R + 1, 2, none⟩ = some (.int .u64 b2) := kE.cell (j := 2) (by omega)
        have m3 : wc.cell? ⟨R + 1, 3, none⟩ = some (.int .u64 b3) := kE.cell (j := 3) (by omega)
        have m4 : wc.cell? ⟨R + 1, 4, none⟩ = some (.int .u64 b4) := kE.cell (j := 4) (by omega)
        have m5 : wc.cell? ⟨R + 1, 5, none⟩ = some (.int .u64 b5) := kE.cell (j := 5) (by omega)
        have m6 : wc.cell? ⟨R + 1, 6, none⟩ = some (.int .u64 b6) := kE.cell (j := 6) (by omega)
        have m7 : wc.cell? ⟨R + 1, 7, none⟩ = some (.int .u64 b7) := kE.cell (j := 7) (by omega)
        have co : wc.cell? ⟨R, 16, none⟩ = some (.bool ou) := kA.out0
        have cs : wc.cell? ⟨R, 17, none⟩ = some (.bool se) := kA.sent0
        have hend : ∀ q, NewRel w R (R + 1) n (n - (i + 1)) (.int .i64 (↑(i + 1) : Int)) (wc.drewN q) := fun q => ⟨i + 1, _, by omega, rfl, kA.drewN q, kE.drewN q, k1, k2, below_draws kB q⟩
        have HEND := Lib.hid hend
        clear hend
        cases ou
        · cases se
          · obtain rfl : L = [b0, b1, b2, b3, b4, b5, b6, b7] := k1 rfl
            have l0 : wc.cell? ⟨R, 0, none⟩ = some (.int .u64 b0) := kA.cell0 0 rfl
            have l1 : wc.cell? ⟨R, 1, none⟩ = some (.int .u64 b1) := kA.cell0 1 rfl
            have l2 : wc.cell? ⟨R, 2, none⟩ = some (.int .u64 b2) := kA.cell0 2 rfl
            have l3 : wc.cell? ⟨R, 3, none⟩ = some (.int .u64 b3) := kA.cell0 3 rfl
            have l4 : wc.cell? ⟨R, 4, none⟩ = some (.int .u64 b4) := kA.cell0 4 rfl
            have l5 : wc.cell? ⟨R, 5, none⟩ = some (.int .u64 b5) := kA.cell0 5 rfl
            have l6 : wc.cell? ⟨R, 6, none⟩ = some (.int .u64 b6) := kA.cell0 6 rfl
            have l7 : wc.cell? ⟨R, 7, none⟩ = some (.int .u64 b7) := kA.cell0 7 rfl
            clear kA kE k1 k2 kB
            go_wp2_with fail
            go_quiet (fail)
            go_wp2
            go_roundg (n - (i + 1))
            case measure => have := HK.out; omega
            case rel => exact HEND.out _
          · cases k2 rfl
        · clear kA kE k1 k2 kB
          cases se
          all_goals
            go_wp2_with fail
            go_quiet (fail)
            go_wp2
            go_roundg (n - (i + 1))
            case measure => have := HK.out; omega
            case rel => exact HEND.out _
    · go_wp2
      go_ret
      exact ⟨rfl, HB.out⟩

set_option maxHeartbeats 1000000 in
theorem new_walk (A : Option Addr) (cap : Nat) (l : List Ac) (w : World) (hl : l.length ≤ maxLen) (hL : ActsAt w w.heap.size A l) :
    Calls Try.prog 6 #[.slice A l.length cap] w fun e w' => e = .returned (.bool true) ∧ Below w.heap.size w w' := by
  rcases Nat.lt_or_ge 80 l.length with h | h
  · clear hL
    obtain ⟨n, hn⟩ : ∃ m, m = l.length := ⟨_, rfl⟩
    rw [← hn] at hl h ⊢
    clear hn
    unfold maxLen at hl
    have h2 : (80 : Int) < (n : Int) := by omega
    go_enter Try.func6, Try.ntmps6
    go_wp2_with (go_at_call 7; refine (awake_any _).mono ?_; rintro e w' ⟨rfl, hb⟩; have HB := Lib.hid hb; clear hb)
    go_ret
    exact ⟨rfl, HB.out⟩
  · exact new_walk_in A cap l w h hL
end Go.Proofs.Ytigdhgikdknlmaa
