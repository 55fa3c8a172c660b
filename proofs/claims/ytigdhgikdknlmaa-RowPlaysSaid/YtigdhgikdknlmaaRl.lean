/-
  The walk of the law RowPlays of reevelaw2: it answers true. Condition: the acts lie in memory.
-/
import Derived.Test.YtigdhgikdknlmaaRh
import Derived.Deep.CutBlock
namespace Go.Proofs.Ytigdhgikdknlmaa
open Go.RowKit

/-- two lines, an act, and all that was there -/
structure PS (W : World) (R S G : Nat) (a : Ac) (w : World) (r s : Ln) : Prop where
  x : At w R 0 r
  y : At w S 0 s
  op : w.cell? ⟨G, 0, none⟩ = some (.int .i64 a.op)
  pl : w.cell? ⟨G, 1, none⟩ = some (.int .i64 a.at_)
  wd : w.cell? ⟨G, 2, none⟩ = some (.int .u64 a.v)
  rs : R ≠ S
  rg : R < G
  sg : S < G
  wr : W.heap.size ≤ R
  ws : W.heap.size ≤ S
  old : Below W.heap.size W w

section
variable {W w w' : World} {R S G : Nat} {a : Ac} {r s t : Ln}
theorem PS.keepG (h : PS W R S G a w r s) (hb : w'.heap[G]? = w.heap[G]?) : w'.cell? ⟨G, 0, none⟩ = some (.int .i64 a.op) ∧ w'.cell? ⟨G, 1, none⟩ = some (.int .i64 a.at_) ∧ w'.cell? ⟨G, 2, none⟩ = some (.int .u64 a.v) :=
  ⟨(World.cell?_of_block (a := ⟨G, 0, none⟩) hb).trans h.op, (World.cell?_of_block (a := ⟨G, 1, none⟩) hb).trans h.pl, (World.cell?_of_block (a := ⟨G, 2, none⟩) hb).trans h.wd⟩
theorem PS.lt (h : PS W R S G a w r s) : G < w.heap.size := World.block_lt_of_cell? w _ h.op
theorem PS.turnX (h : PS W R S G a w r s) (ht : Turn w w' R 0 t) : PS W R S G a w' t s := by
  obtain ⟨o1, o2, o3⟩ := h.keepG (ht.fr.block G h.lt (Nat.ne_of_gt h.rg))
  exact ⟨ht.here, ht.far h.y (Ne.symm h.rs), o1, o2, o3, h.rs, h.rg, h.sg, h.wr, h.ws, h.old.trans (ht.fr.below h.wr h.old.size)⟩
theorem PS.turnY (h : PS W R S G a w r s) (ht : Turn w w' S 0 t) : PS W R S G a w' r t := by
  obtain ⟨o1, o2, o3⟩ := h.keepG (ht.fr.block G h.lt (Nat.ne_of_gt h.sg))
  exact ⟨ht.far h.x h.rs, ht.here, o1, o2, o3, h.rs, h.rg, h.sg, h.wr, h.ws, h.old.trans (ht.fr.below h.ws h.old.size)⟩
theorem PS.drewN (h : PS W R S G a w r s) (n : Nat) : PS W R S G a (w.drewN n) r s :=
  ⟨h.x.drewN n, h.y.drewN n, h.op, h.pl, h.wd, h.rs, h.rg, h.sg, h.wr, h.ws, below_draws h.old n⟩
theorem PS.below (h : PS W R S G a w r s) (hb : Below w.heap.size w w') : PS W R S G a w' r s := by
  obtain ⟨o1, o2, o3⟩ := h.keepG (hb.block G h.lt)
  exact ⟨h.x.keep (hb.block R h.x.lt), h.y.keep (hb.block S h.y.lt), o1, o2, o3, h.rs, h.rg, h.sg, h.wr, h.ws, h.old.trans (hb.mono h.old.size)⟩

/-- the place and the word of an act, in one -/
def Two (G : Nat) (a : Ac) (w : World) : Prop := w.cell? ⟨G, 1, none⟩ = some (.int .i64 a.at_) ∧ w.cell? ⟨G, 2, none⟩ = some (.int .u64 a.v)

theorem x_store (h : PS W R S G a w r s) (i v : Int) : Calls Try.prog 8 #[.pointer (some ⟨R, 0, none⟩), .int .i64 i, .int .u64 v] w fun e w' => e = .returned (.bool (inl i)) ∧ PS W R S G a w' (r.store i v) s ∧ w'.cell? ⟨G, 1, none⟩ = some (.int .i64 a.at_) ∧ w'.cell? ⟨G, 2, none⟩ = some (.int .u64 a.v) :=
  (store_any R 0 i v r w h.x).mono fun _ _ ⟨h1, h2⟩ => ⟨h1, h.turnX h2, (h.turnX h2).pl, (h.turnX h2).wd⟩
theorem y_store (h : PS W R S G a w r s) (i v : Int) : Calls Try.prog 14 #[.pointer (some ⟨S, 0, none⟩), .int .i64 i, .int .u64 v] w fun e w' => e = .returned (.bool (inl i)) ∧ PS W R S G a w' r (s.store i v) ∧ w'.cell? ⟨G, 1, none⟩ = some (.int .i64 a.at_) ∧ w'.cell? ⟨G, 2, none⟩ = some (.int .u64 a.v) :=
  (rstore_any S 0 i v s w h.y).mono fun _ _ ⟨h1, h2⟩ => ⟨h1, h.turnY h2, (h.turnY h2).pl, (h.turnY h2).wd⟩
theorem x_fall (h : PS W R S G a w r s) (k : Bool) : Calls Try.prog 11 #[.pointer (some ⟨R, 0, none⟩), .bool k] w fun e w' => e = .returned (.bool r.out) ∧ PS W R S G a w' (r.fall k) s ∧ w'.cell? ⟨G, 0, none⟩ = some (.int .i64 a.op) :=
  (fall_any R 0 k r w h.x).mono fun _ _ ⟨h1, h2⟩ => ⟨h1, h.turnX h2, (h.turnX h2).op⟩
theorem y_fall (h : PS W R S G a w r s) (k : Bool) : Calls Try.prog 18 #[.pointer (some ⟨S, 0, none⟩), .bool k] w fun e w' => e = .returned (.bool s.out) ∧ PS W R S G a w' r (s.fall k) ∧ w'.cell? ⟨G, 0, none⟩ = some (.int .i64 a.op) :=
  (rfall_any S 0 k s w h.y).mono fun _ _ ⟨h1, h2⟩ => ⟨h1, h.turnY h2, (h.turnY h2).op⟩
theorem x_flush (h : PS W R S G a w r s) : Calls Try.prog 10 #[.pointer (some ⟨R, 0, none⟩)] w fun e w' => e = .returned (.tuple #[]) ∧ PS W R S G a w' r.flush s :=
  (flush_any R 0 r w h.x).mono fun _ _ ⟨h1, h2⟩ => ⟨h1, h.turnX h2⟩
theorem y_flush (h : PS W R S G a w r s) : Calls Try.prog 15 #[.pointer (some ⟨S, 0, none⟩)] w fun e w' => e = .returned (.tuple #[]) ∧ PS W R S G a w' r s.flush :=
  (rflush_any S 0 s w h.y).mono fun _ _ ⟨h1, h2⟩ => ⟨h1, h.turnY h2⟩
theorem x_fence (h : PS W R S G a w r s) : Calls Try.prog 9 #[.pointer (some ⟨R, 0, none⟩)] w fun e w' => e = .returned (.bool (r.sent && r.out)) ∧ PS W R S G a w' r.fence s :=
  (fence_any R 0 r w h.x).mono fun _ _ ⟨h1, h2⟩ => ⟨h1, h.turnX h2⟩
theorem y_fence (h : PS W R S G a w r s) : Calls Try.prog 16 #[.pointer (some ⟨S, 0, none⟩)] w fun e w' => e = .returned (.bool (s.sent && s.out)) ∧ PS W R S G a w' r s.fence :=
  (rfence_any S 0 s w h.y).mono fun _ _ ⟨h1, h2⟩ => ⟨h1, h.turnY h2⟩
theorem x_evict (h : PS W R S G a w r s) : Calls Try.prog 12 #[.pointer (some ⟨R, 0, none⟩)] w fun e w' => e = .returned (.bool r.out) ∧ PS W R S G a w' (r.fall true) s :=
  (evict_any R 0 r w h.x).mono fun _ _ ⟨h1, h2⟩ => ⟨h1, h.turnX h2⟩
theorem y_evict (h : PS W R S G a w r s) : Calls Try.prog 17 #[.pointer (some ⟨S, 0, none⟩)] w fun e w' => e = .returned (.bool s.out) ∧ PS W R S G a w' r (s.fall true) :=
  (revict_any S 0 s w h.y).mono fun _ _ ⟨h1, h2⟩ => ⟨h1, h.turnY h2⟩
end

theorem info33 : (Try.prog.info? 33).map (·.size) = some 18 := by kernel_rfl

/-- at the head of a round -/
def PlayRel (W : World) (R S n : Nat) (k : Nat) (p : Value) (wr : World) : Prop :=
  ∃ (i : Nat) (r : Ln), k + i = n ∧ p = .int .i64 i ∧ At wr R 0 r ∧ At wr S 0 r ∧ Below W.heap.size W wr
/-- behind an act: both lines are alike -/
def PlayMid (W : World) (R S G : Nat) (a : Ac) (s9 : Value) (wc : World) : Prop := s9 = .bool true ∧ ∃ r : Ln, PS W R S G a wc r r

set_option maxRecDepth 100000 in
set_option maxHeartbeats 4000000 in
theorem plays_in (r : Ln) (hr : r.ok) (A : Option Addr) (cap : Nat) (l : List Ac) (w : World) (hl : l.length ≤ 100) (hL : ActsAt w w.heap.size A l) :
    Calls Try.prog 4 #[.agg r.cells.toArray, .slice A l.length cap] w fun e w' => e = .returned (.bool true) ∧ Below w.heap.size w w' := by
  have LL := Lib.hid hL
  obtain ⟨n, hn⟩ : ∃ m, m = l.length := ⟨_, rfl⟩
  rw [← hn] at hl ⊢
  have HN := Lib.hid hn
  clear hn hL
  obtain ⟨L, N, ou, se⟩ := r
  obtain ⟨a0, a1, a2, a3, a4, a5, a6, a7, rfl⟩ := eight hr.1
  obtain ⟨b0, b1, b2, b3, b4, b5, b6, b7, rfl⟩ := eight hr.2
  have hl2 : decide ((100 : Int) < (n : Int)) = false := by simp; omega
  have A0 := Lib.hid (At.new w 27 _ hr)
  have B0 := Lib.hid ((Below.refl w.heap.size w).alloc (Nat.le_refl _) (.cells (Ln.cells ⟨[a0, a1, a2, a3, a4, a5, a6, a7], [b0, b1, b2, b3, b4, b5, b6, b7], ou, se⟩).toArray 27))
  clear hr
  simp only [Ln.cells, wcells, List.map_cons, List.map_nil, List.cons_append, List.nil_append] at A0 B0 ⊢
  go_enter Try.func4, Try.ntmps4
  go_wp2_with fail
  refine (awake_any _).mono ?_
  rintro e w0 ⟨rfl, hb⟩
  replace A0 := Lib.hid (A0.out.keep (hb.block w.heap.size (by simp)))
  replace B0 := Lib.hid (B0.out.trans (hb.mono (by simp)))
  clear hb
  obtain ⟨R, hR⟩ : ∃ R, R = w.heap.size := ⟨_, rfl⟩
  rw [← hR] at A0 ⊢
  have HR := Lib.hid hR
  clear hR
  have c0 : w0.cell? ⟨R, 0, none⟩ = some (.int .u64 a0) := A0.out.cell0 0 rfl
  have c1 : w0.cell? ⟨R, 1, none⟩ = some (.int .u64 a1) := A0.out.cell0 1 rfl
  have c2 : w0.cell? ⟨R, 2, none⟩ = some (.int .u64 a2) := A0.out.cell0 2 rfl
  have c3 : w0.cell? ⟨R, 3, none⟩ = some (.int .u64 a3) := A0.out.cell0 3 rfl
  have c4 : w0.cell? ⟨R, 4, none⟩ = some (.int .u64 a4) := A0.out.cell0 4 rfl
  have c5 : w0.cell? ⟨R, 5, none⟩ = some (.int .u64 a5) := A0.out.cell0 5 rfl
  have c6 : w0.cell? ⟨R, 6, none⟩ = some (.int .u64 a6) := A0.out.cell0 6 rfl
  have c7 : w0.cell? ⟨R, 7, none⟩ = some (.int .u64 a7) := A0.out.cell0 7 rfl
  have c8 : w0.cell? ⟨R, 8, none⟩ = some (.int .u64 b0) := A0.out.cell0 8 rfl
  have c9 : w0.cell? ⟨R, 9, none⟩ = some (.int .u64 b1) := A0.out.cell0 9 rfl
  have c10 : w0.cell? ⟨R, 10, none⟩ = some (.int .u64 b2) := A0.out.cell0 10 rfl
  have c11 : w0.cell? ⟨R, 11, none⟩ = some (.int .u64 b3) := A0.out.cell0 11 rfl
  have c12 : w0.cell? ⟨R, 12, none⟩ = some (.int .u64 b4) := A0.out.cell0 12 rfl
  have c13 : w0.cell? ⟨R, 13, none⟩ = some (.int .u64 b5) := A0.out.cell0 13 rfl
  have c14 : w0.cell? ⟨R, 14, none⟩ = some (.int .u64 b6) := A0.out.cell0 14 rfl
  have c15 : w0.cell? ⟨R, 15, none⟩ = some (.int .u64 b7) := A0.out.cell0 15 rfl
  have c16 : w0.cell? ⟨R, 16, none⟩ = some (.bool ou) := A0.out.cell0 16 rfl
  have c17 : w0.cell? ⟨R, 17, none⟩ = some (.bool se) := A0.out.cell0 17 rfl
  go_wp2_with fail
  go_region
  have A1 : Hid (At ((w0.alloc (.cells (Ln.cells ⟨[a0, a1, a2, a3, a4, a5, a6, a7], [b0, b1, b2, b3, b4, b5, b6, b7], ou, se⟩).toArray 33)).drew) R 0 ⟨[a0, a1, a2, a3, a4, a5, a6, a7], [b0, b1, b2, b3, b4, b5, b6, b7], ou, se⟩) := Lib.hid ((A0.out.keep (Below.heap_alloc w0 (.cells (Ln.cells ⟨[a0, a1, a2, a3, a4, a5, a6, a7], [b0, b1, b2, b3, b4, b5, b6, b7], ou, se⟩).toArray 33) R A0.out.lt)).drewN 1)
  have A2 : Hid (At ((w0.alloc (.cells (Ln.cells ⟨[a0, a1, a2, a3, a4, a5, a6, a7], [b0, b1, b2, b3, b4, b5, b6, b7], ou, se⟩).toArray 33)).drew) w0.heap.size 0 ⟨[a0, a1, a2, a3, a4, a5, a6, a7], [b0, b1, b2, b3, b4, b5, b6, b7], ou, se⟩) := Lib.hid ((At.new w0 33 ⟨[a0, a1, a2, a3, a4, a5, a6, a7], [b0, b1, b2, b3, b4, b5, b6, b7], ou, se⟩ A0.out.ok).drewN 1)
  have B1 : Hid (Below w.heap.size w ((w0.alloc (.cells (Ln.cells ⟨[a0, a1, a2, a3, a4, a5, a6, a7], [b0, b1, b2, b3, b4, b5, b6, b7], ou, se⟩).toArray 33)).drew)) := Lib.hid (below_draws (B0.out.alloc B0.out.size _) 1)
  have hRS : Hid (R < w0.heap.size) := Lib.hid A0.out.lt
  clear A0 B0
  simp only [Ln.cells, wcells, List.map_cons, List.map_nil, List.cons_append, List.nil_append] at A1 A2 B1
  clear c0 c1 c2 c3 c4 c5 c6 c7 c8 c9 c10 c11 c12 c13 c14 c15 c16 c17
  go_wp2_with fail
  obtain ⟨S, hS⟩ : ∃ S, S = w0.heap.size := ⟨_, rfl⟩
  rw [← hS] at A2 hRS ⊢
  clear hS
  go_loopg [7] n (fun k p wr => PlayRel w R S n k p wr)
  case atStart => exact ⟨0, _, by omega, rfl, A1.out, A2.out, B1.out⟩
  case round =>
    obtain ⟨i, r, hk, rfl, hX, hY, hB⟩ := hrel
    have HX := Lib.hid hX
    have HY := Lib.hid hY
    have HB := Lib.hid hB
    have HK := Lib.hid hk
    clear hX hY hB hk A1 A2 B1
    by_cases hlt : i < n
    · obtain ⟨b, o, rfl, hbl, hcs⟩ := LL.out (by rw [← HN.out]; omega)
      obtain ⟨a, ha⟩ : ∃ a, l[i]? = some a := ⟨l[i]'(by rw [← HN.out]; exact hlt), List.getElem?_eq_getElem _⟩
      obtain ⟨g1, g2, g3⟩ := hcs i a ha
      have c1 : wr.cell? ⟨b, o + i * 3, none⟩ = some (.int .i64 a.op) := by rw [← g1]; exact HB.out.cell hbl
      have c2 : wr.cell? ⟨b, o + i * 3 + 1, none⟩ = some (.int .i64 a.at_) := by rw [← g2]; exact HB.out.cell hbl
      have c3 : wr.cell? ⟨b, o + i * 3 + 2, none⟩ = some (.int .u64 a.v) := by rw [← g3]; exact HB.out.cell hbl
      have hps : PS w R S wr.heap.size a (wr.alloc (.cells #[.int .i64 a.op, .int .i64 a.at_, .int .u64 a.v] 35)) r r := by
        have e := heap_alloc_new wr (.cells #[.int .i64 a.op, .int .i64 a.at_, .int .u64 a.v] 35)
        exact ⟨HX.out.keep (Below.heap_alloc _ _ _ HX.out.lt), HY.out.keep (Below.heap_alloc _ _ _ HY.out.lt), cell_of_row _ _ 0 _ _ _ e, cell_of_row _ _ 1 _ _ _ e, cell_of_row _ _ 2 _ _ _ e,
          Nat.ne_of_lt hRS.out, HX.out.lt, HY.out.lt, by rw [HR.out]; exact Nat.le_refl _, by have := hRS.out; have := HR.out; omega, HB.out.alloc HB.out.size _⟩
      have HPS := Lib.hid hps
      clear g1 g2 g3 hcs ha hbl hps
      have hlt2 : (i : Int) < (n : Int) := by omega
      go_upto_block 2 with fail
      clear c1 c2 c3
      obtain ⟨G, hG⟩ : ∃ G, G = wr.heap.size := ⟨_, rfl⟩
      rw [← hG] at HPS ⊢
      generalize hw1 : wr.alloc (.cells #[.int .i64 a.op, .int .i64 a.at_, .int .u64 a.v] 35) = w1 at HPS ⊢
      clear hG hw1
      go_cut [9] from 25 to 118 (fun s9 wc => PlayMid w R S G a s9 wc)
      case first =>
        have q0 := HPS.out.op
        have q1 := HPS.out.pl
        have q2 := HPS.out.wd
        have hop : ((a.op : Int) == 0) = true ∨ (((a.op : Int) == 0) = false ∧ ((a.op : Int) == 1) = true) ∨ (((a.op : Int) == 0) = false ∧ ((a.op : Int) == 1) = false ∧ ((a.op : Int) == 2) = true) ∨
            (((a.op : Int) == 0) = false ∧ ((a.op : Int) == 1) = false ∧ ((a.op : Int) == 2) = false ∧ ((a.op : Int) == 3) = true) ∨ (((a.op : Int) == 0) = false ∧ ((a.op : Int) == 1) = false ∧ ((a.op : Int) == 2) = false ∧ ((a.op : Int) == 3) = false) := by
          cases ((a.op : Int) == 0) <;> cases ((a.op : Int) == 1) <;> cases ((a.op : Int) == 2) <;> cases ((a.op : Int) == 3) <;> simp
        rcases hop with o1 | ⟨o1, o2⟩ | ⟨o1, o2, o3⟩ | ⟨o1, o2, o3, o4⟩ | ⟨o1, o2, o3, o4⟩
        · go_wp2_with fail
          have HD := Lib.hid (HPS.out.drewN 1)
          go_region_held3 (fun w' => w'.cell? ⟨G, 1, none⟩ = some (.int .i64 a.at_) ∧ w'.cell? ⟨G, 2, none⟩ = some (.int .u64 a.v))
            (first | exact ⟨by assumption, by assumption⟩)
            (first
              | (go_at_call 8; ((with_reducible refine (x_store (w := w1.drew) HD.out a.at_ a.v).mono ?_); rintro e w' ⟨rfl, hp, z1, z2⟩))
              | (go_at_call 14; ((with_reducible refine (y_store hp a.at_ a.v).mono ?_); rintro e w' ⟨rfl, hp2, z1, z2⟩)))
          have HP := Lib.hid hp2
          clear hp hp2
          go_wp2
          go_meet
          exact ⟨by simp, _, HP.out⟩
        · go_wp2_with (first
            | (go_at_call 10; refine (x_flush HPS.out).mono ?_; rintro e w' ⟨rfl, hp⟩; have HP := Lib.hid hp; clear hp)
            | (go_at_call 15; refine (y_flush HP.out).mono ?_; rintro e w2 ⟨rfl, hp⟩; have HP2 := Lib.hid hp; clear hp))
          go_meet
          exact ⟨rfl, _, HP2.out⟩
        · go_wp2_with (first
            | (go_at_call 9; refine (x_fence HPS.out).mono ?_; rintro e w' ⟨rfl, hp⟩; have HP := Lib.hid hp; clear hp)
            | (go_at_call 16; refine (y_fence HP.out).mono ?_; rintro e w2 ⟨rfl, hp⟩; have HP2 := Lib.hid hp; clear hp))
          go_meet
          exact ⟨by simp, _, HP2.out⟩
        · go_wp2_with (first
            | (go_at_call 12; refine (x_evict HPS.out).mono ?_; rintro e w' ⟨rfl, hp⟩; have HP := Lib.hid hp; clear hp)
            | (go_at_call 17; refine (y_evict HP.out).mono ?_; rintro e w2 ⟨rfl, hp⟩; have HP2 := Lib.hid hp; clear hp))
          go_meet
          exact ⟨by simp, _, HP2.out⟩
        · obtain ⟨k, hk⟩ : ∃ k, ((a.op : Int) == 4) = k := ⟨_, rfl⟩
          go_wp2_with fail
          have HD := Lib.hid (HPS.out.drewN 1)
          go_region_held3 (fun w' => w'.cell? ⟨G, 0, none⟩ = some (.int .i64 a.op))
            (first | assumption)
            (first
              | (go_at_call 11; ((with_reducible refine (x_fall (w := w1.drew) HD.out _).mono ?_); rintro e w' ⟨rfl, hp, z1⟩))
              | (go_at_call 18; ((with_reducible refine (y_fall hp _).mono ?_); rintro e w' ⟨rfl, hp2, z1⟩)))
          have HP := Lib.hid hp2
          clear hp hp2
          go_wp2
          go_meet
          exact ⟨by simp, _, HP.out⟩
      case rest =>
        obtain ⟨rfl, r', hp⟩ := hcut
        clear HPS HX HY HB
        have HPS := Lib.hid hp
        have I27 : Hid ((Try.prog.info? 27).map (·.size) = some r'.cells.length) := Lib.hid (by rw [info27, Ln.cells_length hp.x.ok])
        have I33 : Hid ((Try.prog.info? 33).map (·.size) = some r'.cells.length) := Lib.hid (by rw [info33, Ln.cells_length hp.x.ok])
        clear hp
        have hb : inl a.at_ = false ∨ inl a.at_ = true := by cases inl a.at_ <;> simp
        rcases hb with hb | hb
        · have Q1 : Hid (wc.drew.cell? ⟨G, 1, none⟩ = some (.int .i64 a.at_)) := HPS.out.pl
          rcases inl_no hb with hx | hx
          · have d1 : decide ((0 : Int) ≤ a.at_) = false := by simp; omega
            clear hb
            go_wp2_with fail
            refine wp_region_held_drew (S := fun w' => w'.rangeAt R 0 r'.cells ∧ w'.rangeAt S 0 r'.cells ∧ w'.cell? ⟨G, 1, none⟩ = some (.int .i64 a.at_)) (by kernel_rfl) ⟨HPS.out.x.range, HPS.out.y.range, Q1.out⟩ (fun hHeld => ?_)
            refine wpAnyH_take (i := 0) (v := ?_) rfl (by kernel_rfl) (by kernel_rfl) (by kernel_rfl) (fun _ _ _ h => h) (Or.inl ⟨by rfl, ?_⟩) (by assumption) ?_
            rotate_left
            · intro w hSw; go_split_ands; go_simp; try with_reducible rfl
            simp only [Act.put, List.setIfInBounds_toArray, List.set_cons_zero, List.set_cons_succ, List.getElem_toArray, List.getElem_cons_zero]
            refine wpAnyH_take (i := 1) (v := ?_) rfl (by kernel_rfl) (by kernel_rfl) (by kernel_rfl) (fun _ _ _ h => h) (Or.inl ⟨by rfl, ?_⟩) (by assumption) ?_
            rotate_left
            · intro w hSw; go_split_ands; go_simp; try with_reducible rfl
            simp only [Act.put, List.setIfInBounds_toArray, List.set_cons_zero, List.set_cons_succ, List.getElem_toArray, List.getElem_cons_zero, List.getElem_cons_succ]
            refine wpAnyH_take (i := 2) (v := ?_) rfl (by kernel_rfl) (by kernel_rfl) (by kernel_rfl) (fun _ _ _ h => h) (Or.inl ⟨by rfl, ?_⟩) (by assumption) ?_
            rotate_left
            · intro w hSw; go_split_ands; go_simp; try with_reducible rfl
            simp only [Act.put, List.setIfInBounds_toArray, List.set_cons_zero, List.set_cons_succ, List.getElem_toArray, List.getElem_cons_zero, List.getElem_cons_succ]
            refine wpAnyH_take (i := 3) (v := ?_) rfl (by kernel_rfl) (by kernel_rfl) (by kernel_rfl) (fun _ _ _ h => h) (Or.inl ⟨by rfl, ?_⟩) (by assumption) ?_
            rotate_left
            · intro w hSw; go_split_ands; go_simp; try with_reducible rfl
            simp only [Act.put, List.setIfInBounds_toArray, List.set_cons_zero, List.set_cons_succ, List.getElem_toArray, List.getElem_cons_zero, List.getElem_cons_succ]
            refine wpAnyH_take (i := 4) (v := ?_) rfl (by kernel_rfl) (by kernel_rfl) (by kernel_rfl) (fun _ _ _ h => h) (Or.inl ⟨by rfl, ?_⟩) (by assumption) ?_
            rotate_left
            · intro w hSw; go_split_ands; go_simp; try with_reducible rfl
            simp only [Act.put, List.setIfInBounds_toArray, List.set_cons_zero, List.set_cons_succ, List.getElem_toArray, List.getElem_cons_zero, List.getElem_cons_succ]
            refine wpAnyH_take (i := 5) rfl (by kernel_rfl) (by kernel_rfl) (by kernel_rfl) (fun _ _ _ h => h) (yieldsIf_load_mid (by rfl) 27 _ rfl R 0 rfl r'.cells _ (fun _ h => h.1) Try.underlying27 rfl I27.out) (by assumption) ?_
            simp only [Act.put, List.setIfInBounds_toArray, List.set_cons_zero, List.set_cons_succ, List.getElem_toArray, List.getElem_cons_zero, List.getElem_cons_succ]
            refine wpAnyH_take (i := 6) (v := ?_) rfl (by kernel_rfl) (by kernel_rfl) (by kernel_rfl) (fun _ _ _ h => h) (Or.inl ⟨by rfl, ?_⟩) (by assumption) ?_
            rotate_left
            · intro w hSw; go_split_ands; go_simp; try with_reducible rfl
            simp only [Act.put, List.setIfInBounds_toArray, List.set_cons_zero, List.set_cons_succ, List.getElem_toArray, List.getElem_cons_zero, List.getElem_cons_succ]
            refine wpAnyH_take (i := 7) (v := ?_) rfl (by kernel_rfl) (by kernel_rfl) (by kernel_rfl) (fun _ _ _ h => h) (Or.inl ⟨by rfl, ?_⟩) (by assumption) ?_
            rotate_left
            · intro w hSw; go_split_ands; go_simp; try with_reducible rfl
            simp only [Act.put, List.setIfInBounds_toArray, List.set_cons_zero, List.set_cons_succ, List.getElem_toArray, List.getElem_cons_zero, List.getElem_cons_succ]
            refine wpAnyH_take (i := 8) rfl (by kernel_rfl) (by kernel_rfl) (by kernel_rfl) (fun _ _ _ h => h) (yieldsIf_load_mid (by rfl) 33 _ rfl S 0 rfl r'.cells _ (fun _ h => h.2.1) Try.underlying33 rfl I33.out) (by assumption) ?_
            simp only [Act.put, List.setIfInBounds_toArray, List.set_cons_zero, List.set_cons_succ, List.getElem_toArray, List.getElem_cons_zero, List.getElem_cons_succ]
            refine wpAnyH_ready (rs := [9]) (by kernel_rfl) (by simp) ?_
            refine AllReadyH.cons rfl (fun K hK => ?_) AllReadyH.nil
            go_simp
            refine (is_same r' HPS.out.x.ok _).mono ?_
            rintro e w2 ⟨rfl, hb⟩
            have hp := (HPS.out.drewN 1).below hb
            have HP := Lib.hid hp
            have K1 := Lib.hid ((World.cell?_of_block (a := ⟨G, 1, none⟩) (hb.block G (HPS.out.drewN 1).lt)).trans Q1.out)
            clear hp hb
            refine hK.out _ _ ⟨HP.out.x.range, HP.out.y.range, K1.out⟩ (fun hHeld => ?_)
            clear hK K
            try simp only [Act.put, List.setIfInBounds_toArray, List.set_cons_zero, List.set_cons_succ]
            refine wpAnyH_take (i := 10) (v := ?_) rfl (by kernel_rfl) (by kernel_rfl) (by kernel_rfl) (fun _ _ _ h => h) (Or.inl ⟨by rfl, ?_⟩) (by assumption) ?_
            rotate_left
            · intro w hSw; go_split_ands; go_simp; try with_reducible rfl
            simp only [Act.put, List.setIfInBounds_toArray, List.set_cons_zero, List.set_cons_succ, List.getElem_toArray, List.getElem_cons_zero, List.getElem_cons_succ]
            refine wpAnyH_take (i := 11) (v := ?_) rfl (by kernel_rfl) (by kernel_rfl) (by kernel_rfl) (fun _ _ _ h => h) (Or.inl ⟨by rfl, ?_⟩) (by assumption) ?_
            rotate_left
            · intro w hSw; go_split_ands; go_simp; try with_reducible rfl
            simp only [Act.put, List.setIfInBounds_toArray, List.set_cons_zero, List.set_cons_succ, List.getElem_toArray, List.getElem_cons_zero, List.getElem_cons_succ]
            refine wpAnyH_take (i := 12) (v := ?_) rfl (by kernel_rfl) (by kernel_rfl) (by kernel_rfl) (fun _ _ _ h => h) (Or.inl ⟨by rfl, ?_⟩) (by assumption) ?_
            rotate_left
            · intro w hSw; go_split_ands; go_simp; try with_reducible rfl
            simp only [Act.put, List.setIfInBounds_toArray, List.set_cons_zero, List.set_cons_succ, List.getElem_toArray, List.getElem_cons_zero, List.getElem_cons_succ]
            refine wpAnyH_take (i := 13) (v := ?_) rfl (by kernel_rfl) (by kernel_rfl) (by kernel_rfl) (fun _ _ _ h => h) (Or.inl ⟨by rfl, ?_⟩) (by assumption) ?_
            rotate_left
            · intro w hSw; go_split_ands; go_simp; try with_reducible rfl
            simp only [Act.put, List.setIfInBounds_toArray, List.set_cons_zero, List.set_cons_succ, List.getElem_toArray, List.getElem_cons_zero, List.getElem_cons_succ]
            refine wpAnyH_take (i := 14) (v := ?_) rfl (by kernel_rfl) (by kernel_rfl) (by kernel_rfl) (fun _ _ _ h => h) (Or.inl ⟨by rfl, ?_⟩) (by assumption) ?_
            rotate_left
            · intro w hSw; go_split_ands; go_simp; try with_reducible rfl
            simp only [Act.put, List.setIfInBounds_toArray, List.set_cons_zero, List.set_cons_succ, List.getElem_toArray, List.getElem_cons_zero, List.getElem_cons_succ]
            refine wpAnyH_take (i := 15) (v := ?_) rfl (by kernel_rfl) (by kernel_rfl) (by kernel_rfl) (fun _ _ _ h => h) (Or.inl ⟨by rfl, ?_⟩) (by assumption) ?_
            rotate_left
            · intro w hSw; go_split_ands; go_simp; try with_reducible rfl
            simp only [Act.put, List.setIfInBounds_toArray, List.set_cons_zero, List.set_cons_succ, List.getElem_toArray, List.getElem_cons_zero, List.getElem_cons_succ]
            refine wpAnyH_take (i := 16) (v := ?_) rfl (by kernel_rfl) (by kernel_rfl) (by kernel_rfl) (fun _ _ _ h => h) (Or.inl ⟨by rfl, ?_⟩) (by assumption) ?_
            rotate_left
            · intro w hSw; go_split_ands; go_simp; try with_reducible rfl
            simp only [Act.put, List.setIfInBounds_toArray, List.set_cons_zero, List.set_cons_succ, List.getElem_toArray, List.getElem_cons_zero, List.getElem_cons_succ]
            refine wpAnyH_take (i := 17) rfl (by kernel_rfl) (by kernel_rfl) (by kernel_rfl) (fun _ _ _ h => h) (Or.inr ⟨by rfl, rfl⟩) (by assumption) ?_
            simp only [Act.put, List.setIfInBounds_toArray, List.set_cons_zero, List.set_cons_succ, List.getElem_toArray, List.getElem_cons_zero, List.getElem_cons_succ]
            refine wpAnyH_take (i := 18) rfl (by kernel_rfl) (by kernel_rfl) (by kernel_rfl) (fun _ _ _ h => h) (Or.inr ⟨by rfl, rfl⟩) (by assumption) ?_
            simp only [Act.put, List.setIfInBounds_toArray, List.set_cons_zero, List.set_cons_succ, List.getElem_toArray, List.getElem_cons_zero, List.getElem_cons_succ]
            refine wpAnyH_take (i := 19) rfl (by kernel_rfl) (by kernel_rfl) (by kernel_rfl) (fun _ _ _ h => h) (Or.inr ⟨by rfl, rfl⟩) (by assumption) ?_
            simp only [Act.put, List.setIfInBounds_toArray, List.set_cons_zero, List.set_cons_succ, List.getElem_toArray, List.getElem_cons_zero, List.getElem_cons_succ]
            refine wpAnyH_take (i := 20) (v := ?_) rfl (by kernel_rfl) (by kernel_rfl) (by kernel_rfl) (fun _ _ _ h => h) (Or.inl ⟨by rfl, ?_⟩) (by assumption) ?_
            rotate_left
            · intro w hSw; go_split_ands; go_simp; try with_reducible rfl
            simp only [Act.put, List.setIfInBounds_toArray, List.set_cons_zero, List.set_cons_succ, List.getElem_toArray, List.getElem_cons_zero, List.getElem_cons_succ]
            refine wpAnyH_take (i := 21) (v := ?_) rfl (by kernel_rfl) (by kernel_rfl) (by kernel_rfl) (fun _ _ _ h => h) (Or.inl ⟨by rfl, ?_⟩) (by assumption) ?_
            rotate_left
            · intro w hSw; go_split_ands; go_simp; try with_reducible rfl
            simp only [Act.put, List.setIfInBounds_toArray, List.set_cons_zero, List.set_cons_succ, List.getElem_toArray, List.getElem_cons_zero, List.getElem_cons_succ]
            refine wpAnyH_take (i := 22) rfl (by kernel_rfl) (by kernel_rfl) (by kernel_rfl) (fun _ _ _ h => h) (Or.inr ⟨by rfl, rfl⟩) (by assumption) ?_
            simp only [Act.put, List.setIfInBounds_toArray, List.set_cons_zero, List.set_cons_succ, List.getElem_toArray, List.getElem_cons_zero, List.getElem_cons_succ]
            refine wpAnyH_take (i := 23) rfl (by kernel_rfl) (by kernel_rfl) (by kernel_rfl) (fun _ _ _ h => h) (Or.inr ⟨by rfl, rfl⟩) (by assumption) ?_
            simp only [Act.put, List.setIfInBounds_toArray, List.set_cons_zero, List.set_cons_succ, List.getElem_toArray, List.getElem_cons_zero, List.getElem_cons_succ]
            refine wpAnyH_take (i := 24) rfl (by kernel_rfl) (by kernel_rfl) (by kernel_rfl) (fun _ _ _ h => h) (Or.inr ⟨by rfl, rfl⟩) (by assumption) ?_
            simp only [Act.put, List.setIfInBounds_toArray, List.set_cons_zero, List.set_cons_succ, List.getElem_toArray, List.getElem_cons_zero, List.getElem_cons_succ]
            refine wpAnyH_take (i := 25) rfl (by kernel_rfl) (by kernel_rfl) (by kernel_rfl) (fun _ _ _ h => h) (Or.inr ⟨by rfl, rfl⟩) (by assumption) ?_
            simp only [Act.put, List.setIfInBounds_toArray, List.set_cons_zero, List.set_cons_succ, List.getElem_toArray, List.getElem_cons_zero, List.getElem_cons_succ]
            refine wpAnyH_take (i := 26) rfl (by kernel_rfl) (by kernel_rfl) (by kernel_rfl) (fun _ _ _ h => h) (Or.inr ⟨by rfl, rfl⟩) (by assumption) ?_
            simp only [Act.put, List.setIfInBounds_toArray, List.set_cons_zero, List.set_cons_succ, List.getElem_toArray, List.getElem_cons_zero, List.getElem_cons_succ]
            refine wpAnyH_take (i := 27) rfl (by kernel_rfl) (by kernel_rfl) (by kernel_rfl) (fun _ _ _ h => h) (Or.inr ⟨by rfl, rfl⟩) (by assumption) ?_
            simp only [Act.put, List.setIfInBounds_toArray, List.set_cons_zero, List.set_cons_succ, List.getElem_toArray, List.getElem_cons_zero, List.getElem_cons_succ]
            refine wpAnyH_take (i := 28) rfl (by kernel_rfl) (by kernel_rfl) (by kernel_rfl) (fun _ _ _ h => h) (Or.inr ⟨by rfl, rfl⟩) (by assumption) ?_
            simp only [Act.put, List.setIfInBounds_toArray, List.set_cons_zero, List.set_cons_succ, List.getElem_toArray, List.getElem_cons_zero, List.getElem_cons_succ]
            refine wpAnyH_take (i := 29) rfl (by kernel_rfl) (by kernel_rfl) (by kernel_rfl) (fun _ _ _ h => h) (Or.inr ⟨by rfl, rfl⟩) (by assumption) ?_
            simp only [Act.put, List.setIfInBounds_toArray, List.set_cons_zero, List.set_cons_succ, List.getElem_toArray, List.getElem_cons_zero, List.getElem_cons_succ]
            refine wpAnyH_take (i := 30) rfl (by kernel_rfl) (by kernel_rfl) (by kernel_rfl) (fun _ _ _ h => h) (Or.inr ⟨by rfl, rfl⟩) (by assumption) ?_
            simp only [Act.put, List.setIfInBounds_toArray, List.set_cons_zero, List.set_cons_succ, List.getElem_toArray, List.getElem_cons_zero, List.getElem_cons_succ]
            refine wpAnyH_take (i := 31) rfl (by kernel_rfl) (by kernel_rfl) (by kernel_rfl) (fun _ _ _ h => h) (Or.inr ⟨by rfl, rfl⟩) (by assumption) ?_
            simp only [Act.put, List.setIfInBounds_toArray, List.set_cons_zero, List.set_cons_succ, List.getElem_toArray, List.getElem_cons_zero, List.getElem_cons_succ]
            refine wpAnyH_take (i := 32) rfl (by kernel_rfl) (by kernel_rfl) (by kernel_rfl) (fun _ _ _ h => h) (Or.inr ⟨by rfl, rfl⟩) (by assumption) ?_
            simp only [Act.put, List.setIfInBounds_toArray, List.set_cons_zero, List.set_cons_succ, List.getElem_toArray, List.getElem_cons_zero, List.getElem_cons_succ]
            refine wpAnyH_take (i := 33) rfl (by kernel_rfl) (by kernel_rfl) (by kernel_rfl) (fun _ _ _ h => h) (Or.inr ⟨by rfl, rfl⟩) (by assumption) ?_
            simp only [Act.put, List.setIfInBounds_toArray, List.set_cons_zero, List.set_cons_succ, List.getElem_toArray, List.getElem_cons_zero, List.getElem_cons_succ]
            refine wpAnyH_take (i := 34) (v := ?_) rfl (by kernel_rfl) (by kernel_rfl) (by kernel_rfl) (fun _ _ _ h => h) (Or.inl ⟨by rfl, ?_⟩) (by assumption) ?_
            rotate_left
            · intro w hSw; go_split_ands; go_simp; try with_reducible rfl
            simp only [Act.put, List.setIfInBounds_toArray, List.set_cons_zero, List.set_cons_succ, List.getElem_toArray, List.getElem_cons_zero, List.getElem_cons_succ]
            refine wpAnyH_take (i := 35) (v := ?_) rfl (by kernel_rfl) (by kernel_rfl) (by kernel_rfl) (fun _ _ _ h => h) (Or.inl ⟨by rfl, ?_⟩) (by assumption) ?_
            rotate_left
            · intro w hSw; go_split_ands; go_simp; try with_reducible rfl
            simp only [Act.put, List.setIfInBounds_toArray, List.set_cons_zero, List.set_cons_succ, List.getElem_toArray, List.getElem_cons_zero, List.getElem_cons_succ]
            refine wpAnyH_done (by kernel_rfl) ?_ _
            go_wp2
            go_roundg (n - (i + 1))
            case measure => have := HK.out; omega
            case rel => exact ⟨i + 1, r', by omega, rfl, HP.out.x, HP.out.y, HP.out.old⟩
          · have d1 : decide ((0 : Int) ≤ a.at_) = true := by simp; omega
            have d2 : decide (a.at_ < (8 : Int)) = false := by simp; omega
            clear hb
            go_wp2_with fail
            refine wp_region_held_drew (S := fun w' => w'.rangeAt R 0 r'.cells ∧ w'.rangeAt S 0 r'.cells ∧ w'.cell? ⟨G, 1, none⟩ = some (.int .i64 a.at_)) (by kernel_rfl) ⟨HPS.out.x.range, HPS.out.y.range, Q1.out⟩ (fun hHeld => ?_)
            refine wpAnyH_take (i := 0) (v := ?_) rfl (by kernel_rfl) (by kernel_rfl) (by kernel_rfl) (fun _ _ _ h => h) (Or.inl ⟨by rfl, ?_⟩) (by assumption) ?_
            rotate_left
            · intro w hSw; go_split_ands; go_simp; try with_reducible rfl
            simp only [Act.put, List.setIfInBounds_toArray, List.set_cons_zero, List.set_cons_succ, List.getElem_toArray, List.getElem_cons_zero]
            refine wpAnyH_take (i := 1) (v := ?_) rfl (by kernel_rfl) (by kernel_rfl) (by kernel_rfl) (fun _ _ _ h => h) (Or.inl ⟨by rfl, ?_⟩) (by assumption) ?_
            rotate_left
            · intro w hSw; go_split_ands; go_simp; try with_reducible rfl
            simp only [Act.put, List.setIfInBounds_toArray, List.set_cons_zero, List.set_cons_succ, List.getElem_toArray, List.getElem_cons_zero, List.getElem_cons_succ]
            refine wpAnyH_take (i := 2) (v := ?_) rfl (by kernel_rfl) (by kernel_rfl) (by kernel_rfl) (fun _ _ _ h => h) (Or.inl ⟨by rfl, ?_⟩) (by assumption) ?_
            rotate_left
            · intro w hSw; go_split_ands; go_simp; try with_reducible rfl
            simp only [Act.put, List.setIfInBounds_toArray, List.set_cons_zero, List.set_cons_succ, List.getElem_toArray, List.getElem_cons_zero, List.getElem_cons_succ]
            refine wpAnyH_take (i := 3) (v := ?_) rfl (by kernel_rfl) (by kernel_rfl) (by kernel_rfl) (fun _ _ _ h => h) (Or.inl ⟨by rfl, ?_⟩) (by assumption) ?_
            rotate_left
            · intro w hSw; go_split_ands; go_simp; try with_reducible rfl
            simp only [Act.put, List.setIfInBounds_toArray, List.set_cons_zero, List.set_cons_succ, List.getElem_toArray, List.getElem_cons_zero, List.getElem_cons_succ]
            refine wpAnyH_take (i := 4) (v := ?_) rfl (by kernel_rfl) (by kernel_rfl) (by kernel_rfl) (fun _ _ _ h => h) (Or.inl ⟨by rfl, ?_⟩) (by assumption) ?_
            rotate_left
            · intro w hSw; go_split_ands; go_simp; try with_reducible rfl
            simp only [Act.put, List.setIfInBounds_toArray, List.set_cons_zero, List.set_cons_succ, List.getElem_toArray, List.getElem_cons_zero, List.getElem_cons_succ]
            refine wpAnyH_take (i := 5) rfl (by kernel_rfl) (by kernel_rfl) (by kernel_rfl) (fun _ _ _ h => h) (yieldsIf_load_mid (by rfl) 27 _ rfl R 0 rfl r'.cells _ (fun _ h => h.1) Try.underlying27 rfl I27.out) (by assumption) ?_
            simp only [Act.put, List.setIfInBounds_toArray, List.set_cons_zero, List.set_cons_succ, List.getElem_toArray, List.getElem_cons_zero, List.getElem_cons_succ]
            refine wpAnyH_take (i := 6) (v := ?_) rfl (by kernel_rfl) (by kernel_rfl) (by kernel_rfl) (fun _ _ _ h => h) (Or.inl ⟨by rfl, ?_⟩) (by assumption) ?_
            rotate_left
            · intro w hSw; go_split_ands; go_simp; try with_reducible rfl
            simp only [Act.put, List.setIfInBounds_toArray, List.set_cons_zero, List.set_cons_succ, List.getElem_toArray, List.getElem_cons_zero, List.getElem_cons_succ]
            refine wpAnyH_take (i := 7) (v := ?_) rfl (by kernel_rfl) (by kernel_rfl) (by kernel_rfl) (fun _ _ _ h => h) (Or.inl ⟨by rfl, ?_⟩) (by assumption) ?_
            rotate_left
            · intro w hSw; go_split_ands; go_simp; try with_reducible rfl
            simp only [Act.put, List.setIfInBounds_toArray, List.set_cons_zero, List.set_cons_succ, List.getElem_toArray, List.getElem_cons_zero, List.getElem_cons_succ]
            refine wpAnyH_take (i := 8) rfl (by kernel_rfl) (by kernel_rfl) (by kernel_rfl) (fun _ _ _ h => h) (yieldsIf_load_mid (by rfl) 33 _ rfl S 0 rfl r'.cells _ (fun _ h => h.2.1) Try.underlying33 rfl I33.out) (by assumption) ?_
            simp only [Act.put, List.setIfInBounds_toArray, List.set_cons_zero, List.set_cons_succ, List.getElem_toArray, List.getElem_cons_zero, List.getElem_cons_succ]
            refine wpAnyH_ready (rs := [9]) (by kernel_rfl) (by simp) ?_
            refine AllReadyH.cons rfl (fun K hK => ?_) AllReadyH.nil
            go_simp
            refine (is_same r' HPS.out.x.ok _).mono ?_
            rintro e w2 ⟨rfl, hb⟩
            have hp := (HPS.out.drewN 1).below hb
            have HP := Lib.hid hp
            have K1 := Lib.hid ((World.cell?_of_block (a := ⟨G, 1, none⟩) (hb.block G (HPS.out.drewN 1).lt)).trans Q1.out)
            clear hp hb
            refine hK.out _ _ ⟨HP.out.x.range, HP.out.y.range, K1.out⟩ (fun hHeld => ?_)
            clear hK K
            try simp only [Act.put, List.setIfInBounds_toArray, List.set_cons_zero, List.set_cons_succ]
            refine wpAnyH_take (i := 10) (v := ?_) rfl (by kernel_rfl) (by kernel_rfl) (by kernel_rfl) (fun _ _ _ h => h) (Or.inl ⟨by rfl, ?_⟩) (by assumption) ?_
            rotate_left
            · intro w hSw; go_split_ands; go_simp; try with_reducible rfl
            simp only [Act.put, List.setIfInBounds_toArray, List.set_cons_zero, List.set_cons_succ, List.getElem_toArray, List.getElem_cons_zero, List.getElem_cons_succ]
            refine wpAnyH_take (i := 11) (v := ?_) rfl (by kernel_rfl) (by kernel_rfl) (by kernel_rfl) (fun _ _ _ h => h) (Or.inl ⟨by rfl, ?_⟩) (by assumption) ?_
            rotate_left
            · intro w hSw; go_split_ands; go_simp; try with_reducible rfl
            simp only [Act.put, List.setIfInBounds_toArray, List.set_cons_zero, List.set_cons_succ, List.getElem_toArray, List.getElem_cons_zero, List.getElem_cons_succ]
            refine wpAnyH_take (i := 12) (v := ?_) rfl (by kernel_rfl) (by kernel_rfl) (by kernel_rfl) (fun _ _ _ h => h) (Or.inl ⟨by rfl, ?_⟩) (by assumption) ?_
            rotate_left
            · intro w hSw; go_split_ands; go_simp; try with_reducible rfl
            simp only [Act.put, List.setIfInBounds_toArray, List.set_cons_zero, List.set_cons_succ, List.getElem_toArray, List.getElem_cons_zero, List.getElem_cons_succ]
            refine wpAnyH_take (i := 13) (v := ?_) rfl (by kernel_rfl) (by kernel_rfl) (by kernel_rfl) (fun _ _ _ h => h) (Or.inl ⟨by rfl, ?_⟩) (by assumption) ?_
            rotate_left
            · intro w hSw; go_split_ands; go_simp; try with_reducible rfl
            simp only [Act.put, List.setIfInBounds_toArray, List.set_cons_zero, List.set_cons_succ, List.getElem_toArray, List.getElem_cons_zero, List.getElem_cons_succ]
            refine wpAnyH_take (i := 14) (v := ?_) rfl (by kernel_rfl) (by kernel_rfl) (by kernel_rfl) (fun _ _ _ h => h) (Or.inl ⟨by rfl, ?_⟩) (by assumption) ?_
            rotate_left
            · intro w hSw; go_split_ands; go_simp; try with_reducible rfl
            simp only [Act.put, List.setIfInBounds_toArray, List.set_cons_zero, List.set_cons_succ, List.getElem_toArray, List.getElem_cons_zero, List.getElem_cons_succ]
            refine wpAnyH_take (i := 15) (v := ?_) rfl (by kernel_rfl) (by kernel_rfl) (by kernel_rfl) (fun _ _ _ h => h) (Or.inl ⟨by rfl, ?_⟩) (by assumption) ?_
            rotate_left
            · intro w hSw; go_split_ands; go_simp; try with_reducible rfl
            simp only [Act.put, List.setIfInBounds_toArray, List.set_cons_zero, List.set_cons_succ, List.getElem_toArray, List.getElem_cons_zero, List.getElem_cons_succ]
            refine wpAnyH_take (i := 16) (v := ?_) rfl (by kernel_rfl) (by kernel_rfl) (by kernel_rfl) (fun _ _ _ h => h) (Or.inl ⟨by rfl, ?_⟩) (by assumption) ?_
            rotate_left
            · intro w hSw; go_split_ands; go_simp; try with_reducible rfl
            simp only [Act.put, List.setIfInBounds_toArray, List.set_cons_zero, List.set_cons_succ, List.getElem_toArray, List.getElem_cons_zero, List.getElem_cons_succ]
            refine wpAnyH_take (i := 17) (v := ?_) rfl (by kernel_rfl) (by kernel_rfl) (by kernel_rfl) (fun _ _ _ h => h) (Or.inl ⟨by rfl, ?_⟩) (by assumption) ?_
            rotate_left
            · intro w hSw; go_split_ands; go_simp; try with_reducible rfl
            simp only [Act.put, List.setIfInBounds_toArray, List.set_cons_zero, List.set_cons_succ, List.getElem_toArray, List.getElem_cons_zero, List.getElem_cons_succ]
            refine wpAnyH_take (i := 18) (v := ?_) rfl (by kernel_rfl) (by kernel_rfl) (by kernel_rfl) (fun _ _ _ h => h) (Or.inl ⟨by rfl, ?_⟩) (by assumption) ?_
            rotate_left
            · intro w hSw; go_split_ands; go_simp; try with_reducible rfl
            simp only [Act.put, List.setIfInBounds_toArray, List.set_cons_zero, List.set_cons_succ, List.getElem_toArray, List.getElem_cons_zero, List.getElem_cons_succ]
            refine wpAnyH_take (i := 19) (v := ?_) rfl (by kernel_rfl) (by kernel_rfl) (by kernel_rfl) (fun _ _ _ h => h) (Or.inl ⟨by rfl, ?_⟩) (by assumption) ?_
            rotate_left
            · intro w hSw; go_split_ands; go_simp; try with_reducible rfl
            simp only [Act.put, List.setIfInBounds_toArray, List.set_cons_zero, List.set_cons_succ, List.getElem_toArray, List.getElem_cons_zero, List.getElem_cons_succ]
            refine wpAnyH_take (i := 20) (v := ?_) rfl (by kernel_rfl) (by kernel_rfl) (by kernel_rfl) (fun _ _ _ h => h) (Or.inl ⟨by rfl, ?_⟩) (by assumption) ?_
            rotate_left
            · intro w hSw; go_split_ands; go_simp; try with_reducible rfl
            simp only [Act.put, List.setIfInBounds_toArray, List.set_cons_zero, List.set_cons_succ, List.getElem_toArray, List.getElem_cons_zero, List.getElem_cons_succ]
            refine wpAnyH_take (i := 21) (v := ?_) rfl (by kernel_rfl) (by kernel_rfl) (by kernel_rfl) (fun _ _ _ h => h) (Or.inl ⟨by rfl, ?_⟩) (by assumption) ?_
            rotate_left
            · intro w hSw; go_split_ands; go_simp; try with_reducible rfl
            simp only [Act.put, List.setIfInBounds_toArray, List.set_cons_zero, List.set_cons_succ, List.getElem_toArray, List.getElem_cons_zero, List.getElem_cons_succ]
            refine wpAnyH_take (i := 22) rfl (by kernel_rfl) (by kernel_rfl) (by kernel_rfl) (fun _ _ _ h => h) (Or.inr ⟨by rfl, rfl⟩) (by assumption) ?_
            simp only [Act.put, List.setIfInBounds_toArray, List.set_cons_zero, List.set_cons_succ, List.getElem_toArray, List.getElem_cons_zero, List.getElem_cons_succ]
            refine wpAnyH_take (i := 23) rfl (by kernel_rfl) (by kernel_rfl) (by kernel_rfl) (fun _ _ _ h => h) (Or.inr ⟨by rfl, rfl⟩) (by assumption) ?_
            simp only [Act.put, List.setIfInBounds_toArray, List.set_cons_zero, List.set_cons_succ, List.getElem_toArray, List.getElem_cons_zero, List.getElem_cons_succ]
            refine wpAnyH_take (i := 24) rfl (by kernel_rfl) (by kernel_rfl) (by kernel_rfl) (fun _ _ _ h => h) (Or.inr ⟨by rfl, rfl⟩) (by assumption) ?_
            simp only [Act.put, List.setIfInBounds_toArray, List.set_cons_zero, List.set_cons_succ, List.getElem_toArray, List.getElem_cons_zero, List.getElem_cons_succ]
            refine wpAnyH_take (i := 25) rfl (by kernel_rfl) (by kernel_rfl) (by kernel_rfl) (fun _ _ _ h => h) (Or.inr ⟨by rfl, rfl⟩) (by assumption) ?_
            simp only [Act.put, List.setIfInBounds_toArray, List.set_cons_zero, List.set_cons_succ, List.getElem_toArray, List.getElem_cons_zero, List.getElem_cons_succ]
            refine wpAnyH_take (i := 26) rfl (by kernel_rfl) (by kernel_rfl) (by kernel_rfl) (fun _ _ _ h => h) (Or.inr ⟨by rfl, rfl⟩) (by assumption) ?_
            simp only [Act.put, List.setIfInBounds_toArray, List.set_cons_zero, List.set_cons_succ, List.getElem_toArray, List.getElem_cons_zero, List.getElem_cons_succ]
            refine wpAnyH_take (i := 27) rfl (by kernel_rfl) (by kernel_rfl) (by kernel_rfl) (fun _ _ _ h => h) (Or.inr ⟨by rfl, rfl⟩) (by assumption) ?_
            simp only [Act.put, List.setIfInBounds_toArray, List.set_cons_zero, List.set_cons_succ, List.getElem_toArray, List.getElem_cons_zero, List.getElem_cons_succ]
            refine wpAnyH_take (i := 28) rfl (by kernel_rfl) (by kernel_rfl) (by kernel_rfl) (fun _ _ _ h => h) (Or.inr ⟨by rfl, rfl⟩) (by assumption) ?_
            simp only [Act.put, List.setIfInBounds_toArray, List.set_cons_zero, List.set_cons_succ, List.getElem_toArray, List.getElem_cons_zero, List.getElem_cons_succ]
            refine wpAnyH_take (i := 29) rfl (by kernel_rfl) (by kernel_rfl) (by kernel_rfl) (fun _ _ _ h => h) (Or.inr ⟨by rfl, rfl⟩) (by assumption) ?_
            simp only [Act.put, List.setIfInBounds_toArray, List.set_cons_zero, List.set_cons_succ, List.getElem_toArray, List.getElem_cons_zero, List.getElem_cons_succ]
            refine wpAnyH_take (i := 30) rfl (by kernel_rfl) (by kernel_rfl) (by kernel_rfl) (fun _ _ _ h => h) (Or.inr ⟨by rfl, rfl⟩) (by assumption) ?_
            simp only [Act.put, List.setIfInBounds_toArray, List.set_cons_zero, List.set_cons_succ, List.getElem_toArray, List.getElem_cons_zero, List.getElem_cons_succ]
            refine wpAnyH_take (i := 31) rfl (by kernel_rfl) (by kernel_rfl) (by kernel_rfl) (fun _ _ _ h => h) (Or.inr ⟨by rfl, rfl⟩) (by assumption) ?_
            simp only [Act.put, List.setIfInBounds_toArray, List.set_cons_zero, List.set_cons_succ, List.getElem_toArray, List.getElem_cons_zero, List.getElem_cons_succ]
            refine wpAnyH_take (i := 32) rfl (by kernel_rfl) (by kernel_rfl) (by kernel_rfl) (fun _ _ _ h => h) (Or.inr ⟨by rfl, rfl⟩) (by assumption) ?_
            simp only [Act.put, List.setIfInBounds_toArray, List.set_cons_zero, List.set_cons_succ, List.getElem_toArray, List.getElem_cons_zero, List.getElem_cons_succ]
            refine wpAnyH_take (i := 33) rfl (by kernel_rfl) (by kernel_rfl) (by kernel_rfl) (fun _ _ _ h => h) (Or.inr ⟨by rfl, rfl⟩) (by assumption) ?_
            simp only [Act.put, List.setIfInBounds_toArray, List.set_cons_zero, List.set_cons_succ, List.getElem_toArray, List.getElem_cons_zero, List.getElem_cons_succ]
            refine wpAnyH_take (i := 34) (v := ?_) rfl (by kernel_rfl) (by kernel_rfl) (by kernel_rfl) (fun _ _ _ h => h) (Or.inl ⟨by rfl, ?_⟩) (by assumption) ?_
            rotate_left
            · intro w hSw; go_split_ands; go_simp; try with_reducible rfl
            simp only [Act.put, List.setIfInBounds_toArray, List.set_cons_zero, List.set_cons_succ, List.getElem_toArray, List.getElem_cons_zero, List.getElem_cons_succ]
            refine wpAnyH_take (i := 35) (v := ?_) rfl (by kernel_rfl) (by kernel_rfl) (by kernel_rfl) (fun _ _ _ h => h) (Or.inl ⟨by rfl, ?_⟩) (by assumption) ?_
            rotate_left
            · intro w hSw; go_split_ands; go_simp; try with_reducible rfl
            simp only [Act.put, List.setIfInBounds_toArray, List.set_cons_zero, List.set_cons_succ, List.getElem_toArray, List.getElem_cons_zero, List.getElem_cons_succ]
            refine wpAnyH_done (by kernel_rfl) ?_ _
            go_wp2
            go_roundg (n - (i + 1))
            case measure => have := HK.out; omega
            case rel => exact ⟨i + 1, r', by omega, rfl, HP.out.x, HP.out.y, HP.out.old⟩
        · obtain ⟨x0, x1⟩ := inl_yes hb
          clear hb
          obtain ⟨k, hk⟩ := Int.eq_ofNat_of_zero_le x0
          have HK8 : Hid (k < 8) := Lib.hid (by omega)
          have d1 : decide ((0 : Int) ≤ (k : Int)) = true := by simp
          have d2 : decide ((k : Int) < (8 : Int)) = true := by have := HK8.out; simp; omega
          have x1 : (k : Int) < 8 := by omega
          have Q1 : Hid (wc.drew.cell? ⟨G, 1, none⟩ = some (.int .i64 (k : Int))) := Lib.hid (by rw [← hk]; exact HPS.out.pl)
          obtain ⟨z, hz⟩ : ∃ z, r'.N.getD k 0 = z := ⟨_, rfl⟩
          have Q2 : Hid (wc.drew.cell? ⟨S, 8 + k, none⟩ = some (.int .u64 z)) := Lib.hid (by
            have := HPS.out.y.N HK8.out
            rw [Nat.zero_add, hz] at this
            exact this)
          have HZ := Lib.hid hz
          clear hk x0 hz
          go_wp2_with fail
          refine wp_region_held_drew (S := fun w' => w'.rangeAt R 0 r'.cells ∧ w'.rangeAt S 0 r'.cells ∧ w'.cell? ⟨G, 1, none⟩ = some (.int .i64 (k : Int)) ∧ w'.cell? ⟨S, 8 + k, none⟩ = some (.int .u64 z)) (by kernel_rfl) ⟨HPS.out.x.range, HPS.out.y.range, Q1.out, Q2.out⟩ (fun hHeld => ?_)
          refine wpAnyH_take (i := 0) (v := ?_) rfl (by kernel_rfl) (by kernel_rfl) (by kernel_rfl) (fun _ _ _ h => h) (Or.inl ⟨by rfl, ?_⟩) (by assumption) ?_
          rotate_left
          · intro w hSw; go_split_ands; go_simp; try with_reducible rfl
          simp only [Act.put, List.setIfInBounds_toArray, List.set_cons_zero, List.set_cons_succ, List.getElem_toArray, List.getElem_cons_zero]
          refine wpAnyH_take (i := 1) (v := ?_) rfl (by kernel_rfl) (by kernel_rfl) (by kernel_rfl) (fun _ _ _ h => h) (Or.inl ⟨by rfl, ?_⟩) (by assumption) ?_
          rotate_left
          · intro w hSw; go_split_ands; go_simp; try with_reducible rfl
          simp only [Act.put, List.setIfInBounds_toArray, List.set_cons_zero, List.set_cons_succ, List.getElem_toArray, List.getElem_cons_zero, List.getElem_cons_succ]
          refine wpAnyH_take (i := 2) (v := ?_) rfl (by kernel_rfl) (by kernel_rfl) (by kernel_rfl) (fun _ _ _ h => h) (Or.inl ⟨by rfl, ?_⟩) (by assumption) ?_
          rotate_left
          · intro w hSw; go_split_ands; go_simp; try with_reducible rfl
          simp only [Act.put, List.setIfInBounds_toArray, List.set_cons_zero, List.set_cons_succ, List.getElem_toArray, List.getElem_cons_zero, List.getElem_cons_succ]
          refine wpAnyH_take (i := 3) (v := ?_) rfl (by kernel_rfl) (by kernel_rfl) (by kernel_rfl) (fun _ _ _ h => h) (Or.inl ⟨by rfl, ?_⟩) (by assumption) ?_
          rotate_left
          · intro w hSw; go_split_ands; go_simp; try with_reducible rfl
          simp only [Act.put, List.setIfInBounds_toArray, List.set_cons_zero, List.set_cons_succ, List.getElem_toArray, List.getElem_cons_zero, List.getElem_cons_succ]
          refine wpAnyH_take (i := 4) (v := ?_) rfl (by kernel_rfl) (by kernel_rfl) (by kernel_rfl) (fun _ _ _ h => h) (Or.inl ⟨by rfl, ?_⟩) (by assumption) ?_
          rotate_left
          · intro w hSw; go_split_ands; go_simp; try with_reducible rfl
          simp only [Act.put, List.setIfInBounds_toArray, List.set_cons_zero, List.set_cons_succ, List.getElem_toArray, List.getElem_cons_zero, List.getElem_cons_succ]
          refine wpAnyH_take (i := 5) rfl (by kernel_rfl) (by kernel_rfl) (by kernel_rfl) (fun _ _ _ h => h) (yieldsIf_load_mid (by rfl) 27 _ rfl R 0 rfl r'.cells _ (fun _ h => h.1) Try.underlying27 rfl I27.out) (by assumption) ?_
          simp only [Act.put, List.setIfInBounds_toArray, List.set_cons_zero, List.set_cons_succ, List.getElem_toArray, List.getElem_cons_zero, List.getElem_cons_succ]
          refine wpAnyH_take (i := 6) (v := ?_) rfl (by kernel_rfl) (by kernel_rfl) (by kernel_rfl) (fun _ _ _ h => h) (Or.inl ⟨by rfl, ?_⟩) (by assumption) ?_
          rotate_left
          · intro w hSw; go_split_ands; go_simp; try with_reducible rfl
          simp only [Act.put, List.setIfInBounds_toArray, List.set_cons_zero, List.set_cons_succ, List.getElem_toArray, List.getElem_cons_zero, List.getElem_cons_succ]
          refine wpAnyH_take (i := 7) (v := ?_) rfl (by kernel_rfl) (by kernel_rfl) (by kernel_rfl) (fun _ _ _ h => h) (Or.inl ⟨by rfl, ?_⟩) (by assumption) ?_
          rotate_left
          · intro w hSw; go_split_ands; go_simp; try with_reducible rfl
          simp only [Act.put, List.setIfInBounds_toArray, List.set_cons_zero, List.set_cons_succ, List.getElem_toArray, List.getElem_cons_zero, List.getElem_cons_succ]
          refine wpAnyH_take (i := 8) rfl (by kernel_rfl) (by kernel_rfl) (by kernel_rfl) (fun _ _ _ h => h) (yieldsIf_load_mid (by rfl) 33 _ rfl S 0 rfl r'.cells _ (fun _ h => h.2.1) Try.underlying33 rfl I33.out) (by assumption) ?_
          simp only [Act.put, List.setIfInBounds_toArray, List.set_cons_zero, List.set_cons_succ, List.getElem_toArray, List.getElem_cons_zero, List.getElem_cons_succ]
          refine wpAnyH_ready (rs := [9]) (by kernel_rfl) (by simp) ?_
          refine AllReadyH.cons rfl (fun K hK => ?_) AllReadyH.nil
          go_simp
          refine (is_same r' HPS.out.x.ok _).mono ?_
          rintro e w2 ⟨rfl, hb⟩
          have hp := (HPS.out.drewN 1).below hb
          have HP := Lib.hid hp
          have K1 := Lib.hid ((World.cell?_of_block (a := ⟨G, 1, none⟩) (hb.block G (HPS.out.drewN 1).lt)).trans Q1.out)
          have K2 := Lib.hid ((World.cell?_of_block (a := ⟨S, 8 + k, none⟩) (hb.block S (HPS.out.drewN 1).y.lt)).trans Q2.out)
          clear hp hb
          refine hK.out _ _ ⟨HP.out.x.range, HP.out.y.range, K1.out, K2.out⟩ (fun hHeld => ?_)
          clear hK K
          try simp only [Act.put, List.setIfInBounds_toArray, List.set_cons_zero, List.set_cons_succ]
          refine wpAnyH_take (i := 10) (v := ?_) rfl (by kernel_rfl) (by kernel_rfl) (by kernel_rfl) (fun _ _ _ h => h) (Or.inl ⟨by rfl, ?_⟩) (by assumption) ?_
          rotate_left
          · intro w hSw; go_split_ands; go_simp; try with_reducible rfl
          simp only [Act.put, List.setIfInBounds_toArray, List.set_cons_zero, List.set_cons_succ, List.getElem_toArray, List.getElem_cons_zero, List.getElem_cons_succ]
          refine wpAnyH_take (i := 11) (v := ?_) rfl (by kernel_rfl) (by kernel_rfl) (by kernel_rfl) (fun _ _ _ h => h) (Or.inl ⟨by rfl, ?_⟩) (by assumption) ?_
          rotate_left
          · intro w hSw; go_split_ands; go_simp; try with_reducible rfl
          simp only [Act.put, List.setIfInBounds_toArray, List.set_cons_zero, List.set_cons_succ, List.getElem_toArray, List.getElem_cons_zero, List.getElem_cons_succ]
          refine wpAnyH_take (i := 12) (v := ?_) rfl (by kernel_rfl) (by kernel_rfl) (by kernel_rfl) (fun _ _ _ h => h) (Or.inl ⟨by rfl, ?_⟩) (by assumption) ?_
          rotate_left
          · intro w hSw; go_split_ands; go_simp; try with_reducible rfl
          simp only [Act.put, List.setIfInBounds_toArray, List.set_cons_zero, List.set_cons_succ, List.getElem_toArray, List.getElem_cons_zero, List.getElem_cons_succ]
          refine wpAnyH_take (i := 13) (v := ?_) rfl (by kernel_rfl) (by kernel_rfl) (by kernel_rfl) (fun _ _ _ h => h) (Or.inl ⟨by rfl, ?_⟩) (by assumption) ?_
          rotate_left
          · intro w hSw; go_split_ands; go_simp; try with_reducible rfl
          simp only [Act.put, List.setIfInBounds_toArray, List.set_cons_zero, List.set_cons_succ, List.getElem_toArray, List.getElem_cons_zero, List.getElem_cons_succ]
          refine wpAnyH_take (i := 14) (v := ?_) rfl (by kernel_rfl) (by kernel_rfl) (by kernel_rfl) (fun _ _ _ h => h) (Or.inl ⟨by rfl, ?_⟩) (by assumption) ?_
          rotate_left
          · intro w hSw; go_split_ands; go_simp; try with_reducible rfl
          simp only [Act.put, List.setIfInBounds_toArray, List.set_cons_zero, List.set_cons_succ, List.getElem_toArray, List.getElem_cons_zero, List.getElem_cons_succ]
          refine wpAnyH_take (i := 15) (v := ?_) rfl (by kernel_rfl) (by kernel_rfl) (by kernel_rfl) (fun _ _ _ h => h) (Or.inl ⟨by rfl, ?_⟩) (by assumption) ?_
          rotate_left
          · intro w hSw; go_split_ands; go_simp; try with_reducible rfl
          simp only [Act.put, List.setIfInBounds_toArray, List.set_cons_zero, List.set_cons_succ, List.getElem_toArray, List.getElem_cons_zero, List.getElem_cons_succ]
          refine wpAnyH_take (i := 16) (v := ?_) rfl (by kernel_rfl) (by kernel_rfl) (by kernel_rfl) (fun _ _ _ h => h) (Or.inl ⟨by rfl, ?_⟩) (by assumption) ?_
          rotate_left
          · intro w hSw; go_split_ands; go_simp; try with_reducible rfl
          simp only [Act.put, List.setIfInBounds_toArray, List.set_cons_zero, List.set_cons_succ, List.getElem_toArray, List.getElem_cons_zero, List.getElem_cons_succ]
          refine wpAnyH_take (i := 17) (v := ?_) rfl (by kernel_rfl) (by kernel_rfl) (by kernel_rfl) (fun _ _ _ h => h) (Or.inl ⟨by rfl, ?_⟩) (by assumption) ?_
          rotate_left
          · intro w hSw; go_split_ands; go_simp; try with_reducible rfl
          simp only [Act.put, List.setIfInBounds_toArray, List.set_cons_zero, List.set_cons_succ, List.getElem_toArray, List.getElem_cons_zero, List.getElem_cons_succ]
          refine wpAnyH_take (i := 18) (v := ?_) rfl (by kernel_rfl) (by kernel_rfl) (by kernel_rfl) (fun _ _ _ h => h) (Or.inl ⟨by rfl, ?_⟩) (by assumption) ?_
          rotate_left
          · intro w hSw; go_split_ands; go_simp; try with_reducible rfl
          simp only [Act.put, List.setIfInBounds_toArray, List.set_cons_zero, List.set_cons_succ, List.getElem_toArray, List.getElem_cons_zero, List.getElem_cons_succ]
          refine wpAnyH_take (i := 19) (v := ?_) rfl (by kernel_rfl) (by kernel_rfl) (by kernel_rfl) (fun _ _ _ h => h) (Or.inl ⟨by rfl, ?_⟩) (by assumption) ?_
          rotate_left
          · intro w hSw; go_split_ands; go_simp; try with_reducible rfl
          simp only [Act.put, List.setIfInBounds_toArray, List.set_cons_zero, List.set_cons_succ, List.getElem_toArray, List.getElem_cons_zero, List.getElem_cons_succ]
          refine wpAnyH_take (i := 20) (v := ?_) rfl (by kernel_rfl) (by kernel_rfl) (by kernel_rfl) (fun _ _ _ h => h) (Or.inl ⟨by rfl, ?_⟩) (by assumption) ?_
          rotate_left
          · intro w hSw; go_split_ands; go_simp; try with_reducible rfl
          simp only [Act.put, List.setIfInBounds_toArray, List.set_cons_zero, List.set_cons_succ, List.getElem_toArray, List.getElem_cons_zero, List.getElem_cons_succ]
          refine wpAnyH_take (i := 21) (v := ?_) rfl (by kernel_rfl) (by kernel_rfl) (by kernel_rfl) (fun _ _ _ h => h) (Or.inl ⟨by rfl, ?_⟩) (by assumption) ?_
          rotate_left
          · intro w hSw; go_split_ands; go_simp; try with_reducible rfl
          simp only [Act.put, List.setIfInBounds_toArray, List.set_cons_zero, List.set_cons_succ, List.getElem_toArray, List.getElem_cons_zero, List.getElem_cons_succ]
          refine wpAnyH_take (i := 22) (v := ?_) rfl (by kernel_rfl) (by kernel_rfl) (by kernel_rfl) (fun _ _ _ h => h) (Or.inl ⟨by rfl, ?_⟩) (by assumption) ?_
          rotate_left
          · intro w hSw; go_split_ands; go_simp; try with_reducible rfl
          simp only [Act.put, List.setIfInBounds_toArray, List.set_cons_zero, List.set_cons_succ, List.getElem_toArray, List.getElem_cons_zero, List.getElem_cons_succ]
          refine wpAnyH_take (i := 23) (v := ?_) rfl (by kernel_rfl) (by kernel_rfl) (by kernel_rfl) (fun _ _ _ h => h) (Or.inl ⟨by rfl, ?_⟩) (by assumption) ?_
          rotate_left
          · intro w hSw; go_split_ands; go_simp; try with_reducible rfl
          simp only [Act.put, List.setIfInBounds_toArray, List.set_cons_zero, List.set_cons_succ, List.getElem_toArray, List.getElem_cons_zero, List.getElem_cons_succ]
          refine wpAnyH_take (i := 24) (v := ?_) rfl (by kernel_rfl) (by kernel_rfl) (by kernel_rfl) (fun _ _ _ h => h) (Or.inl ⟨by rfl, ?_⟩) (by assumption) ?_
          rotate_left
          · intro w hSw; go_split_ands; go_simp; try with_reducible rfl
          simp only [Act.put, List.setIfInBounds_toArray, List.set_cons_zero, List.set_cons_succ, List.getElem_toArray, List.getElem_cons_zero, List.getElem_cons_succ]
          refine wpAnyH_take (i := 26) (v := ?_) rfl (by kernel_rfl) (by kernel_rfl) (by kernel_rfl) (fun _ _ _ h => h) (Or.inl ⟨by rfl, ?_⟩) (by assumption) ?_
          rotate_left
          · intro w hSw; go_split_ands; go_simp; try with_reducible rfl
          simp only [Act.put, List.setIfInBounds_toArray, List.set_cons_zero, List.set_cons_succ, List.getElem_toArray, List.getElem_cons_zero, List.getElem_cons_succ]
          refine wpAnyH_take (i := 27) (v := ?_) rfl (by kernel_rfl) (by kernel_rfl) (by kernel_rfl) (fun _ _ _ h => h) (Or.inl ⟨by rfl, ?_⟩) (by assumption) ?_
          rotate_left
          · intro w hSw; go_split_ands; go_simp; try with_reducible rfl
          simp only [Act.put, List.setIfInBounds_toArray, List.set_cons_zero, List.set_cons_succ, List.getElem_toArray, List.getElem_cons_zero, List.getElem_cons_succ]
          refine wpAnyH_take (i := 28) (v := ?_) rfl (by kernel_rfl) (by kernel_rfl) (by kernel_rfl) (fun _ _ _ h => h) (Or.inl ⟨by rfl, ?_⟩) (by assumption) ?_
          rotate_left
          · intro w hSw; go_split_ands; go_simp; try with_reducible rfl
          simp only [Act.put, List.setIfInBounds_toArray, List.set_cons_zero, List.set_cons_succ, List.getElem_toArray, List.getElem_cons_zero, List.getElem_cons_succ]
          refine wpAnyH_take (i := 29) (v := ?_) rfl (by kernel_rfl) (by kernel_rfl) (by kernel_rfl) (fun _ _ _ h => h) (Or.inl ⟨by rfl, ?_⟩) (by assumption) ?_
          rotate_left
          · intro w hSw; go_split_ands; go_simp; try with_reducible rfl
          simp only [Act.put, List.setIfInBounds_toArray, List.set_cons_zero, List.set_cons_succ, List.getElem_toArray, List.getElem_cons_zero, List.getElem_cons_succ]
          refine wpAnyH_take (i := 30) (v := ?_) rfl (by kernel_rfl) (by kernel_rfl) (by kernel_rfl) (fun _ _ _ h => h) (Or.inl ⟨by rfl, ?_⟩) (by assumption) ?_
          rotate_left
          · intro w hSw; go_split_ands; go_simp; try with_reducible rfl
          simp only [Act.put, List.setIfInBounds_toArray, List.set_cons_zero, List.set_cons_succ, List.getElem_toArray, List.getElem_cons_zero, List.getElem_cons_succ]
          refine wpAnyH_take (i := 31) (v := ?_) rfl (by kernel_rfl) (by kernel_rfl) (by kernel_rfl) (fun _ _ _ h => h) (Or.inl ⟨by rfl, ?_⟩) (by assumption) ?_
          rotate_left
          · intro w hSw; go_split_ands; go_simp; try with_reducible rfl
          simp only [Act.put, List.setIfInBounds_toArray, List.set_cons_zero, List.set_cons_succ, List.getElem_toArray, List.getElem_cons_zero, List.getElem_cons_succ]
          refine wpAnyH_take (i := 32) (v := ?_) rfl (by kernel_rfl) (by kernel_rfl) (by kernel_rfl) (fun _ _ _ h => h) (Or.inl ⟨by rfl, ?_⟩) (by assumption) ?_
          rotate_left
          · intro w hSw; go_split_ands; go_simp; try with_reducible rfl
          simp only [Act.put, List.setIfInBounds_toArray, List.set_cons_zero, List.set_cons_succ, List.getElem_toArray, List.getElem_cons_zero, List.getElem_cons_succ]
          refine wpAnyH_ready (rs := [25]) (by kernel_rfl) (by simp) ?_
          refine AllReadyH.cons rfl (fun K hK => ?_) AllReadyH.nil
          go_simp
          refine (load_yes R 0 k r' _ HP.out.x HK8.out).mono ?_
          rw [HZ.out]
          rintro e w3 ⟨rfl, rfl⟩
          refine hK.out _ _ ⟨HP.out.x.range, HP.out.y.range, K1.out, K2.out⟩ (fun hHeld => ?_)
          clear hK K
          try simp only [Act.put, List.setIfInBounds_toArray, List.set_cons_zero, List.set_cons_succ]
          refine wpAnyH_take (i := 33) (v := ?_) rfl (by kernel_rfl) (by kernel_rfl) (by kernel_rfl) (fun _ _ _ h => h) (Or.inl ⟨by rfl, ?_⟩) (by assumption) ?_
          rotate_left
          · intro w hSw; go_split_ands; go_simp; try with_reducible rfl
          simp only [Act.put, List.setIfInBounds_toArray, List.set_cons_zero, List.set_cons_succ, List.getElem_toArray, List.getElem_cons_zero, List.getElem_cons_succ]
          refine wpAnyH_take (i := 34) (v := ?_) rfl (by kernel_rfl) (by kernel_rfl) (by kernel_rfl) (fun _ _ _ h => h) (Or.inl ⟨by rfl, ?_⟩) (by assumption) ?_
          rotate_left
          · intro w hSw; go_split_ands; go_simp; try with_reducible rfl
          simp only [Act.put, List.setIfInBounds_toArray, List.set_cons_zero, List.set_cons_succ, List.getElem_toArray, List.getElem_cons_zero, List.getElem_cons_succ]
          refine wpAnyH_take (i := 35) (v := ?_) rfl (by kernel_rfl) (by kernel_rfl) (by kernel_rfl) (fun _ _ _ h => h) (Or.inl ⟨by rfl, ?_⟩) (by assumption) ?_
          rotate_left
          · intro w hSw; go_split_ands; go_simp; try with_reducible rfl
          simp only [Act.put, List.setIfInBounds_toArray, List.set_cons_zero, List.set_cons_succ, List.getElem_toArray, List.getElem_cons_zero, List.getElem_cons_succ]
          refine wpAnyH_done (by kernel_rfl) ?_ _
          go_wp2
          go_roundg (n - (i + 1))
          case measure => have := HK.out; omega
          case rel => exact ⟨i + 1, r', by omega, rfl, HP.out.x, HP.out.y, HP.out.old⟩
    · go_wp2
      go_ret
      exact ⟨rfl, HB.out⟩

set_option maxHeartbeats 1000000 in
/-- RowPlays. -/
theorem plays_walk (r : Ln) (hr : r.ok) (A : Option Addr) (cap : Nat) (l : List Ac) (w : World) (hl : l.length ≤ maxLen) (hL : ActsAt w w.heap.size A l) :
    Calls Try.prog 4 #[.agg r.cells.toArray, .slice A l.length cap] w fun e w' => e = .returned (.bool true) ∧ Below w.heap.size w w' := by
  rcases Nat.lt_or_ge 100 l.length with h | h
  · clear hL hr
    obtain ⟨n, hn⟩ : ∃ m, m = l.length := ⟨_, rfl⟩
    rw [← hn] at hl h ⊢
    clear hn
    unfold maxLen at hl
    have h2 : (100 : Int) < (n : Int) := by omega
    have B0 := Lib.hid ((Below.refl w.heap.size w).alloc (Nat.le_refl _) (.cells r.cells.toArray 27))
    go_enter Try.func4, Try.ntmps4
    go_wp2_with (go_at_call 7; refine (awake_any _).mono ?_; rintro e w' ⟨rfl, hb⟩; have HB := Lib.hid (B0.out.trans (hb.mono (by simp))); clear hb)
    go_ret
    exact ⟨rfl, HB.out⟩
  · exact plays_in r hr A cap l w h hL
end Go.Proofs.Ytigdhgikdknlmaa
