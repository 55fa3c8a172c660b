/-
  The walk of the law RowLasts of reevelaw2: it answers true. Condition: the acts lie in memory.
-/
import Derived.Test.YtigdhgikdknlmaaRm
import Derived.Laws.AppendOwn
import Derived.Laws.OwnMore
import Derived.Deep.AppendLies
import Derived.Deep.CutBlock
namespace Go.Proofs.Ytigdhgikdknlmaa
open Go.RowKit

/-- the line, the law's own words, the rows that it has kept; all that was there -/
structure LS (W w : World) (R : Nat) (r : Ln) (zs : List Int) (v : Value) (bs : List (List Int)) : Prop where
  x : At w R 0 r
  y : Eight w (R + 1) zs
  own : w.ownsRow (R + 2) 25 8 v bs.length (flat bs)
  base : R + 2 ≤ w.heap.size
  wr : W.heap.size ≤ R
  old : Below W.heap.size W w

section
variable {W w w' : World} {R : Nat} {r t : Ln} {zs ys : List Int} {v : Value} {bs : List (List Int)}
theorem LS.alloc (h : LS W w R r zs v bs) (ob : Obj) : LS W (w.alloc ob) R r zs v bs :=
  ⟨h.x.keep (Below.heap_alloc _ _ _ h.x.lt), h.y.keep (Below.heap_alloc _ _ _ h.y.lt), h.own.alloc ob, by have := h.base; simp; omega, h.wr, h.old.alloc h.old.size _⟩
theorem grown_of {b o n : Nat} (hf : Fr w w' b o n) : w.grownBy w' (some b) := ⟨hf.os, hf.tape, hf.output, hf.size, fun k hk hne => hf.block k hk (fun e => hne (by rw [e]))⟩
theorem own_ne (h : LS W w R r zs v bs) {b : Nat} (hb : b < R + 2) : v.ownBlock = none ∨ v.ownBlock ≠ some b := by
  cases hv : v.ownBlock with
  | none => exact .inl rfl
  | some k =>
    refine .inr (fun e => ?_)
    injection e with e
    have := (h.own.lt k hv).1
    omega
theorem LS.turn (h : LS W w R r zs v bs) (ht : Turn w w' R 0 t) : LS W w' R t zs v bs :=
  ⟨ht.here, h.y.turn ht (by omega), h.own.kept (grown_of ht.fr) (own_ne h (by omega)), Nat.le_trans h.base ht.fr.size, h.wr, h.old.trans (ht.fr.below h.wr h.old.size)⟩
theorem LS.set_ (h : LS W w R r zs v bs) (i : Nat) (u : Int) (hi : i < 8) : LS W (w.setCell ⟨R + 1, i, none⟩ (.int .u64 u)) R r (zs.set i u) v bs := by
  obtain ⟨h1, h2⟩ := h.y.set_ i u hi
  exact ⟨h.x.fr h2 (by omega), h1, h.own.kept (grown_of h2) (own_ne h (by omega)), Nat.le_trans h.base h2.size, h.wr, h.old.trans (h2.below (by have := h.wr; omega) h.old.size)⟩
theorem LS.more (h : LS W w R r zs v bs) {v' : Value} (hg : w.grownBy w' v.ownBlock) (ho : w'.ownsRow (R + 2) 25 8 v' (bs.length + 1) (flat bs ++ wcells ys)) : LS W w' R r zs v' (bs ++ [ys]) := by
  have hb : ∀ b, b < R + 2 → some b ≠ v.ownBlock := fun b hb e => by
    have := (h.own.lt b e.symm).1
    omega
  refine ⟨h.x.keep (hg.block R h.x.lt (hb R (by omega))), h.y.keep (hg.block (R + 1) h.y.lt (hb (R + 1) (by omega))), ?_, Nat.le_trans h.base hg.size, h.wr, h.old.grown hg h.old.size (fun k hk => ?_)⟩
  · rw [flat_snoc, List.length_append, List.length_singleton]; exact ho
  · have h1 := (h.own.lt k hk).1
    have h2 := h.wr
    omega
theorem LS.drewN (h : LS W w R r zs v bs) (n : Nat) : LS W (w.drewN n) R r zs v bs := ⟨h.x.drewN n, h.y.drewN n, h.own, h.base, h.wr, below_draws h.old n⟩
end

theorem fence_N (r : Ln) : r.fence.N = r.N := by
  unfold Ln.fence settled
  split <;> rfl

/-- at the head of a round -/
def LastRel (W : World) (R n : Nat) (k : Nat) (p7 p8 p9 p10 : Value) (wr : World) : Prop :=
  ∃ (i : Nat) (r : Ln) (bs : List (List Int)) (su : Nat) (se : Int), k + i = n ∧ p10 = .int .i64 i ∧ p8 = .int .i64 su ∧ p9 = .int .i64 se ∧ LS W wr R r r.N p7 bs ∧ LB r bs su se ∧ bs.length ≤ i + 1

/-- at the head of a round of the law's search -/
def EndRel (W : World) (R : Nat) (r : Ln) (zs : List Int) (v : Value) (bs : List (List Int)) (x : List Int) (k : Nat) (p : Value) (wr : World) : Prop :=
  ∃ j : Nat, k + j = bs.length ∧ p = .int .i64 j ∧ x ∈ bs.drop j ∧ LS W wr R r zs v bs

theorem info25_all : (Try.prog.info? 25).map (fun i => (i.zero, i.size, i.bytes)) = some (some (.agg #[.int .u64 0, .int .u64 0, .int .u64 0, .int .u64 0, .int .u64 0, .int .u64 0, .int .u64 0, .int .u64 0]), 8, 64) := by kernel_rfl
theorem info25_parts : ∃ i : TypeInfo, Try.prog.info? 25 = some i ∧ i.zero = some (.agg #[.int .u64 0, .int .u64 0, .int .u64 0, .int .u64 0, .int .u64 0, .int .u64 0, .int .u64 0, .int .u64 0]) ∧ i.size = 8 ∧ i.bytes = 64 := by
  have h := info25_all
  cases hq : Try.prog.info? 25 with
  | none => simp [hq] at h
  | some i =>
    simp [hq] at h
    exact ⟨i, rfl, h.1, h.2.1, h.2.2⟩

set_option maxRecDepth 100000 in
set_option maxHeartbeats 4000000 in
theorem lasts_in (A : Option Addr) (cap : Nat) (l : List Ac) (keep : Bool) (w : World) (hl : l.length ≤ 60) (hL : ActsAt w w.heap.size A l) :
    Calls Try.prog 5 #[.slice A l.length cap, .bool keep] w fun e w' => e = .returned (.bool true) ∧ Below w.heap.size w w' := by
  have LL := Lib.hid hL
  obtain ⟨n, hn⟩ : ∃ m, m = l.length := ⟨_, rfl⟩
  rw [← hn] at hl ⊢
  have HN := Lib.hid hn
  clear hn hL
  have hl2 : decide ((60 : Int) < (n : Int)) = false := by simp; omega
  go_enter Try.func5, Try.ntmps5
  go_wp2_with fail
  refine (awake_any _).mono ?_
  rintro e w0 ⟨rfl, hb⟩
  have HR : Hid (w.heap.size ≤ w0.heap.size) := Lib.hid hb.size
  have HB := Lib.hid hb
  clear hb
  have hls : LS w (((w0.alloc (.cells blank.cells.toArray 27)).alloc (.cells (wcells zeros).toArray 25)).alloc (.cells (wcells zeros).toArray 25)) w0.heap.size blank zeros (.slice (some ⟨w0.heap.size + 2, 0, none⟩) 1 1) [zeros] := by
    have h1 := At.new w0 27 blank blank_ok
    have h2 := Eight.new (w0.alloc (.cells blank.cells.toArray 27)) 25 zeros rfl
    rw [World.size_alloc] at h2
    have h3 := World.ownsRow_lit (base := w0.heap.size + 2) (e := 25) (size := 8) ((w0.alloc (.cells blank.cells.toArray 27)).alloc (.cells (wcells zeros).toArray 25)) (wcells zeros).toArray 1 (by simp) (by decide) rfl
    exact ⟨(h1.keep (Below.heap_alloc _ _ _ (by simp))).keep (Below.heap_alloc _ _ _ (by simp; omega)), h2.keep (Below.heap_alloc _ _ _ (by simp)), by simpa [flat] using h3, by simp, HR.out,
      ((HB.out.alloc HB.out.size _).alloc (by have := HR.out; simp; omega) _).alloc (by have := HR.out; simp; omega) _⟩
  have HLS := Lib.hid hls
  clear hls
  simp only [blank, Ln.cells, wcells, zeros, List.map_cons, List.map_nil, List.cons_append, List.nil_append] at HLS
  go_wp2_with fail
  clear HB
  obtain ⟨R, hR⟩ : ∃ R, R = w0.heap.size := ⟨_, rfl⟩
  rw [← hR] at HLS ⊢
  clear hR HR
  go_loopg [7, 8, 9, 10] n (fun k p7 p8 p9 p10 wr => LastRel w R n k p7 p8 p9 p10 wr)
  case atStart => exact ⟨0, blank, [zeros], 0, -1, by omega, rfl, rfl, rfl, HLS.out, LB.first, by simp⟩
  case round =>
    obtain ⟨i, r, bs, su, se, hk, rfl, rfl, rfl, hls, hlb, hbl⟩ := hrel
    obtain ⟨g, cap2, rfl, hg1, hg2⟩ := hls.own.form hlb.pos
    have HS := Lib.hid hls
    have HL := Lib.hid hlb
    have HK := Lib.hid hk
    clear hls hlb hk HLS
    by_cases hlt : i < n
    · obtain ⟨m, hm⟩ : ∃ m, m = bs.length := ⟨_, rfl⟩
      rw [← hm] at hbl ⊢
      have HM := Lib.hid hm
      clear hm
      have hm60 : m ≤ 61 := by omega
      obtain ⟨b, o, rfl, hblk, hcs⟩ := LL.out (by rw [← HN.out]; omega)
      obtain ⟨a, ha⟩ : ∃ a, l[i]? = some a := ⟨l[i]'(by rw [← HN.out]; exact hlt), List.getElem?_eq_getElem _⟩
      obtain ⟨g1, g2, g3⟩ := hcs i a ha
      have c1 : wr.cell? ⟨b, o + i * 3, none⟩ = some (.int .i64 a.op) := by rw [← g1]; exact HS.out.old.cell hblk
      have c2 : wr.cell? ⟨b, o + i * 3 + 1, none⟩ = some (.int .i64 a.at_) := by rw [← g2]; exact HS.out.old.cell hblk
      have c3 : wr.cell? ⟨b, o + i * 3 + 2, none⟩ = some (.int .u64 a.v) := by rw [← g3]; exact HS.out.old.cell hblk
      have e0 := heap_alloc_new wr (.cells #[.int .i64 a.op, .int .i64 a.at_, .int .u64 a.v] 35)
      have q0 : (wr.alloc (.cells #[.int .i64 a.op, .int .i64 a.at_, .int .u64 a.v] 35)).cell? ⟨wr.heap.size, 0, none⟩ = some (.int .i64 a.op) := cell_of_row _ _ 0 _ _ _ e0
      have q1 : (wr.alloc (.cells #[.int .i64 a.op, .int .i64 a.at_, .int .u64 a.v] 35)).cell? ⟨wr.heap.size, 1, none⟩ = some (.int .i64 a.at_) := cell_of_row _ _ 1 _ _ _ e0
      have q2 : (wr.alloc (.cells #[.int .i64 a.op, .int .i64 a.at_, .int .u64 a.v] 35)).cell? ⟨wr.heap.size, 2, none⟩ = some (.int .u64 a.v) := cell_of_row _ _ 2 _ _ _ e0
      have Q0 := Lib.hid q0
      have Q1 := Lib.hid q1
      have Q2 := Lib.hid q2
      have HG : Hid (R + 2 ≤ wr.heap.size) := Lib.hid HS.out.base
      have HS1 := Lib.hid (HS.out.alloc (.cells #[.int .i64 a.op, .int .i64 a.at_, .int .u64 a.v] 35))
      clear q0 q1 q2 g1 g2 g3 hcs ha hblk e0
      have hlt2 : (i : Int) < (n : Int) := by omega
      have hop : ((a.op : Int) == 0) = true ∨ (((a.op : Int) == 0) = false ∧ ((a.op : Int) == 1) = true) ∨ (((a.op : Int) == 0) = false ∧ ((a.op : Int) == 1) = false) := by
        cases ((a.op : Int) == 0) <;> cases ((a.op : Int) == 1) <;> simp
      go_upto_region 14 with fail
      clear c1 c2 c3
      obtain ⟨G, hG⟩ : ∃ G, G = wr.heap.size := ⟨_, rfl⟩
      rw [← hG] at HG Q0 Q1 Q2 ⊢
      generalize hw1 : wr.alloc (.cells #[.int .i64 a.op, .int .i64 a.at_, .int .u64 a.v] 35) = w1 at HS1 Q0 Q1 Q2 ⊢
      clear hG hw1 HS
      have q0 := Q0.out
      have q1 := Q1.out
      have q2 := Q2.out
      rcases hop with o1 | ⟨o1, o2⟩ | ⟨o1, o2⟩
      · have hin : inl a.at_ = false ∨ inl a.at_ = true := by cases inl a.at_ <;> simp
        rcases hin with hin | hin
        · have HI := Lib.hid hin
          have hsame : r.store a.at_ a.v = r := by unfold Ln.store; rw [hin]; rfl
          have HSM := Lib.hid hsame
          clear hin hsame
          go_wp2_with (go_at_call 8; refine (store_any R 0 a.at_ a.v r _ HS1.out.x).mono ?_; rw [HI.out, HSM.out]; rintro e w' ⟨rfl, ht⟩; have HT := Lib.hid ht; clear ht)
          go_roundg (n - (i + 1))
          case measure => have := HK.out; omega
          case rel =>
            rw [HM.out]
            exact ⟨i + 1, r, bs, su, se, by omega, by go_num, rfl, rfl, HS1.out.turn HT.out, HL.out, by rw [← HM.out]; omega⟩
        · obtain ⟨x0, x1⟩ := inl_yes hin
          obtain ⟨k, hk⟩ := Int.eq_ofNat_of_zero_le x0
          have HI := Lib.hid hin
          have K8 : Hid (k < 8) := Lib.hid (by omega)
          have hst : r.store a.at_ a.v = { r with N := r.N.set k a.v, out := true, sent := false } := by
            unfold Ln.store; rw [if_pos hin, hk]; rfl
          have HST := Lib.hid hst
          have hk8 := and_seven k K8.out
          rw [hk] at q1 Q1 HI HST
          have y0 : (k : Int) < 8 := by have := K8.out; omega
          clear hin hst hk x0 x1
          go_wp2_with fail
          refine (store_any R 0 (k : Int) a.v r _ HS1.out.x).mono ?_
          rw [HI.out, HST.out]
          rintro e w2 ⟨rfl, ht⟩
          have hGne : G ≠ R := by have := HG.out; omega
          have hG := ht.fr.block G (World.block_lt_of_cell? w1 _ q1) hGne
          have p1 := (World.cell?_of_block (a := ⟨G, 1, none⟩) hG).trans q1
          have p2 := (World.cell?_of_block (a := ⟨G, 2, none⟩) hG).trans q2
          have hs2 := HS1.out.turn ht
          have m1 := hs2.y.cell K8.out
          have m2 := hs2.y.open_ K8.out
          have hs3 := hs2.set_ k a.v K8.out
          have HS3 := Lib.hid hs3
          clear ht hG hs2 hs3 hGne q0 q1 q2 Q0 Q1 Q2 HS1
          go_upto_region 21 with fail
          generalize w2.setCell ⟨R + 1, k, none⟩ (.int .u64 a.v) = w3 at HS3 ⊢
          clear m1 m2 p1 p2 hk8 HST
          obtain ⟨zs, hzs⟩ : ∃ zs, zs = r.N.set k a.v := ⟨_, rfl⟩
          rw [← hzs] at HS3
          clear hzs
          obtain ⟨z0, z1, z2, z3, z4, z5, z6, z7, rfl⟩ := eight HS3.out.y.len
          have n0 : w3.cell? ⟨R + 1, 0, none⟩ = some (.int .u64 z0) := HS3.out.y.cell (j := 0) (by omega)
          have n1 : w3.cell? ⟨R + 1, 1, none⟩ = some (.int .u64 z1) := HS3.out.y.cell (j := 1) (by omega)
          have n2 : w3.cell? ⟨R + 1, 2, none⟩ = some (.int .u64 z2) := HS3.out.y.cell (j := 2) (by omega)
          have n3 : w3.cell? ⟨R + 1, 3, none⟩ = some (.int .u64 z3) := HS3.out.y.cell (j := 3) (by omega)
          have n4 : w3.cell? ⟨R + 1, 4, none⟩ = some (.int .u64 z4) := HS3.out.y.cell (j := 4) (by omega)
          have n5 : w3.cell? ⟨R + 1, 5, none⟩ = some (.int .u64 z5) := HS3.out.y.cell (j := 5) (by omega)
          have n6 : w3.cell? ⟨R + 1, 6, none⟩ = some (.int .u64 z6) := HS3.out.y.cell (j := 6) (by omega)
          have n7 : w3.cell? ⟨R + 1, 7, none⟩ = some (.int .u64 z7) := HS3.out.y.cell (j := 7) (by omega)
          have how : (w3.alloc (.cells #[.int .u64 z0, .int .u64 z1, .int .u64 z2, .int .u64 z3, .int .u64 z4, .int .u64 z5, .int .u64 z6, .int .u64 z7] 25)).ownsRow (R + 2) 25 8 (.slice (some ⟨g, 0, none⟩) m cap2) m (flat bs) := by
            have := (HS3.out.alloc (.cells #[.int .u64 z0, .int .u64 z1, .int .u64 z2, .int .u64 z3, .int .u64 z4, .int .u64 z5, .int .u64 z6, .int .u64 z7] 25)).own
            rw [← HM.out] at this
            exact this
          have HOW := Lib.hid how
          have e1 := heap_alloc_new w3 (.cells #[.int .u64 z0, .int .u64 z1, .int .u64 z2, .int .u64 z3, .int .u64 z4, .int .u64 z5, .int .u64 z6, .int .u64 z7] 25)
          have hnew : ∀ j u, (wcells [z0, z1, z2, z3, z4, z5, z6, z7])[j]? = some u → (w3.alloc (.cells #[.int .u64 z0, .int .u64 z1, .int .u64 z2, .int .u64 z3, .int .u64 z4, .int .u64 z5, .int .u64 z6, .int .u64 z7] 25)).cell? ((⟨w3.heap.size, 0, none⟩ : Addr).add j) = some u := by
            intro j u hu
            rw [Addr.add_mid, Nat.zero_add, cell_of_row _ _ j _ _ _ e1, ← hu]
            unfold wcells
            simp
          have HNEW := Lib.hid hnew
          have HBS : Hid (R + 2 ≤ (w3.alloc (.cells #[.int .u64 z0, .int .u64 z1, .int .u64 z2, .int .u64 z3, .int .u64 z4, .int .u64 z5, .int .u64 z6, .int .u64 z7] 25)).heap.size) := Lib.hid (HS3.out.alloc _).base
          clear how e1 hnew
          obtain ⟨i0, hii, hz0, hz1, hz2⟩ := info25_parts
          go_wp2_with (at_builtin; refine wpList_append_own _ rfl _ _ 38 rfl (R + 2) 25 i0 _ 8 64 Try.underlying38 hii hz0 hz1 hz2 rfl (by decide) _ m (flat bs) rfl HOW.out ⟨w3.heap.size, 0, none⟩ 1 1 (wcells [z0, z1, z2, z3, z4, z5, z6, z7]) rfl ?c0 HNEW.out wcells_one ?c3 ?c4 HBS.out ?_)
          case c0 => rfl
          case c3 => unfold maxLen; omega
          case c4 => omega
          intro v' w4 hown hgrow _
          have HOW2 := Lib.hid hown
          have HGR := Lib.hid hgrow
          clear hown hgrow
          go_wp2
          go_roundg (n - (i + 1))
          case measure => have := HK.out; omega
          case rel =>
            have ho := HOW2.out
            rw [HM.out] at ho
            have hs4 := (HS3.out.alloc (.cells #[.int .u64 z0, .int .u64 z1, .int .u64 z2, .int .u64 z3, .int .u64 z4, .int .u64 z5, .int .u64 z6, .int .u64 z7] 25)).more (ys := [z0, z1, z2, z3, z4, z5, z6, z7]) (v' := v') HGR.out ho
            exact ⟨i + 1, _, bs ++ [[z0, z1, z2, z3, z4, z5, z6, z7]], su, -1, by omega, by go_num, rfl, rfl, hs4, HL.out.store [z0, z1, z2, z3, z4, z5, z6, z7] rfl, by rw [List.length_append, ← HM.out]; simp; omega⟩
      · go_wp2_with (go_at_call 10; refine (flush_any R 0 r _ HS1.out.x).mono ?_; rintro e w' ⟨rfl, ht⟩; have HT := Lib.hid ht; clear ht)
        go_roundg (n - (i + 1))
        case measure => have := HK.out; omega
        case rel =>
          rw [HM.out]
          exact ⟨i + 1, r.flush, bs, su, (bs.length : Int) - 1, by omega, by go_num, rfl, rfl, HS1.out.turn HT.out, HL.out.flushed, by rw [← HM.out]; omega⟩
      · rcases HL.out.was with hse | ⟨hse, _⟩
        · subst hse
          go_wp2_with (go_at_call 9; refine (fence_any R 0 r _ HS1.out.x).mono ?_; rintro e w' ⟨rfl, ht⟩; have HT := Lib.hid ht; clear ht)
          go_roundg (n - (i + 1))
          case measure => have := HK.out; omega
          case rel =>
            rw [HM.out]
            exact ⟨i + 1, r.fence, bs, su, -1, by omega, by go_num, rfl, rfl, by rw [fence_N]; exact HS1.out.turn HT.out, HL.out.fenced_no, by rw [← HM.out]; omega⟩
        · have hse0 : 0 ≤ se := by have := HL.out.pos; omega
          have hsd : decide ((0 : Int) ≤ se) = true := by simp; omega
          have HSE := Lib.hid hse
          clear hse
          go_wp2_with (go_at_call 9; refine (fence_any R 0 r _ HS1.out.x).mono ?_; rintro e w' ⟨rfl, ht⟩; have HT := Lib.hid ht; clear ht)
          go_roundg (n - (i + 1))
          case measure => have := HK.out; omega
          case rel =>
            rw [HM.out]
            have hf := HL.out
            have hpos := hf.pos
            rw [HSE.out] at hf
            refine ⟨i + 1, r.fence, bs, bs.length - 1, (bs.length : Int) - 1, by omega, by go_num, ?_, ?_, by rw [fence_N]; exact HS1.out.turn HT.out, hf.fenced_yes, by rw [← HM.out]; omega⟩
            · rw [HSE.out]; congr 1; omega
            · rw [HSE.out]
    · obtain ⟨m, hm⟩ : ∃ m, m = bs.length := ⟨_, rfl⟩
      rw [← hm] at hbl ⊢
      have HM := Lib.hid hm
      clear hm
      have hm60 : m ≤ 61 := by have := HK.out; omega
      go_wp2_with fail
      refine (fall_any R 0 keep r _ HS.out.x).mono ?_
      rintro e w5 ⟨rfl, ht⟩
      obtain ⟨f1, f2, f3⟩ := HL.out.fallen keep
      have hs5 := HS.out.turn ht
      obtain ⟨u, hu⟩ : ∃ u, r.fall keep = u := ⟨_, rfl⟩
      rw [hu] at hs5 f1 f2 f3
      obtain ⟨uL, uN, uo, us⟩ := u
      have f1 : uN = uL := f1
      subst f1
      obtain ⟨x0, x1, x2, x3, x4, x5, x6, x7, rfl⟩ := eight hs5.x.ok.1
      have HS5 := Lib.hid hs5
      have F2 : Hid (keep = true → [x0, x1, x2, x3, x4, x5, x6, x7] = r.N) := f2
      have F3 : Hid ([x0, x1, x2, x3, x4, x5, x6, x7] ∈ bs.drop su) := f3
      clear hu hs5 f2 f3 ht
      go_wp2_with fail
      go_loopg [12] (m - su) (fun k p wr => EndRel w R ⟨[x0, x1, x2, x3, x4, x5, x6, x7], [x0, x1, x2, x3, x4, x5, x6, x7], uo, us⟩ r.N (.slice (some ⟨g, 0, none⟩) bs.length cap2) bs [x0, x1, x2, x3, x4, x5, x6, x7] k p wr)
      case atStart => exact ⟨su, by have := HL.out.sure; have := HM.out; omega, rfl, F3.out, HS5.out⟩
      case round =>
        obtain ⟨j, hkj, rfl, hmem, hs6⟩ := hrel
        have HS6 := Lib.hid hs6
        have HMEM := Lib.hid hmem
        have HKJ := Lib.hid hkj
        clear hs6 hmem hkj HS5
        by_cases hjm : j < m
        · obtain ⟨y, hy⟩ : ∃ y, bs[j]? = some y := ⟨bs[j]'(by rw [← HM.out]; exact hjm), List.getElem?_eq_getElem _⟩
          have hey := HL.out.each y (List.mem_of_getElem? hy)
          obtain ⟨y0, y1, y2, y3, y4, y5, y6, y7, rfl⟩ := eight hey
          have hcell : ∀ q, q < 8 → wr.cell? ⟨g, j * 8 + q, none⟩ = some (.int .u64 ([y0, y1, y2, y3, y4, y5, y6, y7].getD q 0)) := fun q hq => by
            rw [HS6.out.own.cellAt (j * 8 + q) (by have := HM.out; omega)]
            exact flat_get bs HL.out.each j q _ hy hq
          have l0 : wr.cell? ⟨R, 0, none⟩ = some (.int .u64 x0) := HS6.out.x.cell0 0 rfl
          have l1 : wr.cell? ⟨R, 1, none⟩ = some (.int .u64 x1) := HS6.out.x.cell0 1 rfl
          have l2 : wr.cell? ⟨R, 2, none⟩ = some (.int .u64 x2) := HS6.out.x.cell0 2 rfl
          have l3 : wr.cell? ⟨R, 3, none⟩ = some (.int .u64 x3) := HS6.out.x.cell0 3 rfl
          have l4 : wr.cell? ⟨R, 4, none⟩ = some (.int .u64 x4) := HS6.out.x.cell0 4 rfl
          have l5 : wr.cell? ⟨R, 5, none⟩ = some (.int .u64 x5) := HS6.out.x.cell0 5 rfl
          have l6 : wr.cell? ⟨R, 6, none⟩ = some (.int .u64 x6) := HS6.out.x.cell0 6 rfl
          have l7 : wr.cell? ⟨R, 7, none⟩ = some (.int .u64 x7) := HS6.out.x.cell0 7 rfl
          have n0 : wr.cell? ⟨R, 8, none⟩ = some (.int .u64 x0) := HS6.out.x.cell0 8 rfl
          have n1 : wr.cell? ⟨R, 9, none⟩ = some (.int .u64 x1) := HS6.out.x.cell0 9 rfl
          have n2 : wr.cell? ⟨R, 10, none⟩ = some (.int .u64 x2) := HS6.out.x.cell0 10 rfl
          have n3 : wr.cell? ⟨R, 11, none⟩ = some (.int .u64 x3) := HS6.out.x.cell0 11 rfl
          have n4 : wr.cell? ⟨R, 12, none⟩ = some (.int .u64 x4) := HS6.out.x.cell0 12 rfl
          have n5 : wr.cell? ⟨R, 13, none⟩ = some (.int .u64 x5) := HS6.out.x.cell0 13 rfl
          have n6 : wr.cell? ⟨R, 14, none⟩ = some (.int .u64 x6) := HS6.out.x.cell0 14 rfl
          have n7 : wr.cell? ⟨R, 15, none⟩ = some (.int .u64 x7) := HS6.out.x.cell0 15 rfl
          have b0 : wr.cell? ⟨g, j * 8, none⟩ = some (.int .u64 y0) := hcell 0 (by omega)
          have b1 : wr.cell? ⟨g, j * 8 + 1, none⟩ = some (.int .u64 y1) := hcell 1 (by omega)
          have b2 : wr.cell? ⟨g, j * 8 + 2, none⟩ = some (.int .u64 y2) := hcell 2 (by omega)
          have b3 : wr.cell? ⟨g, j * 8 + 3, none⟩ = some (.int .u64 y3) := hcell 3 (by omega)
          have b4 : wr.cell? ⟨g, j * 8 + 4, none⟩ = some (.int .u64 y4) := hcell 4 (by omega)
          have b5 : wr.cell? ⟨g, j * 8 + 5, none⟩ = some (.int .u64 y5) := hcell 5 (by omega)
          have b6 : wr.cell? ⟨g, j * 8 + 6, none⟩ = some (.int .u64 y6) := hcell 6 (by omega)
          have b7 : wr.cell? ⟨g, j * 8 + 7, none⟩ = some (.int .u64 y7) := hcell 7 (by omega)
          have HYB := Lib.hid hy
          have hjm2 : (j : Int) < (m : Int) := by omega
          have e0 := eql25 [x0, x1, x2, x3, x4, x5, x6, x7] [y0, y1, y2, y3, y4, y5, y6, y7] rfl rfl
          have e2 := eql25 [x0, x1, x2, x3, x4, x5, x6, x7] [x0, x1, x2, x3, x4, x5, x6, x7] rfl rfl
          simp only [beq_self_eq_true] at e2
          by_cases hxy : [x0, x1, x2, x3, x4, x5, x6, x7] = [y0, y1, y2, y3, y4, y5, y6, y7]
          · rw [show ([x0, x1, x2, x3, x4, x5, x6, x7] == [y0, y1, y2, y3, y4, y5, y6, y7]) = true from by rw [hxy]; exact beq_self_eq_true _] at e0
            simp only [wcells, List.map_cons, List.map_nil] at e0 e2
            clear hcell hey hy hxy
            go_wp2_with fail
            go_quiet (fail)
            go_wp2_with fail
            cases keep
            · go_quiet (fail)
              go_wp2
              go_ret
              exact ⟨rfl, below_draws (below_draws HS6.out.old _) _⟩
            · have HY : Hid (Eight wr (R + 1) [x0, x1, x2, x3, x4, x5, x6, x7]) := Lib.hid (by rw [F2.out rfl]; exact HS6.out.y)
              have m0 : wr.cell? ⟨R + 1, 0, none⟩ = some (.int .u64 x0) := HY.out.cell (j := 0) (by omega)
              have m1 : wr.cell? ⟨R + 1, 1, none⟩ = some (.int .u64 x1) := HY.out.cell (j := 1) (by omega)
              have m2 : wr.cell? ⟨R + 1, 2, none⟩ = some (.int .u64 x2) := HY.out.cell (j := 2) (by omega)
              have m3 : wr.cell? ⟨R + 1, 3, none⟩ = some (.int .u64 x3) := HY.out.cell (j := 3) (by omega)
              have m4 : wr.cell? ⟨R + 1, 4, none⟩ = some (.int .u64 x4) := HY.out.cell (j := 4) (by omega)
              have m5 : wr.cell? ⟨R + 1, 5, none⟩ = some (.int .u64 x5) := HY.out.cell (j := 5) (by omega)
              have m6 : wr.cell? ⟨R + 1, 6, none⟩ = some (.int .u64 x6) := HY.out.cell (j := 6) (by omega)
              have m7 : wr.cell? ⟨R + 1, 7, none⟩ = some (.int .u64 x7) := HY.out.cell (j := 7) (by omega)
              go_quiet (fail)
              go_wp2
              go_ret
              exact ⟨rfl, below_draws HS6.out.old _⟩
          · rw [show ([x0, x1, x2, x3, x4, x5, x6, x7] == [y0, y1, y2, y3, y4, y5, y6, y7]) = false from beq_eq_false_iff_ne.2 hxy] at e0
            simp only [wcells, List.map_cons, List.map_nil] at e0 e2
            have hmem2 : [x0, x1, x2, x3, x4, x5, x6, x7] ∈ bs.drop (j + 1) := by
              have h1 := HMEM.out
              have hjl : j < bs.length := by rw [← HM.out]; exact hjm
              rw [List.drop_eq_getElem_cons hjl] at h1
              rw [List.getElem?_eq_getElem hjl] at hy
              injection hy with hy
              rw [hy] at h1
              rcases List.mem_cons.1 h1 with h2 | h2
              · exact absurd h2 hxy
              · exact h2
            have HM2 := Lib.hid hmem2
            clear hcell hey hy hxy hmem2
            go_wp2_with fail
            go_quiet (fail)
            go_wp2
            go_roundg (m - (j + 1))
            case measure => have := HKJ.out; have := HM.out; omega
            case rel => exact ⟨j + 1, by have := HM.out; omega, by go_num, HM2.out, HS6.out.drewN _⟩
        · have h1 := HMEM.out
          rw [List.drop_eq_nil_of_le (by have := HM.out; omega)] at h1
          cases h1

set_option maxHeartbeats 1000000 in
/-- RowLasts. -/
theorem lasts_walk (A : Option Addr) (cap : Nat) (l : List Ac) (keep : Bool) (w : World) (hl : l.length ≤ maxLen) (hL : ActsAt w w.heap.size A l) :
    Calls Try.prog 5 #[.slice A l.length cap, .bool keep] w fun e w' => e = .returned (.bool true) ∧ Below w.heap.size w w' := by
  rcases Nat.lt_or_ge 60 l.length with h | h
  · clear hL
    obtain ⟨n, hn⟩ : ∃ m, m = l.length := ⟨_, rfl⟩
    rw [← hn] at hl h ⊢
    clear hn
    unfold maxLen at hl
    have h2 : (60 : Int) < (n : Int) := by omega
    go_enter Try.func5, Try.ntmps5
    go_wp2_with (go_at_call 7; refine (awake_any _).mono ?_; rintro e w' ⟨rfl, hb⟩; have HB := Lib.hid hb; clear hb)
    go_ret
    exact ⟨rfl, HB.out⟩
  · exact lasts_in A cap l keep w h hL
end Go.Proofs.Ytigdhgikdknlmaa
