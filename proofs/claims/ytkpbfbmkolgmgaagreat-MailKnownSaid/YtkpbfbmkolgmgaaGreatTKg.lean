/-
  The program's ownersOf and allOwned: which Node has each slot. Condition: the state lies in memory, its things may be, at most a thousand slots and things.
  The program's partsFit, cameRightly, rootsThere, waysThere, allHeld. Condition: the state lies in memory, at most a thousand slots and things, and what the code asks ahead of each holds.
-/
import Derived.Test.YtkpbfbmkolgmgaaGreatTKc
import Derived.Test.YtkpbfbmkolgmgaaGreatTA2
namespace Go.Proofs.YtkpbfbmkolgmgaaGreat
open Go.RowKit

/-! ### who has a slot, thing by thing -/
def ownTo (th : List Tng) (i k : Nat) : Int := optI (ownerN (th.take i) k)
theorem ownTo_all (th : List Tng) (k : Nat) : ownTo th th.length k = optI (ownerN th k) := by rw [ownTo, List.take_length]
theorem optI_none {r : Option Nat} : optI r = -1 ↔ r = none := by
  rcases r with _ | o
  · exact ⟨fun _ => rfl, fun _ => rfl⟩
  · constructor
    · intro h
      have : (o : Int) = -1 := h
      omega
    · intro h; cases h
theorem ownTo_none {th : List Tng} {i k : Nat} (hi : i ≤ th.length) : ownTo th i k = -1 ↔ ∀ j, j < i → (thAt th j).hasS k = false := by
  rw [ownTo, optI_none, ownerN_none]
  have hl : (th.take i).length = i := by rw [List.length_take]; omega
  rw [hl]
  constructor
  · intro h j hj
    have := h j hj
    rwa [thAt_at (x := thAt th j) (by rw [List.getElem?_take_of_lt hj]; exact thAt_get (by omega))] at this
  · intro h j hj
    rw [thAt_at (x := thAt th j) (by rw [List.getElem?_take_of_lt hj]; exact thAt_get (by omega))]
    exact h j hj
theorem lohi {t : Tng} {lo hi : Nat} (h1 : t.lo = lo) (h2 : t.hi = hi) (k : Nat) : t.hasS k = true ↔ lo ≤ k ∧ k < hi := by
  rw [Tng.hasS_iff]
  rw [Tng.lo] at h1
  rw [Tng.hi] at h2
  by_cases e : t.ty = 2
  · rw [if_pos e] at h1 h2
    omega
  · rw [if_neg e] at h1 h2
    constructor
    · exact fun h => absurd h.1 e
    · intro h; omega
theorem ownTo_succ {th : List Tng} {i lo hi : Nat} (hi' : i < th.length) (h1 : (thAt th i).lo = lo) (h2 : (thAt th i).hi = hi) (hn : ∀ k, lo ≤ k → k < hi → ownTo th i k = -1) (k : Nat) : ownTo th (i + 1) k = if lo ≤ k ∧ k < hi then (i : Int) else ownTo th i k := by
  have hl : (th.take i).length = i := by rw [List.length_take]; omega
  have e : ownerN (th.take (i + 1)) k = (ownerN (th.take i) k).or (if (thAt th i).hasS k = true then some i else none) := by
    rw [ownerN, List.take_add_one, thAt_get hi', List.findIdx?_append, ← ownerN]
    congr 1
    simp [List.findIdx?_cons, hl]
  have hh := lohi h1 h2 k
  rw [ownTo, e]
  by_cases hk : lo ≤ k ∧ k < hi
  · rw [if_pos hk, if_pos (hh.2 hk), optI_none.1 (hn k hk.1 hk.2)]
    rfl
  · rw [if_neg hk, if_neg (fun q => hk (hh.1 q)), Option.or_none, ownTo]
theorem meets_no {t u : Tng} (h : ∀ k : Nat, t.hasS k = true → u.hasS k = false) (ht : 0 ≤ t.base) (hu : 0 ≤ u.base) : t.meets u = false := by
  rw [Bool.eq_false_iff]
  intro e
  simp only [Tng.meets, Bool.and_eq_true, decide_eq_true_eq, beq_iff_eq] at e
  obtain ⟨e1, e2, e3, e4⟩ := e
  have hp := tw2_pos t.bits
  have hq := tw2_pos u.bits
  rcases Int.le_total t.base u.base with q | q
  · have := h u.base.toNat (Tng.hasS_iff.2 ⟨e1, by omega, by omega⟩)
    rw [Tng.hasS_iff.2 ⟨e2, by omega, by omega⟩] at this
    cases this
  · have := h t.base.toNat (Tng.hasS_iff.2 ⟨e1, by omega, by omega⟩)
    rw [Tng.hasS_iff.2 ⟨e2, by omega, by omega⟩] at this
    cases this
theorem meets_yes {t u : Tng} {k : Nat} (h1 : t.hasS k = true) (h2 : u.hasS k = true) : t.meets u = true := by
  have q1 := Tng.hasS_iff.1 h1
  have q2 := Tng.hasS_iff.1 h2
  rw [Tng.meets, q1.1, q2.1, decide_eq_true (by omega), decide_eq_true (by omega)]
  rfl
def ownsOk (th : List Tng) (n : Nat) : Bool := (List.range th.length).all (ownOk th n)
theorem ownsOk_iff {th : List Tng} {n : Nat} : ownsOk th n = true ↔ ∀ i, i < th.length → ownOk th n i = true := by simp [ownsOk]
theorem owns_no {th : List Tng} {n i : Nat} (hi : i < th.length) (h : ownOk th n i = false) : ownsOk th n = false := Bool.eq_false_iff.2 fun e => by rw [ownsOk_iff.1 e i hi] at h; cases h
theorem ok_far {th : List Tng} {n i hi : Nat} (h2 : (thAt th i).hi = hi) (hn : n < hi) : ownOk th n i = false := by
  rw [Tng.hi] at h2
  by_cases e : (thAt th i).ty = 2
  · rw [if_pos e] at h2
    rw [ownOk, e, h2, decide_eq_true (by omega)]
    rfl
  · rw [if_neg e] at h2; omega
theorem ok_taken {th : List Tng} {n i lo hi k : Nat} (hi' : i < th.length) (h1 : (thAt th i).lo = lo) (h2 : (thAt th i).hi = hi) (hk : lo ≤ k ∧ k < hi) (ht : ownTo th i k ≠ -1) : ownOk th n i = false := by
  rw [Bool.eq_false_iff]
  intro e
  rw [ownOk, Bool.and_eq_true, List.all_eq_true] at e
  refine ht ((ownTo_none (by omega)).2 fun j hj => ?_)
  rcases hq : (thAt th j).hasS k with _ | _
  · rfl
  · have h3 := e.2 j (List.mem_range.2 hj)
    rw [meets_yes ((lohi h1 h2 k).2 hk) hq] at h3
    cases h3
theorem ok_fits {th : List Tng} {n i lo hi : Nat} (hi' : i < th.length) (hg : ∀ j, j < th.length → 0 ≤ (thAt th j).base) (h1 : (thAt th i).lo = lo) (h2 : (thAt th i).hi = hi) (hn : hi ≤ n) (ha : ∀ k, lo ≤ k → k < hi → ownTo th i k = -1) : ownOk th n i = true := by
  rw [ownOk, Bool.and_eq_true, List.all_eq_true]
  constructor
  · rw [Bool.not_eq_true', Bool.and_eq_false_iff, decide_eq_false_iff_not]
    rw [Tng.hi] at h2
    by_cases e : (thAt th i).ty = 2
    · rw [if_pos e] at h2; exact .inr (by omega)
    · exact .inl (beq_eq_false_iff_ne.2 e)
  · intro j hj
    rw [List.mem_range] at hj
    rw [Bool.not_eq_true']
    refine meets_no (fun k hk => ?_) (hg i hi') (hg j (by omega))
    have hk2 := (lohi h1 h2 k).1 hk
    exact (ownTo_none (by omega)).1 (ha k hk2.1 hk2.2) j hj
theorem NoMeet.of {th : List Tng} {n : Nat} (h : ∀ i, i < th.length → ownOk th n i = true) : NoMeet th := fun i k hi hk => by
  have := h i hi
  rw [ownOk, Bool.and_eq_true, List.all_eq_true] at this
  have := this.2 k (List.mem_range.2 hk)
  simpa using this

/-! ### a state's box, whole numbers of the call's own -/
structure Ibx (W w : World) (g : Nat) (a b c : Int) (A : Option Addr) (n ca : Nat) (C : Option Addr) (m cc : Nat) (G N : Nat) (u : Nat → Int) : Prop where
  box : Sbx W w g a b c A n ca C m cc
  cell : ∀ j, j < N → w.cell? ⟨G, j, none⟩ = some (.int .i64 (u j))
  free : ∀ j, w.frozen? ⟨G, j, none⟩ = false
  ne : g < G
  lt : G < w.heap.size
section
variable {W w w' : World} {g : Nat} {a b c : Int} {A : Option Addr} {n ca : Nat} {C : Option Addr} {m cc G N : Nat} {u v : Nat → Int}
theorem Ibx.on (h : Ibx W w g a b c A n ca C m cc G N u) (hb : Below w.heap.size w w') : Ibx W w' g a b c A n ca C m cc G N u :=
  ⟨h.box.on hb, fun j hj => by rw [hb.cell (p := ⟨G, _, none⟩) h.lt]; exact h.cell j hj,
    fun j => by rw [World.frozen?_of_block (w := w) (a := ⟨G, j, none⟩) (hb.block G h.lt)]; exact h.free j, h.ne, Nat.lt_of_lt_of_le h.lt hb.size⟩
theorem Ibx.same (h : Ibx W w g a b c A n ca C m cc G N u) (e : ∀ j, j < N → u j = v j) : Ibx W w g a b c A n ca C m cc G N v :=
  ⟨h.box, fun j hj => by rw [h.cell j hj, e j hj], h.free, h.ne, h.lt⟩
theorem Ibx.set (h : Ibx W w g a b c A n ca C m cc G N u) {i : Nat} (x : Int) (e : ∀ j, j < N → v j = if j = i then x else u j) : Ibx W (w.setCell ⟨G, i, none⟩ (.int .i64 x)) g a b c A n ca C m cc G N v := by
  have hB : Below W.heap.size W (w.setCell ⟨G, i, none⟩ (.int .i64 x)) := h.box.old.setCell (p := ⟨G, i, none⟩) (by have := h.box.base; have := h.ne; show W.heap.size ≤ G; omega) _
  have hn : ∀ j, (w.setCell ⟨G, i, none⟩ (.int .i64 x)).cell? ⟨g, j, none⟩ = w.cell? ⟨g, j, none⟩ := fun j => World.cell?_setCell_other _ _ _ _ (fun k => by injection k with k; have := h.ne; omega)
  refine ⟨⟨(hn _).trans h.box.c0, (hn _).trans h.box.c1, (hn _).trans h.box.c2, (hn _).trans h.box.c3, (hn _).trans h.box.c4, hB, h.box.base, by simpa [World.setCell] using h.box.lt⟩, fun j hj => ?_, fun j => by rw [World.frozen?_setCell]; exact h.free j, h.ne, by simpa [World.setCell] using h.lt⟩
  rw [e j hj]
  by_cases e : j = i
  · subst e
    rw [World.cell?_setCell_same _ _ _ (h.cell j hj), if_pos rfl]
  · rw [World.cell?_setCell_other _ _ _ _ (fun q => e (by injection q with _ q; exact q.symm)), h.cell j hj, if_neg e]
end
def OwnsF (w w' : World) (e : Ending) (n : Nat) (u : Nat → Int) : Bool → Prop
  | true => ∃ B, e = .returned (.tuple #[.slice (some ⟨B, 0, none⟩) n n, .bool true]) ∧ (∀ j, j < n → w'.cell? ⟨B, j, none⟩ = some (.int .i64 (u j))) ∧ B < w'.heap.size ∧ Below w.heap.size w w'
  | false => e = .returned (.tuple #[.slice none 0 0, .bool false]) ∧ Below w.heap.size w w'
def OoRel (W : World) (g : Nat) (a b c : Int) (A : Option Addr) (n ca : Nat) (C : Option Addr) (m cc G : Nat) (th : List Tng) (f : Nat) (p : Value) (wr : World) : Prop :=
  ∃ i : Nat, f + i = m ∧ p = .int .i64 i ∧ (∀ j, j < i → ownOk th n j = true) ∧ Ibx W wr g a b c A n ca C m cc G n (ownTo th i)
def OiRel (W : World) (g : Nat) (a b c : Int) (A : Option Addr) (n ca : Nat) (C : Option Addr) (m cc G : Nat) (th : List Tng) (i lo hi : Nat) (f : Nat) (p : Value) (wr : World) : Prop :=
  ∃ j : Nat, f + j = hi ∧ p = .int .i64 j ∧ lo ≤ j ∧ (∀ k, lo ≤ k → k < j → ownTo th i k = -1) ∧ Ibx W wr g a b c A n ca C m cc G n (fun k => if lo ≤ k ∧ k < j then (i : Int) else ownTo th i k)
set_option maxRecDepth 100000 in
set_option maxHeartbeats 4000000 in
theorem ownersof_is {s : St} {a b c : Int} {A C : Option Addr} {n ca m cc : Nat} {r : Bool} {w : World} (hS : StH w s a b c A n ca C m cc) (hg : ThOk s.th) (hr : ownsOk s.th n = r) :
    Calls Tryz.prog 88 #[.agg #[.int .i64 a, .int .i64 b, .int .i64 c, .slice A n ca, .slice C m cc]] w fun e w' => OwnsF w w' e n (fun k => optI (ownerN s.th k)) r := by
  have HS := Lib.hid hS
  have HG := Lib.hid hg
  have HR := Lib.hid hr
  have few := hS.few
  have k1 : Sbx w ((w.alloc (.cells #[.int .i64 a, .int .i64 b, .int .i64 c, .slice A n ca, .slice C m cc] 27)).alloc (.cells #[.int .i64 (-1)] 3)) w.heap.size a b c A n ca C m cc := (Sbx.new w a b c A n ca C m cc 27).on (below_alloc _ _)
  have hx0 : ((w.alloc (.cells #[.int .i64 a, .int .i64 b, .int .i64 c, .slice A n ca, .slice C m cc] 27)).alloc (.cells #[.int .i64 (-1)] 3)).cell? ⟨w.heap.size + 1, 0, none⟩ = some (.int .i64 (-1)) := by
    rw [show w.heap.size + 1 = (w.alloc (.cells #[.int .i64 a, .int .i64 b, .int .i64 c, .slice A n ca, .slice C m cc] 27)).heap.size by simp, cell_of_row _ _ 0 _ _ _ (heap_alloc_new _ _)]; rfl
  have hxl : w.heap.size + 1 < ((w.alloc (.cells #[.int .i64 a, .int .i64 b, .int .i64 c, .slice A n ca, .slice C m cc] 27)).alloc (.cells #[.int .i64 (-1)] 3)).heap.size := by simp
  clear hS hr hg
  go_enter Tryz.func88, Tryz.ntmps88
  go_wp2_with fail
  obtain ⟨g, hg⟩ : ∃ g, g = w.heap.size := ⟨_, rfl⟩
  rw [← hg] at k1 hx0 hxl ⊢
  clear hg
  generalize (w.alloc _).alloc _ = w1 at k1 hx0 hxl ⊢
  refine (repi_at (v := -1) few hx0 hxl).mono ?_
  rintro e w2 ⟨G, rfl, hrep, hgG, hGl, hb⟩
  have hI : Ibx w w2 g a b c A n ca C m cc G n (ownTo s.th 0) := ⟨k1.on hb, fun j hj => by
    have h := hrep.cell (i := j) (j := 0) hj (by simp)
    simp only [List.length_cons, List.length_nil, Nat.zero_add, Nat.mul_one, Nat.add_zero] at h
    rw [h]; rfl, fun j => by obtain ⟨_, rest, _, h2⟩ := hrep; exact frozen_of_row _ _ j _ _ h2, by have := k1.lt; omega, hGl⟩
  have HI := Lib.hid hI
  clear hrep hgG hGl hb k1 hx0 hxl hI
  obtain ⟨⟨-, -, -, c3, c4, -, -, lt⟩, -, -, -, -⟩ := HI.out
  go_wp2_with fail
  clear c3 c4 lt
  go_loopg [18] m (fun f p wr => OoRel w g a b c A n ca C m cc G s.th f p wr)
  case atStart => exact ⟨0, by omega, rfl, fun j h => by omega, HI.out⟩
  case round =>
    clear HI
    obtain ⟨i, hk, rfl, ha, hb⟩ := hrel
    have HI := Lib.hid hk
    have HA := Lib.hid ha
    have HB := Lib.hid hb
    have old := hb.box.old
    clear hk ha hb
    by_cases hlt : i < m
    · have HLT := Lib.hid hlt
      have hlt2 : (i : Int) < (m : Int) := by omega
      obtain ⟨tb, tp, rfl, htb, hc⟩ := HS.out.lies.th (by rw [← HS.out.hm]; omega)
      have hT : ThC wr tb (tp + i * 13) (thAt s.th i) := (hc i (by rw [← HS.out.hm]; exact hlt)).same fun k => old.cell (p := ⟨tb, k, none⟩) htb
      have hgood := HG.out i (by rw [← HS.out.hm]; exact hlt)
      have hsm := HG.out.small (i := i) (by rw [← HS.out.hm]; exact hlt)
      obtain ⟨lo, hlo⟩ : ∃ lo : Nat, (thAt s.th i).lo = lo := by
        refine ⟨(thAt s.th i).lo.toNat, ?_⟩
        have := hsm.base
        rw [Tng.lo]; split <;> omega
      obtain ⟨hi, hhi⟩ : ∃ hi : Nat, (thAt s.th i).hi = hi := by
        refine ⟨(thAt s.th i).hi.toNat, ?_⟩
        have := hsm.base
        have := tw2_pos (thAt s.th i).bits
        rw [Tng.hi]; split <;> omega
      have hle : lo ≤ hi := by
        have := tw2_pos (thAt s.th i).bits
        rw [Tng.lo] at hlo
        rw [Tng.hi] at hhi
        split at hlo <;> rename_i q
        · rw [if_pos q] at hhi; omega
        · rw [if_neg q] at hhi; omega
      have HLO := Lib.hid hlo
      have HHI := Lib.hid hhi
      have HLE := Lib.hid hle
      have HIM : Hid (i < s.th.length) := Lib.hid (by rw [← HS.out.hm]; exact hlt)
      generalize thAt s.th i = t at hT hgood hlo hhi
      obtain ⟨ty, bits, base, size, used, frm, badge, full, word, d0, d1, d2, d3⟩ := t
      obtain ⟨t0, t1, t2, t3, t4, t5, t6, t7, t8, t9, t10, t11, t12⟩ := hT
      simp only at t0 t1 t2 t3 t4 t5 t6 t7 t8 t9 t10 t11 t12
      have HSP : Hid (∀ w, Calls Tryz.prog 151 #[.agg #[.int .i64 ty, .int .i64 bits, .int .i64 base, .int .i64 size, .int .i64 used, .int .i64 frm, .int .i64 badge, .bool full, .int .u64 (word : Int), .int .u64 (d0 : Int), .int .u64 (d1 : Int), .int .u64 (d2 : Int), .int .u64 (d3 : Int)]] w fun e w' => e = .returned (.tuple #[.int .i64 (lo : Int), .int .i64 (hi : Int)]) ∧ Below w.heap.size w w') := Lib.hid fun w => span_at hgood hlo hhi w
      have HB2 := Lib.hid (HB.out.on (below_alloc wr (.cells #[.int .i64 ty, .int .i64 bits, .int .i64 base, .int .i64 size, .int .i64 used, .int .i64 frm, .int .i64 badge, .bool full, .int .u64 (word : Int), .int .u64 (d0 : Int), .int .u64 (d1 : Int), .int .u64 (d2 : Int), .int .u64 (d3 : Int)] 67)))
      clear hc htb hgood hsm hlo hhi hle old HB
      go_wp2_with fail
      generalize wr.alloc _ = w3 at HB2 ⊢
      refine (HSP.out w3).mono ?_
      rintro e w4 ⟨rfl, hb⟩
      have HB4 := Lib.hid (HB2.out.on hb)
      clear hb HB2 HSP t0 t1 t2 t3 t4 t5 t6 t7 t8 t9 t10 t11 t12
      by_cases hfar : n < hi
      · have HF : Hid (r = false) := Lib.hid (by rw [← HR.out]; exact owns_no HIM.out (ok_far HHI.out hfar))
        have h1 : (n : Int) < (hi : Int) := by omega
        go_wp2
        go_ret2
        rw [HF.out]
        exact ⟨rfl, HB4.out.box.old⟩
      · have h1 : ¬ (n : Int) < (hi : Int) := by omega
        have HFAR : Hid (hi ≤ n) := Lib.hid (by omega)
        have hhi2 : hi ≤ 1000 := by omega
        go_wp2_with fail
        go_loopg [9] (hi - lo) (fun f p wr => OiRel w g a b c A n ca (some ⟨tb, tp, none⟩) m cc G s.th i lo hi f p wr)
        case atStart => exact ⟨lo, by have := HLE.out; omega, rfl, Nat.le_refl _, fun k h1 h2 => by omega, HB4.out.same fun j _ => by rw [if_neg (by omega)]⟩
        case round =>
          clear HB4
          obtain ⟨j, hk, rfl, hlj, ha, hb⟩ := hrel
          have HJ := Lib.hid hk
          have HJA := Lib.hid ha
          have HB5 := Lib.hid hb
          have HLJ := Lib.hid hlj
          clear hk ha hb
          by_cases hjlt : j < hi
          · have HJLT := Lib.hid hjlt
            have hj2 : (j : Int) < (hi : Int) := by omega
            have hjn : j < n := by have := HFAR.out; omega
            have hj3 : (j : Int) < (n : Int) := by omega
            have hcj := HB5.out.cell j hjn
            have hfj := HB5.out.free j
            have hGl := HB5.out.lt
            rw [if_neg (by omega)] at hcj
            by_cases hown : ownTo s.th i j = -1
            · have HOWN := Lib.hid hown
              rw [hown] at hcj
              have HB6 := Lib.hid (HB5.out.set (i := j) (v := fun k => if lo ≤ k ∧ k < j + 1 then (i : Int) else ownTo s.th i k) (i : Int) fun k _ => by
                by_cases e : k = j
                · subst e; rw [if_pos rfl, if_pos ⟨HLJ.out, by omega⟩]
                · rw [if_neg e]
                  by_cases e2 : lo ≤ k ∧ k < j
                  · rw [if_pos e2, if_pos ⟨e2.1, by omega⟩]
                  · rw [if_neg e2, if_neg (by omega)])
              clear hown HB5
              go_wp2
              go_roundg (hi - (j + 1))
              case measure => have := HJ.out; have := HJLT.out; omega
              case rel =>
                refine ⟨j + 1, by have := HJ.out; have := HJLT.out; omega, by go_num, by have := HLJ.out; omega, fun k h1 h2 => ?_, HB6.out⟩
                by_cases e : k = j
                · subst e; exact HOWN.out
                · exact HJA.out k h1 (by omega)
            · have HF : Hid (r = false) := Lib.hid (by rw [← HR.out]; exact owns_no HIM.out (ok_taken HIM.out HLO.out HHI.out ⟨HLJ.out, hjlt⟩ hown))
              have hne : (ownTo s.th i j != -1) = true := by simpa using hown
              generalize ownTo s.th i j = z at hcj hne
              clear hown
              go_wp2
              go_ret2
              rw [HF.out]
              exact ⟨rfl, HB5.out.box.old⟩
          · have hjh : j = hi := by have := HJ.out; omega
            subst hjh
            have hj2 : ¬ (j : Int) < (j : Int) := by omega
            have HOK : Hid (ownOk s.th n i = true) := Lib.hid (ok_fits HIM.out (fun k hk => (HG.out.small hk).base.1) HLO.out HHI.out HFAR.out HJA.out)
            have HB6 := Lib.hid (HB5.out.same (v := ownTo s.th (i + 1)) fun k _ => (ownTo_succ HIM.out HLO.out HHI.out HJA.out k).symm)
            clear hlj hjlt HB5
            go_wp2
            go_roundg (m - (i + 1))
            case measure => have := HI.out; have := HLT.out; omega
            case rel =>
              refine ⟨i + 1, by have := HI.out; have := HLT.out; omega, by refine congrArg (Value.int .i64) ?_; exact w64_in (by omega) (by have := HS.out.fewm; have := HLT.out; omega), fun k hk => ?_, HB6.out⟩
              by_cases e : k = i
              · subst e; exact HOK.out
              · exact HA.out k (by omega)
    · have hlt2 : ¬ (i : Int) < (m : Int) := by omega
      have him : i = s.th.length := by rw [← HS.out.hm]; have := HI.out; omega
      have HF : Hid (r = true) := Lib.hid (by rw [← HR.out]; exact ownsOk_iff.2 fun k hk => HA.out k (by omega))
      have HCL : Hid (∀ j, j < n → wr.cell? ⟨G, j, none⟩ = some (.int .i64 (optI (ownerN s.th j)))) := Lib.hid fun j hj => by rw [HB.out.cell j hj, him, ownTo_all]
      clear him hlt
      go_wp2
      go_ret2
      rw [HF.out]
      exact ⟨G, rfl, HCL.out, HB.out.lt, old⟩

/-! ### allOwned -/
def allOwnedB (s : St) : Bool := ownsOk s.th s.sl.length && (List.range s.sl.length).all s.p6
def AoRel (W : World) (g : Nat) (a b c : Int) (A : Option Addr) (n ca : Nat) (C : Option Addr) (m cc G : Nat) (s : St) (f : Nat) (p : Value) (wr : World) : Prop :=
  ∃ i : Nat, f + i = n ∧ p = .int .i64 i ∧ (∀ j, j < i → s.p6 j = true) ∧ Sbx W wr g a b c A n ca C m cc ∧ (∀ j, j < n → wr.cell? ⟨G, j, none⟩ = some (.int .i64 (optI (ownerN s.th j)))) ∧ G < wr.heap.size
set_option maxRecDepth 100000 in
set_option maxHeartbeats 4000000 in
theorem allowned_is {s : St} {a b c : Int} {A C : Option Addr} {n ca m cc : Nat} {r : Bool} {w : World} (hS : StH w s a b c A n ca C m cc) (hg : ThOk s.th) (hr : allOwnedB s = r) :
    Calls Tryz.prog 42 #[.agg #[.int .i64 a, .int .i64 b, .int .i64 c, .slice A n ca, .slice C m cc]] w fun e w' => e = .returned (.bool r) ∧ Below w.heap.size w w' := by
  have HS := Lib.hid hS
  have HG := Lib.hid hg
  have few := hS.few
  have k1 := Sbx.new w a b c A n ca C m cc 27
  rw [allOwnedB, ← hS.hn] at hr
  obtain ⟨z, hz⟩ : ∃ z, ownsOk s.th n = z := ⟨_, rfl⟩
  rw [hz] at hr
  have HZ := Lib.hid hz
  clear hS hg hz
  go_enter Tryz.func42, Tryz.ntmps42
  go_wp2_with fail
  obtain ⟨g, hg⟩ : ∃ g, g = w.heap.size := ⟨_, rfl⟩
  rw [← hg] at k1 ⊢
  clear hg
  generalize w.alloc _ = w1 at k1 ⊢
  have HK1 := Lib.hid k1
  clear k1
  refine (ownersof_is (HS.out.on HK1.out.old) HG.out HZ.out).mono ?_
  intro e w2 hO
  rcases z with _ | _
  · obtain ⟨rfl, hb⟩ := hO
    rw [Bool.false_and] at hr
    subst hr
    have HK2 := Lib.hid (HK1.out.on hb)
    clear hb HK1
    go_wp2
    go_loopg [14] 0 (fun f p wr => f = 0 ∧ p = .int .i64 0 ∧ Sbx w wr g a b c A n ca C m cc)
    case atStart => exact ⟨rfl, rfl, HK2.out⟩
    case round =>
      obtain ⟨-, rfl, hb⟩ := hrel
      have HB := Lib.hid hb
      clear hb HK2
      go_wp2
      go_ret
      exact ⟨rfl, HB.out.old⟩
  · obtain ⟨G, rfl, hcell, hGl, hb⟩ := hO
    rw [Bool.true_and] at hr
    have HR := Lib.hid hr
    have HK2 := Lib.hid (HK1.out.on hb)
    have HC := Lib.hid hcell
    have HGL := Lib.hid hGl
    clear hb HK1 hcell hGl hr
    go_wp2_with fail
    go_loopg [14] n (fun f p wr => AoRel w g a b c A n ca C m cc G s f p wr)
    case atStart => exact ⟨0, by omega, rfl, fun j h => by omega, HK2.out, HC.out, HGL.out⟩
    case round =>
      clear HK2 HC HGL
      obtain ⟨i, hk, rfl, ha, hb, hcell, hGl⟩ := hrel
      have HI := Lib.hid hk
      have HA := Lib.hid ha
      have HB := Lib.hid hb
      have HC := Lib.hid hcell
      have HGL := Lib.hid hGl
      obtain ⟨b0, b1, b2, c3, c4, -, -, lt⟩ := hb
      clear hk ha
      by_cases hlt : i < n
      · have HLT := Lib.hid hlt
        have hlt2 : (i : Int) < (n : Int) := by omega
        have hci := hcell i hlt
        have hP : s.p6 i = ((slAt s.sl i).c.non || (ownerN s.th i).isSome) := rfl
        have hF : s.fullB (i : Int) = !(slAt s.sl i).c.non := by
          rw [St.fullB, decide_eq_true (by omega), decide_eq_true (by rw [← HS.out.hn]; exact hlt2), Int.toNat_natCast]; rfl
        generalize (slAt s.sl i).c.non = y at hP hF
        have HFU := Lib.hid hF
        clear hcell hGl hF
        rcases ho : ownerN s.th (i : Int) with _ | o
        · rw [ho] at hci hP
          have hci2 : wr.cell? ⟨G, i, none⟩ = some (.int .i64 (-1)) := hci
          have HPP : Hid (s.p6 i = y) := Lib.hid (by rw [hP]; simp)
          clear hci ho hP
          go_wp2_with fail
          refine (isfull_at (HS.out.on HB.out.old).lies HS.out.hn HFU.out).mono ?_
          rintro e w3 ⟨rfl, hb⟩
          have HB3 := Lib.hid (HB.out.on hb)
          have HC3 : Hid (∀ j, j < n → w3.cell? ⟨G, j, none⟩ = some (.int .i64 (optI (ownerN s.th j)))) := Lib.hid fun j hj => (hb.cell (p := ⟨G, j, none⟩) HGL.out).trans (HC.out j hj)
          have HG3 := Lib.hid (Nat.lt_of_lt_of_le HGL.out hb.size)
          clear hb b0 b1 b2 c3 c4 lt HB HC HGL hci2
          rcases y with _ | _
          · have HF : Hid (r = false) := Lib.hid (by rw [← HR.out]; exact Bool.eq_false_iff.2 fun e => by rw [List.all_eq_true] at e; have := e i (List.mem_range.2 HLT.out); rw [HPP.out] at this; cases this)
            go_wp2
            go_ret
            exact ⟨by rw [HF.out]; rfl, HB3.out.old⟩
          · go_wp2
            go_roundg (n - (i + 1))
            case measure => have := HI.out; have := HLT.out; omega
            case rel =>
              refine ⟨i + 1, by have := HI.out; have := HLT.out; omega, by go_num, fun k hk => ?_, HB3.out, HC3.out, HG3.out⟩
              by_cases e : k = i
              · subst e; exact HPP.out
              · exact HA.out k (by omega)
        · rw [ho] at hci hP
          have HPP : Hid (s.p6 i = true) := Lib.hid (by rw [hP]; simp)
          have hci2 : wr.cell? ⟨G, i, none⟩ = some (.int .i64 (o : Int)) := hci
          have hne : ((o : Int) == -1) = false := beq_eq_false_iff_ne.2 (by omega)
          clear hci ho hP
          go_wp2
          go_roundg (n - (i + 1))
          case measure => have := HI.out; have := HLT.out; omega
          case rel =>
            refine ⟨i + 1, by have := HI.out; have := HLT.out; omega, by go_num, fun k hk => ?_, HB.out, HC.out, HGL.out⟩
            by_cases e : k = i
            · subst e; exact HPP.out
            · exact HA.out k (by omega)
      · have hlt2 : ¬ (i : Int) < (n : Int) := by omega
        have HF : Hid (r = true) := Lib.hid (by rw [← HR.out, List.all_eq_true]; exact fun k hk => HA.out k (by rw [List.mem_range] at hk; omega))
        clear hcell hGl
        go_wp2
        go_ret
        exact ⟨by rw [HF.out]; rfl, HB.out.old⟩
end Go.Proofs.YtkpbfbmkolgmgaaGreat
namespace Go.Proofs.YtkpbfbmkolgmgaaGreat
open Go.RowKit

theorem goodt_at {ty bits base size used frm badge : Int} {full : Bool} {word d0 d1 d2 d3 : Nat} {z : Bool} (h : Tng.good ⟨ty, bits, base, size, used, frm, badge, full, word, d0, d1, d2, d3⟩ = z) (w : World) : Calls Tryz.prog 81 #[.agg #[.int .i64 ty, .int .i64 bits, .int .i64 base, .int .i64 size, .int .i64 used, .int .i64 frm, .int .i64 badge, .bool full, .int .u64 (word : Int), .int .u64 (d0 : Int), .int .u64 (d1 : Int), .int .u64 (d2 : Int), .int .u64 (d3 : Int)]] w fun e w' => e = .returned (.bool z) ∧ Below w.heap.size w w' := h ▸ goodt_any _ w
def QRel (W : World) (g : Nat) (a b c : Int) (A : Option Addr) (n ca : Nat) (C : Option Addr) (m cc N : Nat) (P : Nat → Bool) (f : Nat) (p : Value) (wr : World) : Prop :=
  ∃ i : Nat, f + i = N ∧ p = .int .i64 i ∧ (∀ j, j < i → P j = true) ∧ Sbx W wr g a b c A n ca C m cc
theorem all_no {N i : Nat} {P : Nat → Bool} (hi : i < N) (h : P i = false) : (List.range N).all P = false := Bool.eq_false_iff.2 fun e => by
  rw [List.all_eq_true] at e
  rw [e i (List.mem_range.2 hi)] at h
  cases h
theorem all_yes {N : Nat} {P : Nat → Bool} (h : ∀ j, j < N → P j = true) : (List.range N).all P = true := by
  rw [List.all_eq_true]
  exact fun k hk => h k (List.mem_range.1 hk)
/-! ### partsFit -/
def partsB (s : St) : Bool := (List.range s.th.length).all (fun i => (thAt s.th i).good) && (List.range s.sl.length).all fun i => s.fitS (slAt s.sl i)
set_option maxHeartbeats 4000000 in
theorem parts_is {s : St} {a b c : Int} {A C : Option Addr} {n ca m cc : Nat} {r : Bool} {w : World} (hS : StH w s a b c A n ca C m cc) (hr : partsB s = r) :
    Calls Tryz.prog 37 #[.agg #[.int .i64 a, .int .i64 b, .int .i64 c, .slice A n ca, .slice C m cc]] w fun e w' => e = .returned (.bool r) ∧ Below w.heap.size w w' := by
  have HS := Lib.hid hS
  rw [partsB, ← hS.hn, ← hS.hm] at hr
  have HR := Lib.hid hr
  have k1 := Sbx.new w a b c A n ca C m cc 27
  have few := hS.few
  have fewm := hS.fewm
  clear hS hr
  go_enter Tryz.func37, Tryz.ntmps37
  go_wp2_with fail
  obtain ⟨g, hg⟩ : ∃ g, g = w.heap.size := ⟨_, rfl⟩
  rw [← hg] at k1 ⊢
  clear hg
  generalize w.alloc _ = w1 at k1 ⊢
  have HK1 := Lib.hid k1
  clear k1
  go_loopg [10] m (fun f p wr => QRel w g a b c A n ca C m cc m (fun i => (thAt s.th i).good) f p wr)
  case atStart => exact ⟨0, by omega, rfl, fun j h => by omega, HK1.out⟩
  case round =>
    clear HK1
    obtain ⟨i, hk, rfl, ha, hb⟩ := hrel
    have HI := Lib.hid hk
    have HA := Lib.hid ha
    have HB := Lib.hid hb
    obtain ⟨b0, b1, b2, c3, c4, old, -, lt⟩ := hb
    clear hk ha
    by_cases hlt : i < m
    · have HLT := Lib.hid hlt
      have hlt2 : (i : Int) < (m : Int) := by omega
      obtain ⟨tb, tp, rfl, htb, hc⟩ := HS.out.lies.th (by rw [← HS.out.hm]; omega)
      have hT : ThC wr tb (tp + i * 13) (thAt s.th i) := (hc i (by rw [← HS.out.hm]; exact hlt)).same fun k => old.cell (p := ⟨tb, k, none⟩) htb
      obtain ⟨z, hz⟩ : ∃ z, (thAt s.th i).good = z := ⟨_, rfl⟩
      have HZ := Lib.hid hz
      generalize thAt s.th i = t at hT hz
      obtain ⟨ty, bits, base, size, used, frm, badge, full, word, d0, d1, d2, d3⟩ := t
      obtain ⟨t0, t1, t2, t3, t4, t5, t6, t7, t8, t9, t10, t11, t12⟩ := hT
      simp only at t0 t1 t2 t3 t4 t5 t6 t7 t8 t9 t10 t11 t12
      have HZZ := Lib.hid hz
      have HB2 := Lib.hid (HB.out.on (below_alloc wr (.cells #[.int .i64 ty, .int .i64 bits, .int .i64 base, .int .i64 size, .int .i64 used, .int .i64 frm, .int .i64 badge, .bool full, .int .u64 (word : Int), .int .u64 (d0 : Int), .int .u64 (d1 : Int), .int .u64 (d2 : Int), .int .u64 (d3 : Int)] 67)))
      clear hc htb hz HB b0 b1 b2 c3 c4 old lt
      go_wp2_with fail
      generalize wr.alloc _ = w3 at HB2 ⊢
      refine (goodt_at HZZ.out w3).mono ?_
      rintro e w4 ⟨rfl, hb⟩
      have HB4 := Lib.hid (HB2.out.on hb)
      clear hb HB2 HZZ t0 t1 t2 t3 t4 t5 t6 t7 t8 t9 t10 t11 t12
      rcases z with _ | _
      · have HF : Hid (r = false) := Lib.hid (by rw [← HR.out, all_no HLT.out HZ.out, Bool.false_and])
        go_wp2
        go_ret
        exact ⟨by rw [HF.out]; rfl, HB4.out.old⟩
      · go_wp2
        go_roundg (m - (i + 1))
        case measure => have := HI.out; have := HLT.out; omega
        case rel =>
          refine ⟨i + 1, by have := HI.out; have := HLT.out; omega, by go_num, fun k hk => ?_, HB4.out⟩
          by_cases e : k = i
          · subst e; exact HZ.out
          · exact HA.out k (by omega)
    · have hlt2 : ¬ (i : Int) < (m : Int) := by omega
      have HT : Hid ((List.range m).all (fun i => (thAt s.th i).good) = true) := Lib.hid (all_yes fun k hk => HA.out k (by have := HI.out; omega))
      have HR2 : Hid ((List.range n).all (fun i => s.fitS (slAt s.sl i)) = r) := Lib.hid (by have := HR.out; rwa [HT.out, Bool.true_and] at this)
      clear hlt HA HI HT HR
      go_wp2_with fail
      clear b0 b1 b2 c3 c4 old lt
      go_loopg [21] n (fun f p wr => QRel w g a b c A n ca C m cc n (fun i => s.fitS (slAt s.sl i)) f p wr)
      case atStart => exact ⟨0, by omega, rfl, fun j h => by omega, HB.out⟩
      case round =>
        clear HB
        obtain ⟨i, hk, rfl, ha, hb⟩ := hrel
        have HI := Lib.hid hk
        have HA := Lib.hid ha
        have HB := Lib.hid hb
        obtain ⟨b0, b1, b2, c3, c4, old, -, lt⟩ := hb
        clear hk ha
        by_cases hlt : i < n
        · have HLT := Lib.hid hlt
          have hlt2 : (i : Int) < (n : Int) := by omega
          obtain ⟨sb, sp, rfl, hsb, hc⟩ := HS.out.lies.sl (by rw [← HS.out.hn]; omega)
          have hT : SlC wr sb (sp + i * 5) (slAt s.sl i) := (hc i (by rw [← HS.out.hn]; exact hlt)).same fun k => old.cell (p := ⟨sb, k, none⟩) hsb
          obtain ⟨z, hz⟩ : ∃ z, s.fitS (slAt s.sl i) = z := ⟨_, rfl⟩
          have HZ := Lib.hid hz
          generalize slAt s.sl i = t at hT hz
          obtain ⟨⟨ty, th, ri, ba⟩, up⟩ := t
          obtain ⟨s0, s1, s2, s3, s4⟩ := hT
          simp only at s0 s1 s2 s3 s4
          have HZZ := Lib.hid hz
          have HB2 := Lib.hid (HB.out.on (below_alloc wr (.cells #[.int .i64 ty, .int .i64 th, .int .i64 ri, .int .i64 ba, .int .i64 up] 64)))
          clear hc hsb hz HB
          go_wp2_with fail
          clear b0 b1 b2 c3 c4 old lt s0 s1 s2 s3 s4
          generalize wr.alloc _ = w3 at HB2 ⊢
          refine (slotfits_at (HS.out.on HB2.out.old).lies HS.out.hm HZZ.out).mono ?_
          rintro e w4 ⟨rfl, hb⟩
          have HB4 := Lib.hid (HB2.out.on hb)
          clear hb HB2 HZZ
          rcases z with _ | _
          · have HF : Hid (r = false) := Lib.hid (by rw [← HR2.out, all_no HLT.out HZ.out])
            go_wp2
            go_ret
            exact ⟨by rw [HF.out]; rfl, HB4.out.old⟩
          · go_wp2
            go_roundg (n - (i + 1))
            case measure => have := HI.out; have := HLT.out; omega
            case rel =>
              refine ⟨i + 1, by have := HI.out; have := HLT.out; omega, by go_num, fun k hk => ?_, HB4.out⟩
              by_cases e : k = i
              · subst e; exact HZ.out
              · exact HA.out k (by omega)
        · have hlt2 : ¬ (i : Int) < (n : Int) := by omega
          have HF : Hid (r = true) := Lib.hid (by rw [← HR2.out]; exact all_yes fun k hk => HA.out k (by have := HI.out; omega))
          go_wp2
          go_ret
          exact ⟨by rw [HF.out]; rfl, HB.out.old⟩
/-! ### waysThere -/
set_option maxHeartbeats 4000000 in
theorem ways_is {s : St} {a b c : Int} {A C : Option Addr} {n ca m cc : Nat} {r : Bool} {w : World} (hS : StH w s a b c A n ca C m cc) (hg : ThOk s.th) (hr : (List.range s.th.length).all s.p9 = r) :
    Calls Tryz.prog 45 #[.agg #[.int .i64 a, .int .i64 b, .int .i64 c, .slice A n ca, .slice C m cc]] w fun e w' => e = .returned (.bool r) ∧ Below w.heap.size w w' := by
  have HS := Lib.hid hS
  rw [← hS.hm] at hr
  have HR := Lib.hid hr
  have HG := Lib.hid hg
  have k1 := Sbx.new w a b c A n ca C m cc 27
  have fewm := hS.fewm
  clear hS hr hg
  go_enter Tryz.func45, Tryz.ntmps45
  go_wp2_with fail
  obtain ⟨g, hg⟩ : ∃ g, g = w.heap.size := ⟨_, rfl⟩
  rw [← hg] at k1 ⊢
  clear hg
  generalize w.alloc _ = w1 at k1 ⊢
  have HK1 := Lib.hid k1
  clear k1
  go_loopg [8] m (fun f p wr => QRel w g a b c A n ca C m cc m s.p9 f p wr)
  case atStart => exact ⟨0, by omega, rfl, fun j h => by omega, HK1.out⟩
  case round =>
    clear HK1
    obtain ⟨i, hk, rfl, ha, hb⟩ := hrel
    have HI := Lib.hid hk
    have HA := Lib.hid ha
    have HB := Lib.hid hb
    obtain ⟨b0, b1, b2, c3, c4, old, -, lt⟩ := hb
    clear hk ha
    by_cases hlt : i < m
    · have HLT := Lib.hid hlt
      have hlt2 : (i : Int) < (m : Int) := by omega
      obtain ⟨tb, tp, rfl, htb, hc⟩ := HS.out.lies.th (by rw [← HS.out.hm]; omega)
      have hT : ThC wr tb (tp + i * 13) (thAt s.th i) := (hc i (by rw [← HS.out.hm]; exact hlt)).same fun k => old.cell (p := ⟨tb, k, none⟩) htb
      have hsm := (HG.out.small (i := i) (by rw [← HS.out.hm]; exact hlt)).frm
      have hP : s.p9 i = ((thAt s.th i).frm == 0 || s.fullB ((thAt s.th i).frm - 1)) := rfl
      generalize thAt s.th i = t at hT hsm hP
      obtain ⟨ty, bits, base, size, used, frm, badge, full, word, d0, d1, d2, d3⟩ := t
      obtain ⟨t0, t1, t2, t3, t4, t5, t6, t7, t8, t9, t10, t11, t12⟩ := hT
      simp only at t0 t1 t2 t3 t4 t5 t6 t7 t8 t9 t10 t11 t12 hP hsm
      have hB2 := HB.out.on (below_alloc wr (.cells #[.int .i64 ty, .int .i64 bits, .int .i64 base, .int .i64 size, .int .i64 used, .int .i64 frm, .int .i64 badge, .bool full, .int .u64 (word : Int), .int .u64 (d0 : Int), .int .u64 (d1 : Int), .int .u64 (d2 : Int), .int .u64 (d3 : Int)] 67))
      clear hc htb HB old
      by_cases h0 : frm = 0
      · subst h0
        have HPP : Hid (s.p9 i = true) := Lib.hid (by rw [hP]; rfl)
        have HB2 := Lib.hid hB2
        clear hP hB2 hsm
        go_wp2
        go_roundg (m - (i + 1))
        case measure => have := HI.out; have := HLT.out; omega
        case rel =>
          refine ⟨i + 1, by have := HI.out; have := HLT.out; omega, by go_num, fun k hk => ?_, HB2.out⟩
          by_cases e : k = i
          · subst e; exact HPP.out
          · exact HA.out k (by omega)
      · have h1 : (frm != 0) = true := by simpa using h0
        obtain ⟨z, hz⟩ : ∃ z, s.fullB (frm - 1) = z := ⟨_, rfl⟩
        have HPP : Hid (s.p9 i = z) := Lib.hid (by rw [hP, beq_eq_false_iff_ne.2 h0, Bool.false_or, hz])
        have HZ := Lib.hid hz
        have ew : wrap64 (frm - 1) = frm - 1 := w64_in (by omega) (by omega)
        have HWW := Lib.hid hsm
        have h2 : 0 ≤ frm := hsm.1
        have h3 : frm ≤ 96 := hsm.2
        clear hP hz hsm
        go_wp2_with fail
        generalize wr.alloc _ = w3 at hB2 ⊢
        have HB3 := Lib.hid hB2
        clear hB2
        refine (isfull_at (HS.out.on HB3.out.old).lies HS.out.hn HZ.out).mono ?_
        rintro e w4 ⟨rfl, hb⟩
        have HB4 := Lib.hid (HB3.out.on hb)
        clear hb HB3 b0 b1 b2 c3 c4 lt t0 t1 t2 t3 t4 t5 t6 t7 t8 t9 t10 t11 t12
        rcases z with _ | _
        · have HF : Hid (r = false) := Lib.hid (by rw [← HR.out, all_no HLT.out HPP.out])
          go_wp2
          go_ret
          exact ⟨by rw [HF.out]; rfl, HB4.out.old⟩
        · go_wp2
          go_roundg (m - (i + 1))
          case measure => have := HI.out; have := HLT.out; omega
          case rel =>
            refine ⟨i + 1, by have := HI.out; have := HLT.out; omega, by go_num, fun k hk => ?_, HB4.out⟩
            by_cases e : k = i
            · subst e; exact HPP.out
            · exact HA.out k (by omega)
    · have hlt2 : ¬ (i : Int) < (m : Int) := by omega
      have HF : Hid (r = true) := Lib.hid (by rw [← HR.out]; exact all_yes fun k hk => HA.out k (by have := HI.out; omega))
      go_wp2
      go_ret
      exact ⟨by rw [HF.out]; rfl, HB.out.old⟩
/-! ### cameRightly -/
theorem up_in {s : St} (h3 : ∀ i, i < s.sl.length → s.fitS (slAt s.sl i) = true) (h5 : s.k5 = true) {i : Nat} (hi : i < s.sl.length) (hu : (slAt s.sl i).up ≠ -1) : ∃ u : Nat, (slAt s.sl i).up = u ∧ u < s.sl.length := by
  have hf := h3 i hi
  have hn : ¬ (slAt s.sl i).c.non = true := fun q => hu (fitS_none hf q)
  have h4 := (fitS_full hf hn).2.2.2
  have hfu : fu (upsOf s.sl) i = (slAt s.sl i).up := by rw [fu_ups hi, upOf, if_neg hn]
  have := (fo_iff.1 h5).up i (slAt s.sl i).up.toNat (by rw [hfu]; omega)
  rw [upsOf_length] at this
  exact ⟨(slAt s.sl i).up.toNat, by omega, this.1⟩
set_option maxHeartbeats 4000000 in
theorem camer_is {s : St} {a b c : Int} {A C : Option Addr} {n ca m cc : Nat} {r : Bool} {w : World} (hS : StH w s a b c A n ca C m cc) (h3 : ∀ i, i < s.sl.length → s.fitS (slAt s.sl i) = true) (h5 : s.k5 = true) (hr : (List.range s.sl.length).all s.p4 = r) :
    Calls Tryz.prog 40 #[.agg #[.int .i64 a, .int .i64 b, .int .i64 c, .slice A n ca, .slice C m cc]] w fun e w' => e = .returned (.bool r) ∧ Below w.heap.size w w' := by
  have HS := Lib.hid hS
  have HUP : Hid (∀ i, i < s.sl.length → (slAt s.sl i).up ≠ -1 → ∃ u : Nat, (slAt s.sl i).up = u ∧ u < s.sl.length) := Lib.hid fun i hi hu => up_in h3 h5 hi hu
  rw [← hS.hn] at hr
  have HR := Lib.hid hr
  have k1 := Sbx.new w a b c A n ca C m cc 27
  have few := hS.few
  clear hS hr h3 h5
  go_enter Tryz.func40, Tryz.ntmps40
  go_wp2_with fail
  obtain ⟨g, hg⟩ : ∃ g, g = w.heap.size := ⟨_, rfl⟩
  rw [← hg] at k1 ⊢
  clear hg
  generalize w.alloc _ = w1 at k1 ⊢
  have HK1 := Lib.hid k1
  clear k1
  go_loopg [8] n (fun f p wr => QRel w g a b c A n ca C m cc n s.p4 f p wr)
  case atStart => exact ⟨0, by omega, rfl, fun j h => by omega, HK1.out⟩
  case round =>
    clear HK1
    obtain ⟨i, hk, rfl, ha, hb⟩ := hrel
    have HI := Lib.hid hk
    have HA := Lib.hid ha
    have HB := Lib.hid hb
    obtain ⟨b0, b1, b2, c3, c4, old, -, lt⟩ := hb
    clear hk ha
    by_cases hlt : i < n
    · have HLT := Lib.hid hlt
      have hlt2 : (i : Int) < (n : Int) := by omega
      obtain ⟨sb, sp, rfl, hsb, hc⟩ := HS.out.lies.sl (by rw [← HS.out.hn]; omega)
      have hcw : ∀ j, j < s.sl.length → SlC wr sb (sp + j * 5) (slAt s.sl j) := fun j hj => (hc j hj).same fun k => old.cell (p := ⟨sb, k, none⟩) hsb
      have hT := hcw i (by rw [← HS.out.hn]; exact hlt)
      have hP : s.p4 i = ((slAt s.sl i).up == -1 || cameOk (slAt s.sl i).c (slAt s.sl (slAt s.sl i).up.toNat).c) := rfl
      have hU := HUP.out i (by rw [← HS.out.hn]; exact hlt)
      generalize slAt s.sl i = t at hT hP hU
      obtain ⟨⟨ty, th, ri, ba⟩, up⟩ := t
      obtain ⟨s0, s1, s2, s3, s4⟩ := hT
      simp only at s0 s1 s2 s3 s4 hP hU
      have hB2 := HB.out.on (below_alloc wr (.cells #[.int .i64 ty, .int .i64 th, .int .i64 ri, .int .i64 ba, .int .i64 up] 64))
      by_cases h0 : up = -1
      · subst h0
        have HPP : Hid (s.p4 i = true) := Lib.hid (by rw [hP]; rfl)
        have HB2 := Lib.hid hB2
        have hX2 := Slx.new wr ty th ri ba (-1) 64
        clear hP hB2 hU hc hsb hcw old HB
        go_wp2_with fail
        generalize wr.alloc _ = w3 at HB2 hX2 ⊢
        obtain ⟨x0, x1, x2, x3, x4, xlt⟩ := hX2
        simp only at x0 x1 x2 x3 x4
        go_quiet (fail)
        go_wp2
        go_roundg (n - (i + 1))
        case measure => have := HI.out; have := HLT.out; omega
        case rel =>
          refine ⟨i + 1, by have := HI.out; have := HLT.out; omega, by go_num, fun k hk => ?_, HB2.out.on (below_draws (below_self _) _)⟩
          by_cases e : k = i
          · subst e; exact HPP.out
          · exact HA.out k (by omega)
      · obtain ⟨u, rfl, hu⟩ := hU h0
        have h1 : ((u : Int) != -1) = true := bne_iff_ne.2 h0
        have hun : u < n := by rw [HS.out.hn]; exact hu
        have hun2 : (u : Int) < (n : Int) := by omega
        have hq := hcw u hu
        rw [Int.toNat_natCast, beq_eq_false_iff_ne.2 h0, Bool.false_or] at hP
        obtain ⟨z, hz⟩ : ∃ z, s.p4 i = z := ⟨_, rfl⟩
        have HPP := Lib.hid hz
        rw [hP] at hz
        generalize slAt s.sl u = t at hq hz
        obtain ⟨⟨ty', th', ri', ba'⟩, up'⟩ := t
        obtain ⟨q0, q1, q2, q3, -⟩ := hq
        simp only at q0 q1 q2 q3 hz
        have HZ := Lib.hid hz
        have hsb2 : sb < wr.heap.size := Nat.lt_of_lt_of_le hsb old.size
        have hv := below_alloc wr (.cells #[.int .i64 ty, .int .i64 th, .int .i64 ri, .int .i64 ba, .int .i64 (u : Int)] 64)
        replace q0 := (hv.cell (p := ⟨sb, sp + u * 5, none⟩) hsb2).trans q0
        replace q1 := (hv.cell (p := ⟨sb, sp + u * 5 + 1, none⟩) hsb2).trans q1
        replace q2 := (hv.cell (p := ⟨sb, sp + u * 5 + 2, none⟩) hsb2).trans q2
        replace q3 := (hv.cell (p := ⟨sb, sp + u * 5 + 3, none⟩) hsb2).trans q3
        have hsb3 := Nat.lt_of_lt_of_le hsb2 hv.size
        have hX2 := Slx.new wr ty th ri ba (u : Int) 64
        clear hP hz hu hc hsb hcw old HB hv hsb2 h0 hun
        go_wp2_with fail
        generalize wr.alloc _ = w3 at hB2 hX2 q0 q1 q2 q3 hsb3 ⊢
        obtain ⟨P, hPP⟩ : ∃ P, P = wr.heap.size := ⟨_, rfl⟩
        rw [← hPP] at hX2 ⊢
        clear hPP b0 b1 b2 c3 c4 lt s0 s1 s2 s3 s4
        have HB3 := Lib.hid hB2
        obtain ⟨b0, b1, b2, c3, c4, -, -, lt⟩ := hB2
        obtain ⟨x0, x1, x2, x3, x4, xlt⟩ := hX2
        simp only at x0 x1 x2 x3 x4
        go_wp2_with fail
        refine wp_region_held_drew (S := (fun w' => w'.cell? ⟨g, 3, none⟩ = some (.slice (some ⟨sb, sp, none⟩) n ca) ∧ w'.cell? ⟨P, 0, none⟩ = some (.int .i64 ty) ∧ w'.cell? ⟨P, 1, none⟩ = some (.int .i64 th) ∧ w'.cell? ⟨P, 2, none⟩ = some (.int .i64 ri) ∧ w'.cell? ⟨P, 3, none⟩ = some (.int .i64 ba) ∧ w'.cell? ⟨P, 4, none⟩ = some (.int .i64 (u : Int)) ∧ w'.cell? ⟨sb, sp + u * 5, none⟩ = some (.int .i64 ty') ∧ w'.cell? ⟨sb, sp + u * 5 + 1, none⟩ = some (.int .i64 th') ∧ w'.cell? ⟨sb, sp + u * 5 + 2, none⟩ = some (.int .i64 ri') ∧ w'.cell? ⟨sb, sp + u * 5 + 3, none⟩ = some (.int .i64 ba') ∧ Below w3.heap.size w3 w')) (by kernel_rfl) ⟨c3, x0, x1, x2, x3, x4, q0, q1, q2, q3, (below_self w3).drew⟩ (fun hHeld => ?_)
        refine wpAnyH_take (i := 0) (v := ?_) rfl (by kernel_rfl) (by kernel_rfl) (by kernel_rfl) (fun _ _ _ h => h) (Or.inl ⟨by rfl, ?_⟩) (by assumption) ?_
        rotate_left
        · intro w hSw; go_split_ands; go_simp; try with_reducible rfl
        simp only [Act.put, List.setIfInBounds_toArray, List.set_cons_zero, List.set_cons_succ, List.getElem_toArray, List.getElem_cons_zero]
        refine wpAnyH_take (i := 1) (v := ?_) rfl (by kernel_rfl) (by kernel_rfl) (by kernel_rfl) (fun _ _ _ h => h) (Or.inl ⟨by rfl, ?_⟩) (by assumption) ?_
        rotate_left
        · intro w hSw; go_split_ands; go_simp; try with_reducible rfl
        simp only [Act.put, List.setIfInBounds_toArray, List.set_cons_zero, List.set_cons_succ, List.getElem_toArray, List.getElem_cons_zero, List.getElem_cons_succ]
        refine wpAnyH_take (i := 2) (v := ?_) rfl (by kernel_rfl) (by kernel_rfl) (by kernel_rfl) (fun _ _ _ h => h) (Or.inl ⟨by rfl, ?_⟩) (by assumption) ?_
        rotate_left
        · intro w hSw; go_split_ands; go_simp; try with_reducible rfl
        simp only [Act.put, List.setIfInBounds_toArray, List.set_cons_zero, List.set_cons_succ, List.getElem_toArray, List.getElem_cons_zero, List.getElem_cons_succ]
        refine wpAnyH_take (i := 3) (v := ?_) rfl (by kernel_rfl) (by kernel_rfl) (by kernel_rfl) (fun _ _ _ h => h) (Or.inl ⟨by rfl, ?_⟩) (by assumption) ?_
        rotate_left
        · intro w hSw; go_split_ands; go_simp; try with_reducible rfl
        simp only [Act.put, List.setIfInBounds_toArray, List.set_cons_zero, List.set_cons_succ, List.getElem_toArray, List.getElem_cons_zero, List.getElem_cons_succ]
        refine wpAnyH_take (i := 4) (v := ?_) rfl (by kernel_rfl) (by kernel_rfl) (by kernel_rfl) (fun _ _ _ h => h) (Or.inl ⟨by rfl, ?_⟩) (by assumption) ?_
        rotate_left
        · intro w hSw; go_split_ands; go_simp; try with_reducible rfl
        simp only [Act.put, List.setIfInBounds_toArray, List.set_cons_zero, List.set_cons_succ, List.getElem_toArray, List.getElem_cons_zero, List.getElem_cons_succ]
        refine wpAnyH_take (i := 5) (v := ?_) rfl (by kernel_rfl) (by kernel_rfl) (by kernel_rfl) (fun _ _ _ h => h) (Or.inl ⟨by rfl, ?_⟩) (by assumption) ?_
        rotate_left
        · intro w hSw; go_split_ands; go_simp; try with_reducible rfl
        simp only [Act.put, List.setIfInBounds_toArray, List.set_cons_zero, List.set_cons_succ, List.getElem_toArray, List.getElem_cons_zero, List.getElem_cons_succ]
        refine wpAnyH_take (i := 6) (v := ?_) rfl (by kernel_rfl) (by kernel_rfl) (by kernel_rfl) (fun _ _ _ h => h) (Or.inl ⟨by rfl, ?_⟩) (by assumption) ?_
        rotate_left
        · intro w hSw; go_split_ands; go_simp; try with_reducible rfl
        simp only [Act.put, List.setIfInBounds_toArray, List.set_cons_zero, List.set_cons_succ, List.getElem_toArray, List.getElem_cons_zero, List.getElem_cons_succ]
        refine wpAnyH_take (i := 7) (v := ?_) rfl (by kernel_rfl) (by kernel_rfl) (by kernel_rfl) (fun _ _ _ h => h) (Or.inl ⟨by rfl, ?_⟩) (by assumption) ?_
        rotate_left
        · intro w hSw; go_split_ands; go_simp; try with_reducible rfl
        simp only [Act.put, List.setIfInBounds_toArray, List.set_cons_zero, List.set_cons_succ, List.getElem_toArray, List.getElem_cons_zero, List.getElem_cons_succ]
        refine wpAnyH_take (i := 8) (v := ?_) rfl (by kernel_rfl) (by kernel_rfl) (by kernel_rfl) (fun _ _ _ h => h) (Or.inl ⟨by rfl, ?_⟩) (by assumption) ?_
        rotate_left
        · intro w hSw; go_split_ands; go_simp; try with_reducible rfl
        simp only [Act.put, List.setIfInBounds_toArray, List.set_cons_zero, List.set_cons_succ, List.getElem_toArray, List.getElem_cons_zero, List.getElem_cons_succ]
        refine wpAnyH_take (i := 9) (v := ?_) rfl (by kernel_rfl) (by kernel_rfl) (by kernel_rfl) (fun _ _ _ h => h) (Or.inl ⟨by rfl, ?_⟩) (by assumption) ?_
        rotate_left
        · intro w hSw; go_split_ands; go_simp; try with_reducible rfl
        simp only [Act.put, List.setIfInBounds_toArray, List.set_cons_zero, List.set_cons_succ, List.getElem_toArray, List.getElem_cons_zero, List.getElem_cons_succ]
        refine wpAnyH_take (i := 10) (v := ?_) rfl (by kernel_rfl) (by kernel_rfl) (by kernel_rfl) (fun _ _ _ h => h) (Or.inl ⟨by rfl, ?_⟩) (by assumption) ?_
        rotate_left
        · intro w hSw; go_split_ands; go_simp; try with_reducible rfl
        simp only [Act.put, List.setIfInBounds_toArray, List.set_cons_zero, List.set_cons_succ, List.getElem_toArray, List.getElem_cons_zero, List.getElem_cons_succ]
        refine wpAnyH_take (i := 11) (v := ?_) rfl (by kernel_rfl) (by kernel_rfl) (by kernel_rfl) (fun _ _ _ h => h) (Or.inl ⟨by rfl, ?_⟩) (by assumption) ?_
        rotate_left
        · intro w hSw; go_split_ands; go_simp; try with_reducible rfl
        simp only [Act.put, List.setIfInBounds_toArray, List.set_cons_zero, List.set_cons_succ, List.getElem_toArray, List.getElem_cons_zero, List.getElem_cons_succ]
        refine wpAnyH_take (i := 12) (v := ?_) rfl (by kernel_rfl) (by kernel_rfl) (by kernel_rfl) (fun _ _ _ h => h) (Or.inl ⟨by rfl, ?_⟩) (by assumption) ?_
        rotate_left
        · intro w hSw; go_split_ands; go_simp; try with_reducible rfl
        simp only [Act.put, List.setIfInBounds_toArray, List.set_cons_zero, List.set_cons_succ, List.getElem_toArray, List.getElem_cons_zero, List.getElem_cons_succ]
        refine wpAnyH_ready (rs := [13]) (by kernel_rfl) (by simp) ?_
        refine AllReadyH.cons rfl (fun K hK => ?_) AllReadyH.nil
        go_simp
        refine (came_at HZ.out _).mono ?_
        rintro e w' ⟨rfl, hb⟩
        have zb := below_on (below_self w3).drew hb
        refine hK.out _ _ ⟨(zb.cell (p := ⟨g, 3, none⟩) lt).trans c3, (zb.cell (p := ⟨P, 0, none⟩) xlt).trans x0, (zb.cell (p := ⟨P, 1, none⟩) xlt).trans x1, (zb.cell (p := ⟨P, 2, none⟩) xlt).trans x2, (zb.cell (p := ⟨P, 3, none⟩) xlt).trans x3, (zb.cell (p := ⟨P, 4, none⟩) xlt).trans x4, (zb.cell (p := ⟨sb, sp + u * 5, none⟩) hsb3).trans q0, (zb.cell (p := ⟨sb, sp + u * 5 + 1, none⟩) hsb3).trans q1, (zb.cell (p := ⟨sb, sp + u * 5 + 2, none⟩) hsb3).trans q2, (zb.cell (p := ⟨sb, sp + u * 5 + 3, none⟩) hsb3).trans q3, zb⟩ (fun hHeld => ?_)
        clear hK K
        try simp only [Act.put, List.setIfInBounds_toArray, List.set_cons_zero, List.set_cons_succ]
        refine wpAnyH_take (i := 14) (v := ?_) rfl (by kernel_rfl) (by kernel_rfl) (by kernel_rfl) (fun _ _ _ h => h) (Or.inl ⟨by rfl, ?_⟩) (by assumption) ?_
        rotate_left
        · intro w hSw; go_split_ands; go_simp; try with_reducible rfl
        simp only [Act.put, List.setIfInBounds_toArray, List.set_cons_zero, List.set_cons_succ, List.getElem_toArray, List.getElem_cons_zero, List.getElem_cons_succ]
        refine wpAnyH_take (i := 15) (v := ?_) rfl (by kernel_rfl) (by kernel_rfl) (by kernel_rfl) (fun _ _ _ h => h) (Or.inl ⟨by rfl, ?_⟩) (by assumption) ?_
        rotate_left
        · intro w hSw; go_split_ands; go_simp; try with_reducible rfl
        simp only [Act.put, List.setIfInBounds_toArray, List.set_cons_zero, List.set_cons_succ, List.getElem_toArray, List.getElem_cons_zero, List.getElem_cons_succ]
        refine wpAnyH_done (by kernel_rfl) ?_ _
        have HB4 := Lib.hid (HB3.out.on zb)
        clear zb hb b0 b1 b2 c3 c4 lt x0 x1 x2 x3 x4 xlt q0 q1 q2 q3 hsb3 HB3
        rcases z with _ | _
        · have HF : Hid (r = false) := Lib.hid (by rw [← HR.out, all_no HLT.out HPP.out])
          go_wp2
          go_ret
          exact ⟨by rw [HF.out]; rfl, HB4.out.old⟩
        · go_wp2
          go_roundg (n - (i + 1))
          case measure => have := HI.out; have := HLT.out; omega
          case rel =>
            refine ⟨i + 1, by have := HI.out; have := HLT.out; omega, by go_num, fun k hk => ?_, HB4.out⟩
            by_cases e : k = i
            · subst e; exact HPP.out
            · exact HA.out k (by omega)
    · have hlt2 : ¬ (i : Int) < (n : Int) := by omega
      have HF : Hid (r = true) := Lib.hid (by rw [← HR.out]; exact all_yes fun k hk => HA.out k (by have := HI.out; omega))
      go_wp2
      go_ret
      exact ⟨by rw [HF.out]; rfl, HB.out.old⟩
/-! ### rootsThere -/
set_option maxHeartbeats 4000000 in
theorem roots_is {s : St} {T : Nat} {b c : Int} {A C : Option Addr} {n ca m cc : Nat} {r : Bool} {w : World} (hS : StH w s (T : Int) b c A n ca C m cc) (h1 : s.k1 = true) (hr : (List.range T).all s.k3 = r) :
    Calls Tryz.prog 41 #[.agg #[.int .i64 (T : Int), .int .i64 b, .int .i64 c, .slice A n ca, .slice C m cc]] w fun e w' => e = .returned (.bool r) ∧ Below w.heap.size w w' := by
  have hok : Gd.ok ⟨(T : Int), b, c⟩ = true ∧ T + 2 ≤ m ∧ T ≤ 4 := by
    rw [St.k1, hS.hg, Bool.and_eq_true, Bool.and_eq_true, decide_eq_true_eq, decide_eq_true_eq, ← hS.hm] at h1
    have h2 := Gd.ok_iff.1 h1.1
    simp only at h1 h2
    exact ⟨h1.1, by omega, by omega⟩
  have HS := Lib.hid hS
  have HOK := Lib.hid hok.1
  have HR := Lib.hid hr
  have k1 := Sbx.new w (T : Int) b c A n ca C m cc 27
  have hT2 := hok.2.1
  have hT4 := hok.2.2
  have fewm := hS.fewm
  clear hS hr h1 hok
  go_enter Tryz.func41, Tryz.ntmps41
  go_wp2_with fail
  obtain ⟨g, hg⟩ : ∃ g, g = w.heap.size := ⟨_, rfl⟩
  rw [← hg] at k1 ⊢
  clear hg
  generalize w.alloc _ = w1 at k1 ⊢
  have HK1 := Lib.hid k1
  clear k1
  go_loopg [7] T (fun f p wr => QRel w g (T : Int) b c A n ca C m cc T s.k3 f p wr)
  case atStart => exact ⟨0, by omega, rfl, fun j h => by omega, HK1.out⟩
  case round =>
    clear HK1
    obtain ⟨i, hk, rfl, ha, hb⟩ := hrel
    have HI := Lib.hid hk
    have HA := Lib.hid ha
    have HB := Lib.hid hb
    obtain ⟨b0, b1, b2, c3, c4, old, -, lt⟩ := hb
    clear hk ha
    by_cases hlt : i < T
    · have HLT := Lib.hid hlt
      have hlt2 : (i : Int) < (T : Int) := by omega
      obtain ⟨tb, tp, rfl, htb, hc⟩ := HS.out.lies.th (by rw [← HS.out.hm]; omega)
      obtain ⟨v, hv⟩ : ∃ v, v = 2 + i := ⟨_, rfl⟩
      have hT : ThC wr tb (tp + v * 13) (thAt s.th v) := (hc v (by rw [← HS.out.hm]; omega)).same fun k => old.cell (p := ⟨tb, k, none⟩) htb
      have hP : s.k3 i = (thAt s.th v).eq (rootT i) := by rw [hv]; rfl
      have heq : ∀ w, (Op.equalIn 10000 67 (thAt s.th v).val (.agg #[.int .i64 2, .int .i64 3, .int .i64 (8 * (i : Int)), .int .i64 0, .int .i64 0, .int .i64 0, .int .i64 0, .bool false, .int .u64 0, .int .u64 0, .int .u64 0, .int .u64 0, .int .u64 0])).run Tryz.prog w = .ok (s.k3 i) w := fun w => hP ▸ teq26 (thAt s.th v) (rootT i) w
      have HRT : Hid (∀ w, Calls Tryz.prog 87 #[.agg #[.int .i64 (T : Int), .int .i64 b, .int .i64 c], .int .i64 (i : Int)] w fun e w' => e = .returned (.agg #[.int .i64 2, .int .i64 3, .int .i64 (8 * (i : Int)), .int .i64 0, .int .i64 0, .int .i64 0, .int .i64 0, .bool false, .int .u64 0, .int .u64 0, .int .u64 0, .int .u64 0, .int .u64 0]) ∧ Below w.heap.size w w') := Lib.hid fun w => rootof_at HOK.out hlt2 w
      obtain ⟨z, hz⟩ : ∃ z, s.k3 i = z := ⟨_, rfl⟩
      rw [hz] at heq
      have HZ := Lib.hid hz
      generalize thAt s.th v = t at hT heq
      obtain ⟨ty, bits, base, size, used, frm, badge, full, word, d0, d1, d2, d3⟩ := t
      obtain ⟨t0, t1, t2, t3, t4, t5, t6, t7, t8, t9, t10, t11, t12⟩ := hT
      unfold Tng.val at heq
      simp only at t0 t1 t2 t3 t4 t5 t6 t7 t8 t9 t10 t11 t12 heq
      have htb3 : tb < wr.heap.size := Nat.lt_of_lt_of_le htb old.size
      have ew : wrap64 (2 + (i : Int)) = (v : Int) := by rw [w64_in (by omega) (by omega)]; omega
      have ew2 : IntKind.i64.wrap (2 + (i : Int)) = (v : Int) := by rw [wrap_in (by omega) (by omega)]; omega
      have him : (v : Int) < (m : Int) := by omega
      clear hv hc htb hz hP old
      go_wp2_with fail
      refine wp_region_held_drew (S := (fun w' => w'.cell? ⟨g, 0, none⟩ = some (.int .i64 (T : Int)) ∧ w'.cell? ⟨g, 1, none⟩ = some (.int .i64 b) ∧ w'.cell? ⟨g, 2, none⟩ = some (.int .i64 c) ∧ w'.cell? ⟨g, 4, none⟩ = some (.slice (some ⟨tb, tp, none⟩) m cc) ∧ w'.cell? ⟨tb, tp + v * 13, none⟩ = some (.int .i64 ty) ∧ w'.cell? ⟨tb, tp + v * 13 + 1, none⟩ = some (.int .i64 bits) ∧ w'.cell? ⟨tb, tp + v * 13 + 2, none⟩ = some (.int .i64 base) ∧ w'.cell? ⟨tb, tp + v * 13 + 3, none⟩ = some (.int .i64 size) ∧ w'.cell? ⟨tb, tp + v * 13 + 4, none⟩ = some (.int .i64 used) ∧ w'.cell? ⟨tb, tp + v * 13 + 5, none⟩ = some (.int .i64 frm) ∧ w'.cell? ⟨tb, tp + v * 13 + 6, none⟩ = some (.int .i64 badge) ∧ w'.cell? ⟨tb, tp + v * 13 + 7, none⟩ = some (.bool full) ∧ w'.cell? ⟨tb, tp + v * 13 + 8, none⟩ = some (.int .u64 (word : Int)) ∧ w'.cell? ⟨tb, tp + v * 13 + 9, none⟩ = some (.int .u64 (d0 : Int)) ∧ w'.cell? ⟨tb, tp + v * 13 + 10, none⟩ = some (.int .u64 (d1 : Int)) ∧ w'.cell? ⟨tb, tp + v * 13 + 11, none⟩ = some (.int .u64 (d2 : Int)) ∧ w'.cell? ⟨tb, tp + v * 13 + 12, none⟩ = some (.int .u64 (d3 : Int)) ∧ Below wr.heap.size wr w')) (by kernel_rfl) ⟨b0, b1, b2, c4, t0, t1, t2, t3, t4, t5, t6, t7, t8, t9, t10, t11, t12, (below_self wr).drew⟩ (fun hHeld => ?_)
      refine wpAnyH_take (i := 0) (v := ?_) rfl (by kernel_rfl) (by kernel_rfl) (by kernel_rfl) (fun _ _ _ h => h) (Or.inl ⟨by rfl, ?_⟩) (by assumption) ?_
      rotate_left
      · intro w hSw; go_split_ands; go_simp; try with_reducible rfl
      simp only [Act.put, List.setIfInBounds_toArray, List.set_cons_zero, List.set_cons_succ, List.getElem_toArray, List.getElem_cons_zero]
      refine wpAnyH_take (i := 1) (v := ?_) rfl (by kernel_rfl) (by kernel_rfl) (by kernel_rfl) (fun _ _ _ h => h) (Or.inl ⟨by rfl, ?_⟩) (by assumption) ?_
      rotate_left
      · intro w hSw; go_split_ands; go_simp; try with_reducible rfl
      simp only [Act.put, List.setIfInBounds_toArray, List.set_cons_zero, List.set_cons_succ, List.getElem_toArray, List.getElem_cons_zero, List.getElem_cons_succ]
      refine wpAnyH_take (i := 2) (v := ?_) rfl (by kernel_rfl) (by kernel_rfl) (by kernel_rfl) (fun _ _ _ h => h) (Or.inl ⟨by rfl, ?_⟩) (by assumption) ?_
      rotate_left
      · intro w hSw; go_split_ands; go_simp; try with_reducible rfl
      simp only [Act.put, List.setIfInBounds_toArray, List.set_cons_zero, List.set_cons_succ, List.getElem_toArray, List.getElem_cons_zero, List.getElem_cons_succ]
      refine wpAnyH_take (i := 3) (v := ?_) rfl (by kernel_rfl) (by kernel_rfl) (by kernel_rfl) (fun _ _ _ h => h) (Or.inl ⟨by rfl, ?_⟩) (by assumption) ?_
      rotate_left
      · intro w hSw; go_split_ands; go_simp; try with_reducible rfl
      simp only [Act.put, List.setIfInBounds_toArray, List.set_cons_zero, List.set_cons_succ, List.getElem_toArray, List.getElem_cons_zero, List.getElem_cons_succ]
      refine wpAnyH_take (i := 4) (v := ?_) rfl (by kernel_rfl) (by kernel_rfl) (by kernel_rfl) (fun _ _ _ h => h) (Or.inl ⟨by rfl, ?_⟩) (by assumption) ?_
      rotate_left
      · intro w hSw; go_split_ands; go_simp; try with_reducible rfl
      simp only [Act.put, List.setIfInBounds_toArray, List.set_cons_zero, List.set_cons_succ, List.getElem_toArray, List.getElem_cons_zero, List.getElem_cons_succ]
      refine wpAnyH_take (i := 5) (v := ?_) rfl (by kernel_rfl) (by kernel_rfl) (by kernel_rfl) (fun _ _ _ h => h) (Or.inl ⟨by rfl, ?_⟩) (by assumption) ?_
      rotate_left
      · intro w hSw; go_split_ands; go_simp; try with_reducible rfl
      simp only [Act.put, List.setIfInBounds_toArray, List.set_cons_zero, List.set_cons_succ, List.getElem_toArray, List.getElem_cons_zero, List.getElem_cons_succ]
      refine wpAnyH_take (i := 6) (v := ?_) rfl (by kernel_rfl) (by kernel_rfl) (by kernel_rfl) (fun _ _ _ h => h) (Or.inl ⟨by rfl, ?_⟩) (by assumption) ?_
      rotate_left
      · intro w hSw; go_split_ands; go_simp; try with_reducible rfl
      simp only [Act.put, List.setIfInBounds_toArray, List.set_cons_zero, List.set_cons_succ, List.getElem_toArray, List.getElem_cons_zero, List.getElem_cons_succ]
      refine wpAnyH_take (i := 7) (v := ?_) rfl (by kernel_rfl) (by kernel_rfl) (by kernel_rfl) (fun _ _ _ h => h) (Or.inl ⟨by rfl, ?_⟩) (by assumption) ?_
      rotate_left
      · intro w hSw; go_split_ands; go_simp; try with_reducible rfl
      simp only [Act.put, List.setIfInBounds_toArray, List.set_cons_zero, List.set_cons_succ, List.getElem_toArray, List.getElem_cons_zero, List.getElem_cons_succ]
      refine wpAnyH_take (i := 8) (v := ?_) rfl (by kernel_rfl) (by kernel_rfl) (by kernel_rfl) (fun _ _ _ h => h) (Or.inl ⟨by rfl, ?_⟩) (by assumption) ?_
      rotate_left
      · intro w hSw; go_split_ands; go_simp; try with_reducible rfl
      simp only [Act.put, List.setIfInBounds_toArray, List.set_cons_zero, List.set_cons_succ, List.getElem_toArray, List.getElem_cons_zero, List.getElem_cons_succ]
      refine wpAnyH_ready (rs := [9]) (by kernel_rfl) (by simp) ?_
      refine AllReadyH.cons rfl (fun K hK => ?_) AllReadyH.nil
      go_simp
      refine (HRT.out _).mono ?_
      rintro e w' ⟨rfl, hb⟩
      have zb := below_on (below_self wr).drew hb
      refine hK.out _ _ ⟨(zb.cell (p := ⟨g, 0, none⟩) lt).trans b0, (zb.cell (p := ⟨g, 1, none⟩) lt).trans b1, (zb.cell (p := ⟨g, 2, none⟩) lt).trans b2, (zb.cell (p := ⟨g, 4, none⟩) lt).trans c4, (zb.cell (p := ⟨tb, tp + v * 13, none⟩) htb3).trans t0, (zb.cell (p := ⟨tb, tp + v * 13 + 1, none⟩) htb3).trans t1, (zb.cell (p := ⟨tb, tp + v * 13 + 2, none⟩) htb3).trans t2, (zb.cell (p := ⟨tb, tp + v * 13 + 3, none⟩) htb3).trans t3, (zb.cell (p := ⟨tb, tp + v * 13 + 4, none⟩) htb3).trans t4, (zb.cell (p := ⟨tb, tp + v * 13 + 5, none⟩) htb3).trans t5, (zb.cell (p := ⟨tb, tp + v * 13 + 6, none⟩) htb3).trans t6, (zb.cell (p := ⟨tb, tp + v * 13 + 7, none⟩) htb3).trans t7, (zb.cell (p := ⟨tb, tp + v * 13 + 8, none⟩) htb3).trans t8, (zb.cell (p := ⟨tb, tp + v * 13 + 9, none⟩) htb3).trans t9, (zb.cell (p := ⟨tb, tp + v * 13 + 10, none⟩) htb3).trans t10, (zb.cell (p := ⟨tb, tp + v * 13 + 11, none⟩) htb3).trans t11, (zb.cell (p := ⟨tb, tp + v * 13 + 12, none⟩) htb3).trans t12, zb⟩ (fun hHeld => ?_)
      clear hK K
      try simp only [Act.put, List.setIfInBounds_toArray, List.set_cons_zero, List.set_cons_succ]
      refine wpAnyH_take (i := 10) (v := ?_) rfl (by kernel_rfl) (by kernel_rfl) (by kernel_rfl) (fun _ _ _ h => h) (Or.inl ⟨by rfl, ?_⟩) (by assumption) ?_
      rotate_left
      · intro w hSw; go_split_ands; go_simp; try with_reducible rfl
      simp only [Act.put, List.setIfInBounds_toArray, List.set_cons_zero, List.set_cons_succ, List.getElem_toArray, List.getElem_cons_zero, List.getElem_cons_succ]
      refine wpAnyH_done (by kernel_rfl) ?_ _
      have HB4 := Lib.hid (HB.out.on zb)
      clear zb hb b0 b1 b2 c3 c4 lt t0 t1 t2 t3 t4 t5 t6 t7 t8 t9 t10 t11 t12 htb3 heq HB
      rcases z with _ | _
      · have HF : Hid (r = false) := Lib.hid (by rw [← HR.out, all_no HLT.out HZ.out])
        go_wp2
        go_ret
        exact ⟨by rw [HF.out]; rfl, HB4.out.old⟩
      · go_wp2
        go_roundg (T - (i + 1))
        case measure => have := HI.out; have := HLT.out; omega
        case rel =>
          refine ⟨i + 1, by have := HI.out; have := HLT.out; omega, by go_num, fun k hk => ?_, HB4.out⟩
          by_cases e : k = i
          · subst e; exact HZ.out
          · exact HA.out k (by omega)
    · have hlt2 : ¬ (i : Int) < (T : Int) := by omega
      have HF : Hid (r = true) := Lib.hid (by rw [← HR.out]; exact all_yes fun k hk => HA.out k (by have := HI.out; omega))
      go_wp2
      go_ret
      exact ⟨by rw [HF.out]; rfl, HB.out.old⟩
end Go.Proofs.YtkpbfbmkolgmgaaGreat
