/-
  The walks of package nvm's Swap, Fence, Crash, Fuse, New: what each answers, what becomes of the memory. Conditions: fewer counted than 2 to the 62; lists shorter than a million.
-/
import Derived.Test.YtehfkibpcdcddaaNe
namespace Go.Proofs.Ytehfkibpcdcddaa
open Go.RowKit

def Mm.swap (m : Mm) (i o v : Int) : (Bool × Int) × Mm :=
  if (m.load i).2 = 0 ∧ (m.load i).1 = o then (((m.store i v).1 == 0, (m.store i v).1), (m.store i v).2) else ((false, (m.load i).2), m)

set_option maxHeartbeats 1000000 in
theorem mswap_any (b rb F : Nat) (m : Mm) (i o v : Int) (w : World) (h : MAt w b rb F m) (n0 : 0 ≤ m.n) (n1 : m.n < 4611686018427387904) :
    Calls Try.prog 11 #[.pointer (some ⟨b, 0, none⟩), .int .i64 i, .int .u64 o, .int .u64 v] w fun e w' => e = .returned (.tuple #[.bool (m.swap i o v).1.1, .int .i64 (m.swap i o v).1.2]) ∧ MAt w' b rb F (m.swap i o v).2 ∧ Own b rb w w' := by
  have HM := Lib.hid h
  have N0 := Lib.hid n0
  have N1 := Lib.hid n1
  clear h n0 n1
  obtain ⟨x, hx⟩ : ∃ x, (m.load i).1 = x := ⟨_, rfl⟩
  obtain ⟨y, hy⟩ : ∃ y, (m.load i).2 = y := ⟨_, rfl⟩
  have HX := Lib.hid hx
  have HY := Lib.hid hy
  by_cases e1 : y = 0
  · subst e1
    by_cases e2 : x = o
    · subst e2
      have hs : m.swap i x v = (((m.store i v).1 == 0, (m.store i v).1), (m.store i v).2) := by unfold Mm.swap; rw [if_pos ⟨hy, hx⟩]
      rw [hs]
      clear hs hx hy
      obtain ⟨z, hz⟩ : ∃ z, (m.store i v).1 = z := ⟨_, rfl⟩
      have HZ := Lib.hid hz
      rw [hz]
      clear hz
      go_enter Try.func11, Try.ntmps11
      go_wp2_with (first
        | (go_at_call 20; refine (mload_any b rb F m i _ HM.out).mono ?_; rw [HX.out, HY.out]; rintro e w' ⟨rfl, rfl⟩)
        | (go_at_call 12; refine (mstore_any b rb F m i v _ HM.out N0.out N1.out).mono ?_; rw [HZ.out]; rintro e w' ⟨rfl, hm, ho⟩; have HM2 := Lib.hid hm; have HO := Lib.hid ho; clear hm ho))
      go_ret2
      exact ⟨rfl, HM2.out, HO.out⟩
    · have hs : m.swap i o v = ((false, 0), m) := by unfold Mm.swap; rw [if_neg (by rw [hx]; exact fun h => e2 h.2), hy]
      rw [hs]
      have hd : (x == o) = false := by simpa using e2
      clear hs hx hy e2
      go_enter Try.func11, Try.ntmps11
      go_wp2_with (first
        | (go_at_call 20; refine (mload_any b rb F m i _ HM.out).mono ?_; rw [HX.out, HY.out]; rintro e w' ⟨rfl, rfl⟩))
      go_ret2
      exact ⟨rfl, HM.out, Own.refl _ _ _⟩
  · have hs : m.swap i o v = ((false, y), m) := by unfold Mm.swap; rw [if_neg (by rw [hy]; exact fun h => e1 h.1), hy]
    rw [hs]
    have hd : (y == 0) = false := by simpa using e1
    clear hs hx hy e1
    go_enter Try.func11, Try.ntmps11
    go_wp2_with (first
      | (go_at_call 20; refine (mload_any b rb F m i _ HM.out).mono ?_; rw [HX.out, HY.out]; rintro e w' ⟨rfl, rfl⟩))
    go_ret2
    exact ⟨rfl, HM.out, Own.refl _ _ _⟩

/-- all lines are fenced -/
def Mm.fences (m : Mm) : Mm := { m with rows := m.rows.mapIdx fun _ r => r.fence }
def Mm.fence (m : Mm) : Int × Mm := if (m.begin true).1 = 0 then (0, (m.begin true).2.fences) else m.begin true

def TurnRel (W : World) (b rb F : Nat) (m : Mm) (g : Nat → Ln → Ln) (k : Nat) (p : Value) (wr : World) : Prop :=
  ∃ i : Nat, k + i = m.rows.length ∧ p = .int .i64 i ∧ MAt wr b rb F { m with rows := part g m.rows i } ∧ Own b rb W wr

set_option maxHeartbeats 1000000 in
theorem mfence_any (b rb F : Nat) (m : Mm) (w : World) (h : MAt w b rb F m) (n0 : 0 ≤ m.n) (n1 : m.n < 4611686018427387904) :
    Calls Try.prog 29 #[.pointer (some ⟨b, 0, none⟩)] w fun e w' => e = .returned (.int .i64 m.fence.1) ∧ MAt w' b rb F m.fence.2 ∧ Own b rb w w' := by
  have HM := Lib.hid h
  have N0 := Lib.hid n0
  have N1 := Lib.hid n1
  rcases begin_cases m true with ⟨x, hx, hx0⟩ | ⟨hx, ht, hoff, hrow⟩
  · have hl : m.fence = m.begin true := by unfold Mm.fence; rw [if_neg (by rw [hx]; simpa using hx0)]
    rw [hl, hx]
    have HX := Lib.hid hx
    clear h hx hl n0 n1
    go_enter Try.func29, Try.ntmps29
    go_wp2_with (first
      | (go_at_call 40; refine (begin_any b rb F m _ _ HM.out N0.out N1.out).mono ?_; rw [HX.out]; rintro e w' ⟨rfl, hm, ho⟩; have HM2 := Lib.hid hm; have HO := Lib.hid ho; clear hm ho))
    go_ret
    exact ⟨rfl, HM2.out, HO.out⟩
  · have hl : m.fence = (0, (m.begin true).2.fences) := by unfold Mm.fence; rw [if_pos hx]
    rw [hl]
    have HX := Lib.hid hx
    obtain ⟨m2, hm2⟩ : ∃ m2, (m.begin true).2 = m2 := ⟨_, rfl⟩
    rw [hm2]
    have HM2 := Lib.hid hm2
    clear h hx hl n0 n1 ht hoff hrow hm2
    go_enter Try.func29, Try.ntmps29
    go_wp2_with fail
    refine (begin_any b rb F m _ _ HM.out N0.out N1.out).mono ?_
    rw [HX.out, HM2.out]
    clear HM2
    rintro e w1 ⟨rfl, hm, ho⟩
    have c0 := hm.c0
    have hf := hm.few
    have HM2 := Lib.hid hm
    have HO := Lib.hid ho
    clear hm ho HX HM N0 N1
    obtain ⟨n, hn⟩ : ∃ n, n = m2.rows.length := ⟨_, rfl⟩
    rw [← hn] at c0 hf
    have HN := Lib.hid hn
    clear hn
    go_wp2_with fail
    go_loopg [15] n (fun k p wr => TurnRel w b rb F m2 (fun _ r => r.fence) k p wr)
    case atStart => exact ⟨0, HN.out, rfl, by rw [part_zero]; exact HM2.out, HO.out⟩
    case round =>
      obtain ⟨i, hk, rfl, hm, ho⟩ := hrel
      have HG := Lib.hid hk
      have HMW := Lib.hid hm
      have HO2 := Lib.hid ho
      clear hk hm ho c0
      by_cases hlt : i < n
      · have HLT := Lib.hid hlt
        have hlt2 : (i : Int) < (n : Int) := by omega
        obtain ⟨r, hr⟩ : ∃ r, m2.rows[i]? = some r := ⟨m2.rows[i]'(by rw [← HN.out]; exact hlt), List.getElem?_eq_getElem _⟩
        have HR := Lib.hid hr
        have HA := Lib.hid (HMW.out.rows i r (by rw [part_get]; exact hr))
        have c0 := HMW.out.c0
        simp only [part_length] at c0
        rw [← HN.out] at c0
        clear hr
        go_wp2_with (go_at_call 52; refine (fence_any rb (i * 18) r _ HA.out).mono ?_; rintro e w' ⟨rfl, ht⟩; have HT := Lib.hid ht; clear ht)
        go_roundg (n - (i + 1))
        case measure => have := HG.out; have := HN.out; have := HLT.out; omega
        case rel =>
          have hrow := HMW.out.row HT.out
          rw [part_succ (fun _ r => r.fence) _ _ _ HR.out] at hrow
          exact ⟨i + 1, by have := HN.out; have := HLT.out; omega, by go_num, hrow, HO2.out.trans (Own.fr2 HT.out.fr)⟩
      · have hi : i = n := by have := HG.out; have := HN.out; omega
        subst hi
        go_wp2
        go_ret
        refine ⟨rfl, ?_, HO2.out⟩
        have := HMW.out
        rw [part_all _ _ _ (by rw [← HN.out]; omega)] at this
        exact this

/-- behind a fall of the power -/
def Mm.crash (m : Mm) (l : List Int) : Mm := if m.off = true then m else m.down fun k => decide ((k : Int) ∈ l)

set_option maxHeartbeats 1000000 in
theorem mcrash_any (b rb F : Nat) (m : Mm) (A : Option Addr) (cap : Nat) (l : List Int) (w : World) (h : MAt w b rb F m) (hl : l.length ≤ 1000000) (hL : IntsAt w w.heap.size A l) :
    Calls Try.prog 19 #[.pointer (some ⟨b, 0, none⟩), .slice A l.length cap] w fun e w' => e = .returned (.tuple #[]) ∧ MAt w' b rb F (m.crash l) ∧ Own b rb w w' := by
  have c1 := h.c1
  have HM := Lib.hid h
  have LL := Lib.hid hL
  have HL := Lib.hid hl
  obtain ⟨of, ho⟩ : ∃ of, m.off = of := ⟨_, rfl⟩
  have hc : m.crash l = if of = true then m else m.down fun k => decide ((k : Int) ∈ l) := by unfold Mm.crash; rw [ho]
  rw [hc]
  rw [ho] at c1
  clear h hL hl ho hc
  cases of
  · go_enter Try.func19, Try.ntmps19
    go_wp2_with (first
      | (go_at_call 44
         refine (marks_any b rb F m A cap l _ HM.out HL.out LL.out).mono ?_
         rintro e w1 ⟨rfl, h1, h2, h3⟩
         have HM1 := Lib.hid (HM.out.below h3)
         have HK := Lib.hid h2
         have HS := Lib.hid h1
         have HB := Lib.hid h3
         clear h1 h2 h3)
      | (go_at_call 45
         refine (down_any b rb F w.heap.size m _ _ HM1.out HK.out (by have := HM.out.lt; omega) (by have := HM.out.rlt; omega) HS.out).mono ?_
         rintro e w2 ⟨rfl, hm, ho⟩
         have HM2 := Lib.hid hm
         have HO := Lib.hid ho
         clear hm ho))
    go_end0
    exact ⟨rfl, HM2.out, (Own.of_below HB.out).trans HO.out⟩
  · go_enter Try.func19, Try.ntmps19
    go_wp2
    go_end0
    exact ⟨rfl, HM.out, Own.refl _ _ _⟩
/-- a fuse is laid -/
def Mm.light (m : Mm) (c : Int) (l : List Int) : Mm :=
  if m.off = true then m else if 1 ≤ c then { m with calls := c, kept := fun k => decide ((k : Int) ∈ l) } else { m with calls := 0, kept := fun _ => false }

theorem lit {w w' : World} {b rb F : Nat} {m : Mm} (h : MAt w b rb F m) (c : Int) (k : Nat → Bool) (x : Value) (h0 : 0 ≤ c) (h1 : c ≤ 9223372036854775807) (hz : Fuz w F m.rows.length c k x)
    (hw : w' = w.setCells b 3 [.int .i64 c, x]) : MAt w' b rb F { m with calls := c, kept := k } ∧ Own b rb w w' := by
  have f3 : Fr w w' b 1 4 := by rw [hw]; exact Fr.sets _ _ _ (by omega) (by simp)
  obtain ⟨v4, h4, _⟩ := h.c4
  have q : ∀ q, q < [Value.int .i64 c, x].length → (w.cell? ⟨b, 3 + q, none⟩).isSome = true := fun q hq => by
    match q, hq with
    | 0, _ => rw [h.c3]; rfl
    | 1, _ => rw [h4]; rfl
  have e3 := World.cell?_setCells_in b [Value.int .i64 c, x] 3 w q 0 (by simp)
  have e4 := World.cell?_setCells_in b [Value.int .i64 c, x] 3 w q 1 (by simp)
  have o : ∀ j, j < 3 → w'.cell? ⟨b, j, none⟩ = w.cell? ⟨b, j, none⟩ := fun j hj => by
    rw [hw, World.cell?_setCells_out b _ _ _ ⟨b, j, none⟩ (fun _ _ => by show j < _ ∨ _ ≤ j; omega)]
  exact ⟨h.cells_ f3 rfl (Nat.le_refl _) ⟨h0, h1⟩ (by rw [o 1 (by omega)]; exact h.c1) (by rw [o 2 (by omega)]; exact h.c2) (by rw [hw]; exact e3) ⟨_, by rw [hw]; exact e4, hz⟩, Own.fr f3⟩

set_option maxHeartbeats 1000000 in
theorem mfuse_any (b rb F B : Nat) (m : Mm) (c : Int) (A : Option Addr) (cap : Nat) (l : List Int) (w : World) (h : MAt w b rb F m) (hc : c ≤ 9223372036854775807) (hl : l.length ≤ 1000000) (hL : IntsAt w B A l) (hB : B ≤ b) (hR : B ≤ rb) :
    Calls Try.prog 15 #[.pointer (some ⟨b, 0, none⟩), .int .i64 c, .slice A l.length cap] w fun e w' => e = .returned (.tuple #[]) ∧ MAt w' b rb F (m.light c l) ∧ Own b rb w w' := by
  have c1 := h.c1
  have c3 := h.c3
  obtain ⟨v4, c4, _⟩ := h.c4
  have f3 := h.free 3 (by omega)
  have f4 := h.free 4 (by omega)
  have HM := Lib.hid h
  have HL := Lib.hid hl
  have hz := lit h 0 (fun _ => false) (.slice none 0 0) (Int.le_refl _) (by omega) (fun h0 => absurd h0 (by omega)) rfl
  have HZ := Lib.hid hz.1
  have HO := Lib.hid hz.2
  have hI := (hL.below (hz.2.below hB hR (by have := h.lt; omega))).mono (B' := (w.setCells b 3 [Value.int IntKind.i64 0, Value.slice none 0 0]).heap.size) (by have := hz.2.size; have := h.lt; omega)
  have HI := Lib.hid hI
  clear hI
  obtain ⟨of, ho⟩ : ∃ of, m.off = of := ⟨_, rfl⟩
  have hd : m.light c l = if of = true then m else if 1 ≤ c then { m with calls := c, kept := fun k => decide ((k : Int) ∈ l) } else { m with calls := 0, kept := fun _ => false } := by unfold Mm.light; rw [ho]
  rw [hd]
  rw [ho] at c1
  clear h hL hl ho hd hz
  cases of
  · by_cases hc1 : 1 ≤ c
    · have HC := Lib.hid hc
      have HC1 := Lib.hid hc1
      rw [if_neg (by simp), if_pos hc1]
      go_enter Try.func15, Try.ntmps15
      go_wp2_with fail
      refine (marks_any b rb F _ A cap l _ HZ.out HL.out HI.out).mono ?_
      rintro e w2 ⟨rfl, h1, h2, h3⟩
      have hm2 := HZ.out.below h3
      have hown := HO.out.trans (Own.of_below (b := b) (rb := rb) h3)
      have hF : F ≤ (w.setCells b 3 [Value.int IntKind.i64 0, Value.slice none 0 0]).heap.size := HZ.out.sz
      generalize (w.setCells b 3 [Value.int IntKind.i64 0, Value.slice none 0 0]).heap.size = kb at h1 h2 hF ⊢
      have hz2 := lit hm2 c (fun k => decide ((k : Int) ∈ l)) (.slice (some ⟨kb, 0, none⟩) m.rows.length m.rows.length) (by omega) hc (fun _ => ⟨kb, rfl, hF, h1, h2⟩) rfl
      have c3 := hm2.c3
      obtain ⟨v5, c4, _⟩ := hm2.c4
      have f3 := hm2.free 3 (by omega)
      have f4 := hm2.free 4 (by omega)
      have HM3 := Lib.hid hz2.1
      have HO3 := Lib.hid (hown.trans hz2.2)
      clear hz2 hm2 hown h1 h2 h3 hF HZ HO
      simp only at c3
      go_wp2
      go_end0
      exact ⟨rfl, HM3.out, HO3.out⟩
    · rw [if_neg (by simp), if_neg hc1]
      have hc2 : c < 1 := by omega
      go_enter Try.func15, Try.ntmps15
      go_wp2
      go_end0
      exact ⟨rfl, HZ.out, HO.out⟩
  · go_enter Try.func15, Try.ntmps15
    go_wp2
    refine bodyPost_ret (results_none rfl _ _ _) rfl ?_
    exact ⟨rfl, HM.out, Own.refl _ _ _⟩

def zeros : List Int := [0, 0, 0, 0, 0, 0, 0, 0]
def blank : Ln := ⟨zeros, zeros, false, false⟩
def fresh (n : Nat) : Mm := ⟨List.replicate n blank, false, 0, 0, fun _ => false⟩

theorem info68_all : (Try.prog.info? 68).map (fun i => (i.zero, i.size, i.bytes)) = some (some (.agg blank.cells.toArray), 18, 136) := by kernel_rfl
theorem info68_parts : ∃ i : TypeInfo, Try.prog.info? 68 = some i ∧ i.zero = some (.agg blank.cells.toArray) ∧ i.size = 18 ∧ i.bytes = 136 := by
  have h := info68_all
  cases hq : Try.prog.info? 68 with
  | none => simp [hq] at h
  | some i =>
    simp [hq] at h
    exact ⟨i, rfl, h.1, h.2.1, h.2.2⟩
theorem make_rows (n : Nat) (hn : n ≤ 4096) (w : World) : (Instr.makeSlice 61 (.int .i64 (n : Int)) (.int .i64 (n : Int))).run Try.prog w = .ok (.slice (some ⟨w.heap.size, 0, none⟩) n n) (w.alloc (.cells (madeCells blank.cells.toArray (n * 18)) 68)) := by
  obtain ⟨i, h1, h2, h3, h4⟩ := info68_parts
  have := run_make w 61 68 i (.agg blank.cells.toArray) Try.underlying61 h1 h2 .i64 .i64 n n (by omega) (by omega) (by rw [h4]; omega) (by omega)
  rw [h3] at this
  simpa [Value.cells] using this

theorem made_rows (w : World) (n t : Nat) : Rws (w.alloc (.cells (madeCells blank.cells.toArray (n * 18)) t)) w.heap.size (List.replicate n blank) := fun i r hr => by
  have hi : i < n := by have := (List.getElem?_eq_some_iff.1 hr).1; simpa using this
  rw [List.getElem?_replicate, if_pos hi] at hr
  injection hr with hr
  subst hr
  have hok : blank.ok := ⟨rfl, rfl⟩
  have hc : ∀ j, j < 18 → (w.alloc (.cells (madeCells blank.cells.toArray (n * 18)) t)).cell? ⟨w.heap.size, i * 18 + j, none⟩ = blank.cells[j]? := fun j hj => by
    rw [made_cell _ _ _ _ _ (by omega)]
    have h18 : blank.cells.toArray.size = 18 := by rw [List.size_toArray, Ln.cells_length hok]
    rw [h18, show (i * 18 + j) % 18 = j by omega, List.getElem!_toArray, List.getElem?_eq_getElem (by rw [Ln.cells_length hok]; exact hj), getElem!_pos _ _ (by rw [Ln.cells_length hok]; exact hj)]
  refine ⟨hok, fun j v hv => ?_, fun j hj => ⟨?_, made_free _ _ _ _ _⟩⟩
  · have hj : j < 18 := by have := (List.getElem?_eq_some_iff.1 hv).1; rwa [Ln.cells_length hok] at this
    rw [hc j hj]; exact hv
  · rw [hc j hj, List.getElem?_eq_getElem (by rw [Ln.cells_length hok]; exact hj)]; rfl

theorem fresh_at (w : World) (n : Nat) (h1 : 1 ≤ n) (h2 : n ≤ 4096) (W : World)
    (hW : W = (w.alloc (.cells (madeCells blank.cells.toArray (n * 18)) 68)).alloc (.cells #[.slice (some ⟨w.heap.size, 0, none⟩) n n, .bool false, .int .i64 0, .int .i64 0, .slice none 0 0] 66)) :
    MAt W (w.heap.size + 1) w.heap.size (w.heap.size + 2) (fresh n) ∧ W.heap.size = w.heap.size + 2 ∧ Below w.heap.size w W := by
  have e := heap_alloc_new (w.alloc (.cells (madeCells blank.cells.toArray (n * 18)) 68)) (.cells #[.slice (some ⟨w.heap.size, 0, none⟩) n n, .bool false, .int .i64 0, .int .i64 0, .slice none 0 0] 66)
  rw [← hW, World.size_alloc] at e
  have hr : Rws W w.heap.size (List.replicate n blank) := (made_rows w n 68).keep (by rw [hW]; exact Below.heap_alloc _ _ _ (by simp))
  have hs : W.heap.size = w.heap.size + 2 := by rw [hW, World.size_alloc, World.size_alloc]
  refine ⟨⟨hr, by simp [fresh]; omega, by simpa [fresh] using h2, ?_, ?_, ?_, ?_, ⟨.slice none 0 0, ?_, fun h0 => absurd h0 (by simp [fresh])⟩, fun j _ => frozen_of_row _ _ j _ _ e, by omega, by omega, by omega, by omega, by simp [fresh]⟩, hs, ?_⟩
  · rw [cell_of_row _ _ 0 _ _ _ e]; simp [fresh]
  · rw [cell_of_row _ _ 1 _ _ _ e]; simp [fresh]
  · rw [cell_of_row _ _ 2 _ _ _ e]; simp [fresh]
  · rw [cell_of_row _ _ 3 _ _ _ e]; simp [fresh]
  · rw [cell_of_row _ _ 4 _ _ _ e]; simp
  · rw [hW]; exact ((Below.refl _ _).alloc (Nat.le_refl _) _).alloc (by simp) _

theorem new_any (n : Nat) (h1 : 1 ≤ n) (h2 : n ≤ 4096) (w : World) :
    Calls Try.prog 9 #[.int .i64 n] w fun e w' => e = .returned (.tuple #[.pointer (some ⟨w.heap.size + 1, 0, none⟩), .int .i64 0]) ∧ MAt w' (w.heap.size + 1) w.heap.size (w.heap.size + 2) (fresh n) ∧ w'.heap.size = w.heap.size + 2 ∧ Below w.heap.size w w' := by
  have hmk := make_rows n h2
  have HF := Lib.hid (fresh_at w n h1 h2 _ rfl)
  have g1 : ¬ (n : Int) < 1 := by omega
  have g2 : ¬ (4096 : Int) < n := by omega
  clear h1 h2
  go_enter Try.func9, Try.ntmps9
  go_wp2
  go_ret2
  exact ⟨by simp, HF.out⟩
theorem new_no (n : Int) (h : n < 1 ∨ 4096 < n) (w : World) :
    Calls Try.prog 9 #[.int .i64 n] w fun e w' => e = .returned (.tuple #[.pointer none, .int .i64 1]) ∧ w = w' := by
  rcases h with h | h
  · go_enter Try.func9, Try.ntmps9
    go_wp2
    go_ret2
    exact ⟨rfl, rfl⟩
  · have g : ¬ n < 1 := by omega
    go_enter Try.func9, Try.ntmps9
    go_wp2
    go_ret2
    exact ⟨rfl, rfl⟩
end Go.Proofs.Ytehfkibpcdcddaa
