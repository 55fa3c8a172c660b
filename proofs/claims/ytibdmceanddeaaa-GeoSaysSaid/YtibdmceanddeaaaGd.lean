/-
  The walk of the law GeoKnown: it answers true. No condition.
-/
import Derived.Test.YtibdmceanddeaaaGc
namespace Go.Proofs.Ytibdmceanddeaaa
open Go.RowKit

def bads : List Gd := [⟨0, 0, 0⟩, ⟨5, 96, 48⟩, ⟨1, 12, 8⟩, ⟨2, 8, 8⟩, ⟨1, 104, 8⟩, ⟨1, 8, 2⟩, ⟨1, 8, 49⟩]
theorem bads_no : ∀ g ∈ bads, g.ok = false := by decide
def bcells : Array Value := #[.int .i64 0, .int .i64 0, .int .i64 0, .int .i64 5, .int .i64 96, .int .i64 48, .int .i64 1, .int .i64 12, .int .i64 8, .int .i64 2, .int .i64 8, .int .i64 8,
  .int .i64 1, .int .i64 104, .int .i64 8, .int .i64 1, .int .i64 8, .int .i64 2, .int .i64 1, .int .i64 8, .int .i64 49]

theorem Gd.has_no {g : Gd} (h : g.ok = false) (n i : Int) : g.has n i = false := by unfold Gd.has; rw [h]; rfl
theorem Gd.desc_no {g : Gd} (h : g.ok = false) (i : Int) : g.desc i = 0 := by unfold Gd.desc; rw [Gd.has_no h]; rfl
theorem Gd.descs_no {g : Gd} (h : g.ok = false) (i : Int) : g.descs i = 0 := by unfold Gd.descs; rw [Gd.has_no h]; rfl
theorem Gd.slot_no {g : Gd} (h : g.ok = false) (i : Int) : g.slot i = 0 := by unfold Gd.slot; rw [Gd.has_no h]; rfl
theorem Gd.thing_no {g : Gd} (h : g.ok = false) (i : Int) : g.thing i = 0 := by unfold Gd.thing; rw [Gd.has_no h]; rfl
theorem Gd.root_no {g : Gd} (h : g.ok = false) (i : Int) : g.root i = 0 := by unfold Gd.root; rw [Gd.has_no h]; rfl
theorem Gd.rows_no {g : Gd} (h : g.ok = false) : g.rows = 0 := by unfold Gd.rows; rw [h]; rfl
theorem Gd.copy_no {g : Gd} (h : g.ok = false) : g.copy = 0 := by unfold Gd.copy; rw [h]; rfl
theorem Gd.lock_no {g : Gd} (h : g.ok = false) : g.lock = 0 := by unfold Gd.lock; rw [h]; rfl

/-- the list lies in block B; what was before stands -/
def Bads (w0 : World) (B : Nat) (w : World) : Prop :=
  (B < w.heap.size ∧ ∀ (i : Nat) (g : Gd), bads[i]? = some g → w.cell? ⟨B, i * 3, none⟩ = some (.int .i64 g.t) ∧ w.cell? ⟨B, i * 3 + 1, none⟩ = some (.int .i64 g.s) ∧ w.cell? ⟨B, i * 3 + 2, none⟩ = some (.int .i64 g.k)) ∧ Below w0.heap.size w0 w
theorem Bads.on {w0 w w' : World} {B : Nat} (h : Bads w0 B w) (hb : Below w.heap.size w w') : Bads w0 B w' :=
  ⟨⟨Nat.lt_of_lt_of_le h.1.1 hb.size, fun i g hg => by
    rw [hb.cell (p := ⟨B, _, none⟩) h.1.1, hb.cell (p := ⟨B, _, none⟩) h.1.1, hb.cell (p := ⟨B, _, none⟩) h.1.1]
    exact h.1.2 i g hg⟩, below_on h.2 hb⟩
theorem Bads.new {w0 w : World} (hb : Below w0.heap.size w0 w) : Bads w0 w.heap.size (w.alloc (.cells bcells 24)) := by
  have hg := heap_alloc_new w (.cells bcells 24)
  refine ⟨⟨by simp, fun i g hi => ?_⟩, below_on hb (below_alloc _ _)⟩
  rw [cell_of_row _ _ (i * 3) _ _ _ hg, cell_of_row _ _ (i * 3 + 1) _ _ _ hg, cell_of_row _ _ (i * 3 + 2) _ _ _ hg]
  match i, hi with
  | 0, hi => injection hi with hi; subst hi; exact ⟨rfl, rfl, rfl⟩
  | 1, hi => injection hi with hi; subst hi; exact ⟨rfl, rfl, rfl⟩
  | 2, hi => injection hi with hi; subst hi; exact ⟨rfl, rfl, rfl⟩
  | 3, hi => injection hi with hi; subst hi; exact ⟨rfl, rfl, rfl⟩
  | 4, hi => injection hi with hi; subst hi; exact ⟨rfl, rfl, rfl⟩
  | 5, hi => injection hi with hi; subst hi; exact ⟨rfl, rfl, rfl⟩
  | 6, hi => injection hi with hi; subst hi; exact ⟨rfl, rfl, rfl⟩
  | i + 7, hi => exact absurd hi (by simp [bads])

def KnownRel (W : World) (B : Nat) (k : Nat) (q : Value) (wr : World) : Prop := ∃ i : Nat, k + i = 7 ∧ q = .int .i64 i ∧ Bads W B wr

theorem n_desc {g : Gd} (h : g.ok = false) (w : World) : Calls Try.prog 7 #[.agg #[.int .i64 g.t, .int .i64 g.s, .int .i64 g.k], .int .i64 0] w fun e w' => e = .returned (.tuple #[.int .i64 0, .int .i64 0]) ∧ Below w.heap.size w w' := desc_to (Gd.desc_no h 0) (Gd.descs_no h 0) w
theorem n_rows {g : Gd} (h : g.ok = false) (w : World) : Calls Try.prog 9 #[.agg #[.int .i64 g.t, .int .i64 g.s, .int .i64 g.k]] w fun e w' => e = .returned (.int .i64 0) ∧ Below w.heap.size w w' := rows_to (Gd.rows_no h) w
theorem n_lock {g : Gd} (h : g.ok = false) (w : World) : Calls Try.prog 10 #[.agg #[.int .i64 g.t, .int .i64 g.s, .int .i64 g.k]] w fun e w' => e = .returned (.int .i64 0) ∧ Below w.heap.size w w' := lock_to (Gd.lock_no h) w
theorem n_slot {g : Gd} (h : g.ok = false) (w : World) : Calls Try.prog 11 #[.agg #[.int .i64 g.t, .int .i64 g.s, .int .i64 g.k], .int .i64 0] w fun e w' => e = .returned (.int .i64 0) ∧ Below w.heap.size w w' := slot_to (Gd.slot_no h 0) w
theorem n_thing {g : Gd} (h : g.ok = false) (w : World) : Calls Try.prog 12 #[.agg #[.int .i64 g.t, .int .i64 g.s, .int .i64 g.k], .int .i64 0] w fun e w' => e = .returned (.int .i64 0) ∧ Below w.heap.size w w' := thing_to (Gd.thing_no h 0) w
theorem n_copy {g : Gd} (h : g.ok = false) (w : World) : Calls Try.prog 13 #[.agg #[.int .i64 g.t, .int .i64 g.s, .int .i64 g.k]] w fun e w' => e = .returned (.int .i64 0) ∧ Below w.heap.size w w' := copy_to (Gd.copy_no h) w
theorem n_root {g : Gd} (h : g.ok = false) (w : World) : Calls Try.prog 14 #[.agg #[.int .i64 g.t, .int .i64 g.s, .int .i64 g.k], .int .i64 0] w fun e w' => e = .returned (.int .i64 0) ∧ Below w.heap.size w w' := root_to (Gd.root_no h 0) w

set_option maxRecDepth 100000 in
set_option maxHeartbeats 4000000 in
theorem known_walk (w : World) : Calls Try.prog 3 #[] w fun e w' => e = .returned (.bool true) ∧ Below w.heap.size w w' := by
  go_enter Try.func3, Try.ntmps3
  go_wp2_with fail
  refine (awake_any _).mono ?_
  rintro e w1 ⟨rfl, hb⟩
  have HB := Lib.hid (Bads.new hb)
  clear hb
  go_wp2_with fail
  go_loopg [2] 7 (fun k q wr => KnownRel w w1.heap.size k q wr)
  case atStart => exact ⟨0, by omega, rfl, HB.out⟩
  case round =>
    obtain ⟨i, hk, rfl, hb⟩ := hrel
    have HK := Lib.hid hk
    have HD := Lib.hid hb
    clear hk hb HB
    by_cases hlt : i < 7
    · have HLT := Lib.hid hlt
      have hlt2 : (i : Int) < 7 := by omega
      obtain ⟨g, hg⟩ : ∃ g, bads[i]? = some g := ⟨bads[i]'hlt, List.getElem?_eq_getElem _⟩
      have HN := Lib.hid (bads_no g (List.mem_of_getElem? hg))
      have HG := Lib.hid hg
      obtain ⟨c1, c2, c3⟩ := HD.out.1.2 i g hg
      clear hg
      go_wp2_with (first
        | (go_at_call 7; (with_reducible refine (n_desc HN.out _).mono ?_); rintro e w' ⟨rfl, hb⟩; replace HD := Lib.hid (HD.out.on hb); clear hb c1 c2 c3; obtain ⟨c1, c2, c3⟩ := HD.out.1.2 i g HG.out)
        | (go_at_call 8; (with_reducible refine (good_at HN.out _).mono ?_); rintro e w' ⟨rfl, hb⟩; replace HD := Lib.hid (HD.out.on hb); clear hb c1 c2 c3; obtain ⟨c1, c2, c3⟩ := HD.out.1.2 i g HG.out)
        | (go_at_call 9; (with_reducible refine (n_rows HN.out _).mono ?_); rintro e w' ⟨rfl, hb⟩; replace HD := Lib.hid (HD.out.on hb); clear hb c1 c2 c3; obtain ⟨c1, c2, c3⟩ := HD.out.1.2 i g HG.out)
        | (go_at_call 10; (with_reducible refine (n_lock HN.out _).mono ?_); rintro e w' ⟨rfl, hb⟩; replace HD := Lib.hid (HD.out.on hb); clear hb c1 c2 c3; obtain ⟨c1, c2, c3⟩ := HD.out.1.2 i g HG.out)
        | (go_at_call 11; (with_reducible refine (n_slot HN.out _).mono ?_); rintro e w' ⟨rfl, hb⟩; replace HD := Lib.hid (HD.out.on hb); clear hb c1 c2 c3; obtain ⟨c1, c2, c3⟩ := HD.out.1.2 i g HG.out)
        | (go_at_call 12; (with_reducible refine (n_thing HN.out _).mono ?_); rintro e w' ⟨rfl, hb⟩; replace HD := Lib.hid (HD.out.on hb); clear hb c1 c2 c3; obtain ⟨c1, c2, c3⟩ := HD.out.1.2 i g HG.out)
        | (go_at_call 13; (with_reducible refine (n_copy HN.out _).mono ?_); rintro e w' ⟨rfl, hb⟩; replace HD := Lib.hid (HD.out.on hb); clear hb c1 c2 c3; obtain ⟨c1, c2, c3⟩ := HD.out.1.2 i g HG.out)
        | (go_at_call 14; (with_reducible refine (n_root HN.out _).mono ?_); rintro e w' ⟨rfl, hb⟩; replace HD := Lib.hid (HD.out.on hb); clear hb c1 c2 c3))
      go_roundg (7 - (i + 1))
      case measure => have := HK.out; have := HLT.out; omega
      case rel => exact ⟨i + 1, by have := HLT.out; omega, by go_num, HD.out⟩
    · have hlt2 : ¬ (i : Int) < 7 := by omega
      have HB := Lib.hid HD.out.2
      clear HD HK hlt
      go_wp2_with fail
      refine (plain_any _).mono ?_
      rintro e w2 ⟨rfl, hb⟩
      replace HB := Lib.hid (below_on HB.out hb)
      have hk := plain_new w2
      have c1 : (w2.alloc (.cells #[.int .i64 2, .int .i64 32, .int .i64 16] 24)).cell? ⟨w2.heap.size, 0, none⟩ = some (.int .i64 2) := hk.1.t
      have c2 : (w2.alloc (.cells #[.int .i64 2, .int .i64 32, .int .i64 16] 24)).cell? ⟨w2.heap.size, 1, none⟩ = some (.int .i64 32) := hk.1.s
      have c3 : (w2.alloc (.cells #[.int .i64 2, .int .i64 32, .int .i64 16] 24)).cell? ⟨w2.heap.size, 2, none⟩ = some (.int .i64 16) := hk.1.k
      have HK := Lib.hid hk
      clear hb hk
      go_wp2_with (first
        | (go_at_call 7; (with_reducible refine (desc_to (i := 1) (r := 1224) (n := 1208) (by decide) (by decide) _).mono ?_); rintro e w' ⟨rfl, hb⟩; replace HK := Lib.hid (HK.out.on hb); clear hb c1 c2 c3; have c1 : w'.cell? ⟨w2.heap.size, 0, none⟩ = some (.int .i64 2) := HK.out.1.t; have c2 : w'.cell? ⟨w2.heap.size, 1, none⟩ = some (.int .i64 32) := HK.out.1.s; have c3 : w'.cell? ⟨w2.heap.size, 2, none⟩ = some (.int .i64 16) := HK.out.1.k)
        | (go_at_call 7; (with_reducible refine (desc_to (i := 2) (r := 0) (n := 0) (by decide) (by decide) _).mono ?_); rintro e w' ⟨rfl, hb⟩; replace HK := Lib.hid (HK.out.on hb); clear hb c1 c2 c3; have c1 : w'.cell? ⟨w2.heap.size, 0, none⟩ = some (.int .i64 2) := HK.out.1.t; have c2 : w'.cell? ⟨w2.heap.size, 1, none⟩ = some (.int .i64 32) := HK.out.1.s; have c3 : w'.cell? ⟨w2.heap.size, 2, none⟩ = some (.int .i64 16) := HK.out.1.k)
        | (go_at_call 8; (with_reducible refine (good_to (t := 4) (s := 96) (k := 48) (r := true) (by decide) _).mono ?_); rintro e w' ⟨rfl, hb⟩; replace HK := Lib.hid (HK.out.on hb); clear hb c1 c2 c3; have c1 : w'.cell? ⟨w2.heap.size, 0, none⟩ = some (.int .i64 2) := HK.out.1.t; have c2 : w'.cell? ⟨w2.heap.size, 1, none⟩ = some (.int .i64 32) := HK.out.1.s; have c3 : w'.cell? ⟨w2.heap.size, 2, none⟩ = some (.int .i64 16) := HK.out.1.k)
        | (go_at_call 12; (with_reducible refine (thing_to (i := 0) (r := 2496) (by decide) _).mono ?_); rintro e w' ⟨rfl, hb⟩; replace HK := Lib.hid (HK.out.on hb); clear hb c1 c2 c3; have c1 : w'.cell? ⟨w2.heap.size, 0, none⟩ = some (.int .i64 2) := HK.out.1.t; have c2 : w'.cell? ⟨w2.heap.size, 1, none⟩ = some (.int .i64 32) := HK.out.1.s; have c3 : w'.cell? ⟨w2.heap.size, 2, none⟩ = some (.int .i64 16) := HK.out.1.k)
        | (go_at_call 12; (with_reducible refine (thing_to (i := 15) (r := 2616) (by decide) _).mono ?_); rintro e w' ⟨rfl, hb⟩; replace HK := Lib.hid (HK.out.on hb); clear hb c1 c2 c3; have c1 : w'.cell? ⟨w2.heap.size, 0, none⟩ = some (.int .i64 2) := HK.out.1.t; have c2 : w'.cell? ⟨w2.heap.size, 1, none⟩ = some (.int .i64 32) := HK.out.1.s; have c3 : w'.cell? ⟨w2.heap.size, 2, none⟩ = some (.int .i64 16) := HK.out.1.k)
        | (go_at_call 12; (with_reducible refine (thing_to (i := 16) (r := 0) (by decide) _).mono ?_); rintro e w' ⟨rfl, hb⟩; replace HK := Lib.hid (HK.out.on hb); clear hb c1 c2 c3; have c1 : w'.cell? ⟨w2.heap.size, 0, none⟩ = some (.int .i64 2) := HK.out.1.t; have c2 : w'.cell? ⟨w2.heap.size, 1, none⟩ = some (.int .i64 32) := HK.out.1.s; have c3 : w'.cell? ⟨w2.heap.size, 2, none⟩ = some (.int .i64 16) := HK.out.1.k)
        | (go_at_call 11; (with_reducible refine (slot_to (i := 32) (r := 0) (by decide) _).mono ?_); rintro e w' ⟨rfl, hb⟩; replace HK := Lib.hid (HK.out.on hb); clear hb c1 c2 c3; have c1 : w'.cell? ⟨w2.heap.size, 0, none⟩ = some (.int .i64 2) := HK.out.1.t; have c2 : w'.cell? ⟨w2.heap.size, 1, none⟩ = some (.int .i64 32) := HK.out.1.s; have c3 : w'.cell? ⟨w2.heap.size, 2, none⟩ = some (.int .i64 16) := HK.out.1.k)
        | (go_at_call 11; (with_reducible refine (slot_to (i := -1) (r := 0) (by decide) _).mono ?_); rintro e w' ⟨rfl, hb⟩; replace HK := Lib.hid (HK.out.on hb); clear hb c1 c2 c3; have c1 : w'.cell? ⟨w2.heap.size, 0, none⟩ = some (.int .i64 2) := HK.out.1.t; have c2 : w'.cell? ⟨w2.heap.size, 1, none⟩ = some (.int .i64 32) := HK.out.1.s; have c3 : w'.cell? ⟨w2.heap.size, 2, none⟩ = some (.int .i64 16) := HK.out.1.k)
        | (go_at_call 13; (with_reducible refine (copy_to (r := 2624) (by decide) _).mono ?_); rintro e w' ⟨rfl, hb⟩; replace HK := Lib.hid (HK.out.on hb); clear hb c1 c2 c3; have c1 : w'.cell? ⟨w2.heap.size, 0, none⟩ = some (.int .i64 2) := HK.out.1.t; have c2 : w'.cell? ⟨w2.heap.size, 1, none⟩ = some (.int .i64 32) := HK.out.1.s; have c3 : w'.cell? ⟨w2.heap.size, 2, none⟩ = some (.int .i64 16) := HK.out.1.k)
        | (go_at_call 9; (with_reducible refine (rows_to (r := 329) (by decide) _).mono ?_); rintro e w' ⟨rfl, hb⟩; replace HK := Lib.hid (HK.out.on hb); clear hb c1 c2 c3; have c1 : w'.cell? ⟨w2.heap.size, 0, none⟩ = some (.int .i64 2) := HK.out.1.t; have c2 : w'.cell? ⟨w2.heap.size, 1, none⟩ = some (.int .i64 32) := HK.out.1.s; have c3 : w'.cell? ⟨w2.heap.size, 2, none⟩ = some (.int .i64 16) := HK.out.1.k)
        | (go_at_call 14; (with_reducible refine (root_to (i := 2) (r := 0) (by decide) _).mono ?_); rintro e w' ⟨rfl, hb⟩; replace HK := Lib.hid (HK.out.on hb); clear hb c1 c2 c3))
      go_ret
      exact ⟨rfl, below_on HB.out HK.out.2⟩
end Go.Proofs.Ytibdmceanddeaaa
