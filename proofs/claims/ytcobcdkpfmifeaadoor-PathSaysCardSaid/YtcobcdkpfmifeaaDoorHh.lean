/-
  The walk of package path's Begins. Conditions: the steps of both lie in memory; the first list has the room of its length.
-/
import Derived.Test.YtcobcdkpfmifeaaDoorHg
namespace Go.Proofs.YtcobcdkpfmifeaaDoor
open Go.RowKit

/-- does one begin with the other? -/
def pbegins (l m : List Int) : Bool := decide (m.length ≤ l.length) && (l.take m.length == m)

theorem begins_short {A B : Option Addr} {n c m d : Nat} (h : n < m) (w : World) :
    Calls Tryd.prog 13 #[.agg #[.slice A n c], .agg #[.slice B m d]] w fun e w' => e = .returned (.bool false) ∧ Below w.heap.size w w' := by
  have h1 : ¬ m ≤ n := by omega
  have h2 : decide (m ≤ n) = false := decide_eq_false h1
  have HB := Lib.hid (below_on (below_alloc w (.cells #[.slice A n c] 26)) (below_alloc _ (.cells #[.slice B m d] 26)))
  clear h
  go_enter Tryd.func13, Tryd.ntmps13
  go_wp2_with fail
  go_quiet (fail)
  go_wp2
  go_ret
  exact ⟨rfl, below_draws HB.out _⟩
theorem begins_none {A B : Option Addr} {n c d : Nat} (w : World) :
    Calls Tryd.prog 13 #[.agg #[.slice A n c], .agg #[.slice B 0 d]] w fun e w' => e = .returned (.bool true) ∧ Below w.heap.size w w' := by
  have h1 : (0 : Int) ≤ (n : Int) := by omega
  have HB := Lib.hid (below_on (below_alloc w (.cells #[.slice A n c] 26)) (below_alloc _ (.cells #[.slice B 0 d] 26)))
  have c0 : ((w.alloc (.cells #[.slice A n c] 26)).alloc (.cells #[.slice B 0 d] 26)).cell? ⟨w.heap.size, 0, none⟩ = some (.slice A n c) := ((Bx.new w (.slice A n c) 26).on (below_alloc _ _)).c
  have c1 : ((w.alloc (.cells #[.slice A n c] 26)).alloc (.cells #[.slice B 0 d] 26)).cell? ⟨w.heap.size + 1, 0, none⟩ = some (.slice B 0 d) := by
    simp
  go_enter Tryd.func13, Tryd.ntmps13
  go_wp2_with fail
  generalize ((w.alloc (.cells #[.slice A n c] 26)).alloc (.cells #[.slice B 0 d] 26)) = w2 at HB c0 c1 ⊢
  replace c0 : w2.drew.cell? ⟨w.heap.size, 0, none⟩ = some (.slice A n c) := c0
  replace c1 : w2.drew.cell? ⟨w.heap.size + 1, 0, none⟩ = some (.slice B 0 d) := c1
  go_region_held3 (fun w' => w'.cell? ⟨w.heap.size, 0, none⟩ = some (.slice A n c) ∧ w'.cell? ⟨w.heap.size + 1, 0, none⟩ = some (.slice B 0 d))
    (first | exact ⟨by with_reducible assumption, by with_reducible assumption⟩ | fail)
    (first
      | (go_at_call 24; ((with_reducible refine (Tryd.slices_Equal_int_empty _ _ _ _ _ _ (by decide)).mono ?_); rintro e w' ⟨rfl, rfl⟩))
      | fail)
  go_wp2
  go_ret
  exact ⟨rfl, HB.out.drew⟩
theorem eq_use {b o b' o' m c d : Nat} {l k : List Int} {w w1 : World} {g g' : Nat} {v v' : Value} (hm : m = k.length) (hl : m ≤ l.length) (h0 : 0 < m) (hbig : m ≤ 9223372036854775807)
    (HL : IntsAt w w.heap.size (some ⟨b, o, none⟩) l) (HM : IntsAt w w.heap.size (some ⟨b', o', none⟩) k) (hb : Below w.heap.size w w1)
    (c0 : w1.cell? ⟨g, 0, none⟩ = some v) (c1 : w1.cell? ⟨g', 0, none⟩ = some v') :
    Calls Tryd.prog 24 #[.slice (some ⟨b, o, none⟩) m c, .slice (some ⟨b', o', none⟩) m d] w1 fun e w' => e = .returned (.bool (l.take m == k)) ∧ w'.cell? ⟨g, 0, none⟩ = some v ∧ w'.cell? ⟨g', 0, none⟩ = some v' ∧ Below w.heap.size w w' := by
  have at_ : ∀ {b o : Nat} {l : List Int}, 0 < l.length → IntsAt w w.heap.size (some ⟨b, o, none⟩) l → ∀ j, j < l.length → w1.cell? ⟨b, o + j, none⟩ = some (.int .i64 (l.getD j 0)) := fun h0 h j hj => by
    obtain ⟨x, y, e, hlt, hc⟩ := h h0
    injection e with e
    injection e with e1 e2
    subst e1
    subst e2
    rw [hb.cell (p := ⟨_, _, none⟩) hlt]
    have e : ∀ l : List Int, j < l.length → l[j]? = some (l.getD j 0) := fun l hj => by rw [List.getD_eq_getElem?_getD, List.getElem?_eq_getElem hj]; rfl
    exact hc j _ (e _ hj)
  refine (Tryd.slices_Equal_int b o m c b' o' m d l k w1 hl (by omega) hbig hbig (at_ (by omega) HL) (at_ (by omega) HM)).mono ?_
  rintro e w' ⟨rfl, q, rfl⟩
  refine ⟨?_, c0, c1, below_draws hb q⟩
  rw [hm, List.take_length]
theorem begins_some {A B : Option Addr} {n c m d : Nat} {l k : List Int} {x : Bool} {w : World} (hn : n = l.length) (hk : m = k.length) (hc : n ≤ c) (hmn : m ≤ n) (h0 : 0 < m) (hbig : n ≤ 9223372036854775807) (hL : IntsAt w w.heap.size A l) (hM : IntsAt w w.heap.size B k) (hx : (l.take m == k) = x) :
    Calls Tryd.prog 13 #[.agg #[.slice A n c], .agg #[.slice B m d]] w fun e w' => e = .returned (.bool x) ∧ Below w.heap.size w w' := by
  obtain ⟨b, o, rfl, _, _⟩ := hL (by omega)
  obtain ⟨b', o', rfl, _, _⟩ := hM (by omega)
  have h1 : decide (m ≤ n) = true := decide_eq_true hmn
  have h2 : m ≤ c := by omega
  have HE := Lib.hid fun (w1 : World) (hb : Below w.heap.size w w1) (c0 : w1.cell? ⟨w.heap.size, 0, none⟩ = some (.slice (some ⟨b, o, none⟩) n c)) (c1 : w1.cell? ⟨w.heap.size + 1, 0, none⟩ = some (.slice (some ⟨b', o', none⟩) m d)) => hx ▸ eq_use (c := c) (d := d) hk (by omega) h0 (by omega) hL hM hb c0 c1
  have hb := below_on (below_alloc w (.cells #[.slice (some ⟨b, o, none⟩) n c] 26)) (below_alloc _ (.cells #[.slice (some ⟨b', o', none⟩) m d] 26))
  have c0 : ((w.alloc (.cells #[.slice (some ⟨b, o, none⟩) n c] 26)).alloc (.cells #[.slice (some ⟨b', o', none⟩) m d] 26)).cell? ⟨w.heap.size, 0, none⟩ = some (.slice (some ⟨b, o, none⟩) n c) := ((Bx.new w (.slice (some ⟨b, o, none⟩) n c) 26).on (below_alloc _ _)).c
  have c1 : ((w.alloc (.cells #[.slice (some ⟨b, o, none⟩) n c] 26)).alloc (.cells #[.slice (some ⟨b', o', none⟩) m d] 26)).cell? ⟨w.heap.size + 1, 0, none⟩ = some (.slice (some ⟨b', o', none⟩) m d) := by
    simp
  clear hn hk hc h0 hbig hL hM hx
  go_enter Tryd.func13, Tryd.ntmps13
  go_wp2_with fail
  generalize ((w.alloc (.cells #[.slice (some ⟨b, o, none⟩) n c] 26)).alloc (.cells #[.slice (some ⟨b', o', none⟩) m d] 26)) = w2 at hb c0 c1 ⊢
  replace c0 : w2.drew.cell? ⟨w.heap.size, 0, none⟩ = some (.slice (some ⟨b, o, none⟩) n c) := c0
  replace c1 : w2.drew.cell? ⟨w.heap.size + 1, 0, none⟩ = some (.slice (some ⟨b', o', none⟩) m d) := c1
  replace hb : Below w.heap.size w w2.drew := hb.drew
  go_region_held3 (fun w' => w'.cell? ⟨w.heap.size, 0, none⟩ = some (.slice (some ⟨b, o, none⟩) n c) ∧ w'.cell? ⟨w.heap.size + 1, 0, none⟩ = some (.slice (some ⟨b', o', none⟩) m d) ∧ Below w.heap.size w w')
    (first | exact ⟨by with_reducible assumption, by with_reducible assumption, by with_reducible assumption⟩ | fail)
    (first
      | (go_at_call 24; ((with_reducible refine (HE.out _ (by with_reducible assumption) (by with_reducible assumption) (by with_reducible assumption)).mono ?_); rintro e w' ⟨rfl, y0, y1, y2⟩))
      | fail)
  go_wp2
  go_ret
  exact ⟨rfl, y2⟩
theorem begins_any {A B : Option Addr} {c d : Nat} {l k : List Int} {w : World} (hc : l.length ≤ c) (hbig : l.length ≤ 9223372036854775807) (hL : IntsAt w w.heap.size A l) (hM : IntsAt w w.heap.size B k) :
    Calls Tryd.prog 13 #[.agg #[.slice A l.length c], .agg #[.slice B k.length d]] w fun e w' => e = .returned (.bool (pbegins l k)) ∧ Below w.heap.size w w' := by
  by_cases h : k.length ≤ l.length
  · by_cases h0 : k.length = 0
    · have e : pbegins l k = true := by
        rw [List.length_eq_zero_iff] at h0
        subst h0
        simp [pbegins]
      rw [e, h0]
      exact begins_none w
    · have e : pbegins l k = (l.take k.length == k) := by rw [pbegins, decide_eq_true h, Bool.true_and]
      exact begins_some rfl rfl hc h (by omega) hbig hL hM e.symm
  · have e : pbegins l k = false := by rw [pbegins, decide_eq_false h, Bool.false_and]
    rw [e]
    exact begins_short (by omega) w
end Go.Proofs.YtcobcdkpfmifeaaDoor
