/-
  The law's awake. Condition: the library's table of tens is there.
-/
import Derived.Test.YtfcifheejjppfaaDoorAj
namespace Go.Proofs.YtfcifheejjppfaaDoor
open Go.RowKit

def tellC : Cl := ⟨13, [1], [], 0, 0, 0⟩
theorem tell_good : cgood tellC = true := by decide +kernel
theorem tell_words : cwords tellC = [13, 17, 0, 0] := by decide +kernel
theorem tell_get : cget [13, 17, 0, 0] = some tellC := by rw [← tell_words, cget_cwords tell_good]
theorem tell_text : bar (ctext tellC) = ⟨#[116, 101, 108, 108, 32, 49]⟩ := by decide +kernel
theorem tell_same : tellC.eq tellC = true := Cl.eq_iff.2 rfl
theorem four_new (w : World) (l : List Nat) (hl : l.length = 4) (cs : Array Value) (hcs : cs = (l.map fun (n : Nat) => Value.int .u64 (n : Int)).toArray) : Words (w.alloc (.cells cs 27)) (.slice (some ⟨w.heap.size, 0, none⟩) 4 4) (l.map fun (n : Nat) => (n : Int)) := by
  subst hcs
  have h := cells_words (W := w) (w := w.alloc (.cells (l.map fun (n : Nat) => Value.int .u64 (n : Int)).toArray 27)) (g := w.heap.size) (l := l) (Wbs.more (below_self w) _ _) 4 (by omega)
  rwa [hl] at h
set_option maxHeartbeats 4000000 in
theorem awake_any {w : World} (hT : Tab w) : Calls Tryd.prog 7 #[] w fun e w' => e = .returned (.bool true) ∧ Below w.heap.size w w' := by
  have HT := Lib.hid hT
  clear hT
  have hint := Lib.hid (lit_ints w [1] 3 #[.int .i64 1] rfl)
  have hba := Lib.hid (below_alloc w (.cells #[.int .i64 1] 3))
  go_enter Tryd.func7, Tryd.ntmps7
  go_wp2_with fail
  obtain ⟨A, hA⟩ : ∃ A, A = some (⟨w.heap.size, 0, none⟩ : Addr) := ⟨_, rfl⟩
  rw [← hA] at hint ⊢
  clear hA
  generalize w.alloc _ = w1 at hint hba ⊢
  refine (way_is A 1 1 w1).mono ?_
  rintro e w2 ⟨rfl, hb⟩
  have HI := Lib.hid (hint.out.on hb)
  have HB := Lib.hid (below_on hba.out hb)
  clear hint hba hb
  have K1 := Lib.hid (Bxs.more HB.out [.int .i64 13, .slice A 1 1, .slice none 0 0, .int .i64 0, .int .i64 0, .int .u64 0] 29)
  replace HI := Lib.hid (HI.out.on (below_alloc w2 (.cells #[.int .i64 13, .slice A 1 1, .slice none 0 0, .int .i64 0, .int .i64 0, .int .u64 0] 29)))
  go_upto_region 2 with fail
  clear HB
  obtain ⟨g, hg⟩ : ∃ g, g = w2.heap.size := ⟨_, rfl⟩
  rw [← hg] at K1 ⊢
  clear hg
  generalize w2.alloc _ = w3 at K1 HI ⊢
  have HC := Lib.hid (show ClAt w3 (.agg #[.int .i64 13, .slice A 1 1, .slice none 0 0, .int .i64 0, .int .i64 0, .int .u64 0]) tellC from ⟨A, 1, none, 0, rfl, HI.out, ints_none w3⟩)
  clear HI
  have c0 := K1.out.c 0 _ rfl
  have c1 := K1.out.c 1 _ rfl
  have c2 := K1.out.c 2 _ rfl
  have c3 := K1.out.c 3 _ rfl
  have c4 := K1.out.c 4 _ rfl
  have c5 := K1.out.c 5 _ rfl
  go_wp2_with fail
  refine (words_of HC.out tell_words).mono ?_
  rintro e w4 ⟨⟨v, rfl, hv⟩, hb⟩
  clear c0 c1 c2 c3 c4 c5
  replace K1 := Lib.hid (K1.out.on hb)
  replace HC := Lib.hid (HC.out.on hb)
  have HV := Lib.hid hv
  clear hb hv
  go_wp2_with fail
  refine (cget_any HV.out (by decide)).mono ?_
  rintro e w5 ⟨⟨x, rfl, hx⟩, hb⟩
  rw [tell_get] at hx ⊢
  obtain ⟨A', ca', B', cb', rfl, hx1, hx2⟩ := hx
  replace K1 := Lib.hid (K1.out.on hb)
  replace HC := Lib.hid (HC.out.on hb)
  replace HV := Lib.hid (HV.out.below hb)
  clear hb
  simp only [Option.getD_some, Option.isSome_some, tellC, List.length_cons, List.length_nil, Nat.zero_add] at hx1 hx2 ⊢
  have HX := Lib.hid (show ClAt w5 (.agg #[.int .i64 13, .slice A' 1 ca', .slice B' 0 cb', .int .i64 0, .int .i64 0, .int .u64 0]) tellC from ⟨A', ca', B', cb', rfl, hx1, hx2⟩)
  have K2 := Lib.hid (Bxs.more (below_self w5) [.int .i64 13, .slice A' 1 ca', .slice B' 0 cb', .int .i64 0, .int .i64 0, .int .u64 0] 29)
  have hba := below_alloc w5 (.cells #[.int .i64 13, .slice A' 1 ca', .slice B' 0 cb', .int .i64 0, .int .i64 0, .int .u64 0] 29)
  replace K1 := Lib.hid (K1.out.on hba)
  replace HC := Lib.hid (HC.out.on hba)
  replace HX := Lib.hid (HX.out.on hba)
  replace HV := Lib.hid (HV.out.below hba)
  clear hba hx1 hx2
  go_upto_region 4 with fail
  obtain ⟨g2, hg⟩ : ∃ g2, g2 = w5.heap.size := ⟨_, rfl⟩
  rw [← hg] at K2 ⊢
  clear hg
  generalize w5.alloc _ = w6 at K1 K2 HC HX HV ⊢
  have HT6 := Lib.hid fun w' (h : Below w6.heap.size w6 w') => HT.out.on (below_on K1.out.old h)
  have HO6 := Lib.hid fun w' (h : Below w6.heap.size w6 w') => below_on K1.out.old h
  have HALL : Hid (∀ w', Below w6.heap.size w6 w' → w'.cell? ⟨g, 0, none⟩ = some (.int .i64 13) ∧ w'.cell? ⟨g, 1, none⟩ = some (.slice A 1 1) ∧ w'.cell? ⟨g, 2, none⟩ = some (.slice none 0 0) ∧ w'.cell? ⟨g, 3, none⟩ = some (.int .i64 0) ∧ w'.cell? ⟨g, 4, none⟩ = some (.int .i64 0) ∧ w'.cell? ⟨g, 5, none⟩ = some (.int .u64 0) ∧ w'.cell? ⟨g2, 0, none⟩ = some (.int .i64 13) ∧ w'.cell? ⟨g2, 1, none⟩ = some (.slice A' 1 ca') ∧ w'.cell? ⟨g2, 2, none⟩ = some (.slice B' 0 cb') ∧ w'.cell? ⟨g2, 3, none⟩ = some (.int .i64 0) ∧ w'.cell? ⟨g2, 4, none⟩ = some (.int .i64 0) ∧ w'.cell? ⟨g2, 5, none⟩ = some (.int .u64 0) ∧ Below w6.heap.size w6 w') := Lib.hid fun w' h => by
    have a := (K1.out.on h).c
    have b := (K2.out.on h).c
    exact ⟨a 0 _ rfl, a 1 _ rfl, a 2 _ rfl, a 3 _ rfl, a 4 _ rfl, a 5 _ rfl, b 0 _ rfl, b 1 _ rfl, b 2 _ rfl, b 3 _ rfl, b 4 _ rfl, b 5 _ rfl, h⟩
  have WT := Lib.hid fun w' (h : Below w6.heap.size w6 w') => (text_of (HT6.out w' h) (HC.out.on h) (by decide) tell_text).mono fun e w'' he => (⟨he.1, HALL.out w'' (below_on h he.2)⟩ : _ ∧ _)
  have WG := Lib.hid fun w' (h : Below w6.heap.size w6 w') => (good_at (HC.out.on h) tell_good).mono fun e w'' he => (⟨he.1, HALL.out w'' (below_on h he.2)⟩ : _ ∧ _)
  have WW := Lib.hid fun w' (h : Below w6.heap.size w6 (w'.alloc (.cells #[.int .u64 13, .int .u64 17, .int .u64 0, .int .u64 0] 27))) => (words_at (HV.out.below h) (four_new w' [13, 17, 0, 0] rfl #[.int .u64 13, .int .u64 17, .int .u64 0, .int .u64 0] rfl) (by simp) (decide_eq_true rfl)).mono fun e w'' he => (⟨he.1, HALL.out w'' (below_on h he.2)⟩ : _ ∧ _)
  have WC := Lib.hid fun w' (h : Below w6.heap.size w6 w') => (callof_at (HC.out.on h)).mono fun e w'' he => (⟨he.1, HALL.out w'' (below_on h he.2)⟩ : _ ∧ _)
  have WX := Lib.hid fun w' (h : Below w6.heap.size w6 w') => (callof_at (HX.out.on h)).mono fun e w'' he => (⟨he.1, HALL.out w'' (below_on h he.2)⟩ : _ ∧ _)
  have WS := Lib.hid fun w' (h : Below w6.heap.size w6 w') => (same_at (HX.out.on h) (HC.out.on h) (by decide) (by decide) tell_same).mono fun e w'' he => (⟨he.1, HALL.out w'' (below_on h he.2)⟩ : _ ∧ _)
  clear K1 K2 HC HX HV HT HT6
  obtain ⟨y0, y1, y2, y3, y4, y5, y6, y7, y8, y9, y10, y11, y12⟩ := HALL.out w6.drew (below_self w6).drew
  go_wp2_with fail
  go_region_held3 (fun w' => w'.cell? ⟨g, 0, none⟩ = some (.int .i64 13) ∧ w'.cell? ⟨g, 1, none⟩ = some (.slice A 1 1) ∧ w'.cell? ⟨g, 2, none⟩ = some (.slice none 0 0) ∧ w'.cell? ⟨g, 3, none⟩ = some (.int .i64 0) ∧ w'.cell? ⟨g, 4, none⟩ = some (.int .i64 0) ∧ w'.cell? ⟨g, 5, none⟩ = some (.int .u64 0) ∧ w'.cell? ⟨g2, 0, none⟩ = some (.int .i64 13) ∧ w'.cell? ⟨g2, 1, none⟩ = some (.slice A' 1 ca') ∧ w'.cell? ⟨g2, 2, none⟩ = some (.slice B' 0 cb') ∧ w'.cell? ⟨g2, 3, none⟩ = some (.int .i64 0) ∧ w'.cell? ⟨g2, 4, none⟩ = some (.int .i64 0) ∧ w'.cell? ⟨g2, 5, none⟩ = some (.int .u64 0) ∧ Below w6.heap.size w6 w')
    (first | exact ⟨by with_reducible assumption, by with_reducible assumption, by with_reducible assumption, by with_reducible assumption, by with_reducible assumption, by with_reducible assumption, by with_reducible assumption, by with_reducible assumption, by with_reducible assumption, by with_reducible assumption, by with_reducible assumption, by with_reducible assumption, by with_reducible assumption⟩ | exact HALL.out _ (bal (by with_reducible assumption)) | fail)
    (first
      | (go_at_call 11; ((with_reducible refine (WT.out _ (by with_reducible assumption)).mono ?_); clear y0 y1 y2 y3 y4 y5 y6 y7 y8 y9 y10 y11 y12; rintro e w' ⟨rfl, y0, y1, y2, y3, y4, y5, y6, y7, y8, y9, y10, y11, y12⟩))
      | (go_at_call 9; ((with_reducible refine (WG.out _ (by with_reducible assumption)).mono ?_); clear y0 y1 y2 y3 y4 y5 y6 y7 y8 y9 y10 y11 y12; rintro e w' ⟨rfl, y0, y1, y2, y3, y4, y5, y6, y7, y8, y9, y10, y11, y12⟩))
      | (go_at_call 13; ((with_reducible refine (WW.out _ (bal (by with_reducible assumption))).mono ?_); clear y0 y1 y2 y3 y4 y5 y6 y7 y8 y9 y10 y11 y12; rintro e w' ⟨rfl, y0, y1, y2, y3, y4, y5, y6, y7, y8, y9, y10, y11, y12⟩))
      | (go_at_call 14; ((with_reducible refine (WX.out _ (by with_reducible assumption)).mono ?_); clear y0 y1 y2 y3 y4 y5 y6 y7 y8 y9 y10 y11 y12; rintro e w' ⟨rfl, y0, y1, y2, y3, y4, y5, y6, y7, y8, y9, y10, y11, y12⟩))
      | (go_at_call 14; ((with_reducible refine (WC.out _ (by with_reducible assumption)).mono ?_); clear y0 y1 y2 y3 y4 y5 y6 y7 y8 y9 y10 y11 y12; rintro e w' ⟨rfl, y0, y1, y2, y3, y4, y5, y6, y7, y8, y9, y10, y11, y12⟩))
      | (go_at_call 19; ((with_reducible refine (WS.out _ (by with_reducible assumption)).mono ?_); clear y0 y1 y2 y3 y4 y5 y6 y7 y8 y9 y10 y11 y12; rintro e w' ⟨rfl, y0, y1, y2, y3, y4, y5, y6, y7, y8, y9, y10, y11, y12⟩))
      | fail)
  go_wp2
  go_ret
  exact ⟨rfl, HO6.out _ y12⟩
end Go.Proofs.YtfcifheejjppfaaDoor
