/-
  The walks of package row's settle, Fall, Evict, Fence: what each answers, what becomes of the line.
-/
import Derived.Test.YtehfkibpcdcddaaRb
namespace Go.Proofs.Ytehfkibpcdcddaa
open Go.RowKit

theorem info25 : (Try.prog.info? 59).map (·.size) = some 8 := by kernel_rfl
theorem info27 : (Try.prog.info? 68).map (·.size) = some 18 := by kernel_rfl

theorem eight {zs : List Int} (h : zs.length = 8) : ∃ a b c d e f g i, zs = [a, b, c, d, e, f, g, i] := by
  match zs, h with
  | [a, b, c, d, e, f, g, i], _ => exact ⟨a, b, c, d, e, f, g, i, rfl⟩

/-- as it is when it lasts whole -/
def settled (zs : List Int) : Ln := ⟨zs, zs, false, false⟩

set_option maxHeartbeats 400000 in
theorem settle_any (b o : Nat) (zs : List Int) (hz : zs.length = 8) (r : Ln) (w : World) (h : At w b o r) :
    Calls Try.prog 58 #[.pointer (some ⟨b, o, none⟩), .agg (wcells zs).toArray] w fun e w' => e = .returned (.tuple #[]) ∧ Turn w w' b o (settled zs) := by
  have hk : (settled zs).ok := ⟨hz, hz⟩
  have t0 := (Turn.refl h).alloc (.cells (wcells zs).toArray 59)
  have t1 := t0.trans (t0.here.setsAll (settled zs) hk)
  have HT := Lib.hid t1
  have HF : Hid ((w.alloc (.cells (wcells zs).toArray 59)).there b o (settled zs).cells.toArray.size) := Lib.hid (by simpa [Ln.cells_length hk] using t0.here.free)
  have HO : Hid ((settled zs).cells.toArray.all (·.oneCell') = true) := Lib.hid (all_oneCell_toArray Ln.one)
  clear t0 t1 h hk
  obtain ⟨z0, z1, z2, z3, z4, z5, z6, z7, rfl⟩ := eight hz
  simp only [settled, Ln.cells, wcells, List.map_cons, List.map_nil, List.cons_append, List.nil_append] at HF HT HO ⊢
  go_enter Try.func58, Try.ntmps58
  go_wp2_with (refine wpList_store_mid rfl 68 _ _ rfl b o _ rfl rfl HF.out info27 HO.out ?_)
  go_end0
  exact ⟨rfl, HT.out⟩

/-- behind a fall -/
def Ln.fall (r : Ln) (keep : Bool) : Ln := if r.out = true then settled (if keep = true then r.N else r.L) else r
theorem Ln.fall_ok {r : Ln} (h : r.ok) (keep : Bool) : (r.fall keep).ok := by
  unfold Ln.fall settled
  split
  · cases keep
    · exact ⟨h.1, h.1⟩
    · exact ⟨h.2, h.2⟩
  · exact h
/-- behind a fence -/
def Ln.fence (r : Ln) : Ln := if (r.sent && r.out) = true then settled r.N else r

theorem infoN {zs : List Int} (h : zs.length = 8) : (Try.prog.info? 59).map (·.size) = some (wcells zs).length := by rw [info25, wcells_length, h]

set_option maxHeartbeats 400000 in
theorem fall_any (b o : Nat) (keep : Bool) (r : Ln) (w : World) (h : At w b o r) :
    Calls Try.prog 57 #[.pointer (some ⟨b, o, none⟩), .bool keep] w fun e w' => e = .returned (.bool r.out) ∧ Turn w w' b o (r.fall keep) := by
  have h1 := h.out
  have HN := Lib.hid h.rangeN
  have HL := Lib.hid h.rangeL
  have IN := Lib.hid (infoN h.ok.2)
  have IL := Lib.hid (infoN h.ok.1)
  have H := Lib.hid h
  clear h
  obtain ⟨L, N, ou, se⟩ := r
  cases ou
  · clear HN HL
    go_enter Try.func57, Try.ntmps57
    go_wp2
    go_ret
    exact ⟨rfl, Turn.refl H.out⟩
  · cases keep
    · clear HN
      go_enter Try.func57, Try.ntmps57
      go_wp2_with (first | (refine wpList_load_mid rfl 59 _ rfl b o rfl _ _ HL.out Try.underlying59 rfl IL.out ?_) | (go_at_call 58; refine (settle_any b o L H.out.ok.1 _ _ H.out).mono ?_; rintro e w' ⟨rfl, ht⟩; have HT := Lib.hid ht; clear ht))
      go_ret
      exact ⟨rfl, HT.out⟩
    · clear HL
      go_enter Try.func57, Try.ntmps57
      go_wp2_with (first | (refine wpList_load_mid rfl 59 _ rfl b (o + 8) rfl _ _ HN.out Try.underlying59 rfl IN.out ?_) | (go_at_call 58; refine (settle_any b o N H.out.ok.2 _ _ H.out).mono ?_; rintro e w' ⟨rfl, ht⟩; have HT := Lib.hid ht; clear ht))
      go_ret
      exact ⟨rfl, HT.out⟩

theorem evict_any (b o : Nat) (r : Ln) (w : World) (h : At w b o r) :
    Calls Try.prog 39 #[.pointer (some ⟨b, o, none⟩)] w fun e w' => e = .returned (.bool r.out) ∧ Turn w w' b o (r.fall true) := by
  have H := Lib.hid h
  clear h
  go_enter Try.func39, Try.ntmps39
  go_wp2_with (go_at_call 57; refine (fall_any b o true r _ H.out).mono ?_; rintro e w' ⟨rfl, ht⟩; have HT := Lib.hid ht; clear ht)
  go_ret
  exact ⟨rfl, HT.out⟩

set_option maxHeartbeats 400000 in
theorem fence_any (b o : Nat) (r : Ln) (w : World) (h : At w b o r) :
    Calls Try.prog 52 #[.pointer (some ⟨b, o, none⟩)] w fun e w' => e = .returned (.bool (r.sent && r.out)) ∧ Turn w w' b o r.fence := by
  have h1 := h.out
  have h2 := h.sent
  have HN := Lib.hid h.rangeN
  have IN := Lib.hid (infoN h.ok.2)
  have H := Lib.hid h
  clear h
  obtain ⟨L, N, ou, se⟩ := r
  cases se
  · clear HN
    go_enter Try.func52, Try.ntmps52
    go_wp2
    go_ret
    exact ⟨rfl, Turn.refl H.out⟩
  · cases ou
    · clear HN
      go_enter Try.func52, Try.ntmps52
      go_wp2
      go_ret
      exact ⟨rfl, Turn.refl H.out⟩
    · go_enter Try.func52, Try.ntmps52
      go_wp2_with (first | (refine wpList_load_mid rfl 59 _ rfl b (o + 8) rfl _ _ HN.out Try.underlying59 rfl IN.out ?_) | (go_at_call 58; refine (settle_any b o N H.out.ok.2 _ _ H.out).mono ?_; rintro e w' ⟨rfl, ht⟩; have HT := Lib.hid ht; clear ht))
      go_ret
      exact ⟨rfl, HT.out⟩
end Go.Proofs.Ytehfkibpcdcddaa
