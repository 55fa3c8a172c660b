/-
  The walks of the reference's Store, Flush, Evict, Fall, Fence on a line: the same answers, the same lines.
-/
import Derived.Test.YtehfkibpcdcddaaRc
namespace Go.Proofs.Ytehfkibpcdcddaa
open Go.RowKit

theorem rstore_any (b o : Nat) (i v : Int) (r : Ln) (w : World) (h : At w b o r) :
    Calls Try.prog 50 #[.pointer (some ⟨b, o, none⟩), .int .i64 i, .int .u64 v] w fun e w' => e = .returned (.bool (inl i)) ∧ Turn w w' b o (r.store i v) := by
  unfold Ln.store
  rcases hb : inl i with _ | _
  · have H := Lib.hid h
    clear h
    rcases inl_no hb with hi | hi
    · clear hb
      go_enter Try.func50, Try.ntmps50
      go_wp2
      go_ret
      exact ⟨rfl, Turn.refl H.out⟩
    · clear hb
      have h2 : ¬ i < 0 := by omega
      go_enter Try.func50, Try.ntmps50
      go_wp2
      go_ret
      exact ⟨rfl, Turn.refl H.out⟩
  · obtain ⟨h1, h2⟩ := inl_yes hb
    clear hb
    obtain ⟨i, rfl⟩ := Int.eq_ofNat_of_zero_le h1
    have hi : i < 8 := by omega
    have g0 : ¬ (i : Int) < 0 := by omega
    have g7 : ¬ (7 : Int) < i := by omega
    have h1 := h.N hi
    have h2 := h.freeN hi
    have h3 := h.out
    have h4 := (h.free 16 (by omega)).2
    have h5 := h.sent
    have h6 := (h.free 17 (by omega)).2
    have t1 := h.setN i v hi
    have t2 := t1.trans (t1.here.setOut true)
    have t3 := t2.trans (t2.here.setSent false)
    have HT := Lib.hid t3
    clear t1 t2 t3 h
    go_enter Try.func50, Try.ntmps50
    go_wp2
    go_ret
    exact ⟨rfl, HT.out⟩

theorem rflush_any (b o : Nat) (r : Ln) (w : World) (h : At w b o r) :
    Calls Try.prog 51 #[.pointer (some ⟨b, o, none⟩)] w fun e w' => e = .returned (.tuple #[]) ∧ Turn w w' b o r.flush := by
  have h1 := h.out
  have h2 := h.sent
  have h3 := (h.free 17 (by omega)).2
  have ht := h.setSent true
  obtain ⟨L, N, ou, se⟩ := r
  cases ou
  · have H := Lib.hid h
    clear ht h
    go_enter Try.func51, Try.ntmps51
    go_wp2
    go_end0
    exact ⟨rfl, Turn.refl H.out⟩
  · have H := Lib.hid ht
    clear ht h
    go_enter Try.func51, Try.ntmps51
    go_wp2
    go_end0
    exact ⟨rfl, H.out⟩

theorem infoA {zs : List Int} (h : zs.length = 8) : (Try.prog.info? 59).map (·.size) = some (wcells zs).toArray.size := by rw [info25, List.size_toArray, wcells_length, h]
theorem At.thereL {w : World} {b o : Nat} {r : Ln} (h : At w b o r) {zs : List Int} (hz : zs.length = 8) : w.there b o (wcells zs).toArray.size := fun j hj => by
  rw [List.size_toArray, wcells_length, hz] at hj
  exact h.free j (by omega)
theorem At.thereN {w : World} {b o : Nat} {r : Ln} (h : At w b o r) {zs : List Int} (hz : zs.length = 8) : w.there b (o + 8) (wcells zs).toArray.size := fun j hj => by
  rw [List.size_toArray, wcells_length, hz] at hj
  rw [Nat.add_assoc]
  exact h.free (8 + j) (by omega)

set_option maxHeartbeats 400000 in
theorem revict_any (b o : Nat) (r : Ln) (w : World) (h : At w b o r) :
    Calls Try.prog 54 #[.pointer (some ⟨b, o, none⟩)] w fun e w' => e = .returned (.bool r.out) ∧ Turn w w' b o (r.fall true) := by
  have h1 := h.out
  obtain ⟨L, N, ou, se⟩ := r
  cases ou
  · have H := Lib.hid h
    clear h
    go_enter Try.func54, Try.ntmps54
    go_wp2
    go_ret
    exact ⟨rfl, Turn.refl H.out⟩
  · have hN : N.length = 8 := h.ok.2
    have HN := Lib.hid h.rangeN
    have IN := Lib.hid (infoN hN)
    have IA := Lib.hid (infoA hN)
    have TL := Lib.hid (h.thereL hN)
    have OC := Lib.hid (all_oneCell_toArray (cs := wcells N) wcells_one)
    have t1 := h.setsL N hN
    have h3 := t1.here.out
    have h4 := (t1.here.free 16 (by omega)).2
    have h5 := t1.here.sent
    have h6 := (t1.here.free 17 (by omega)).2
    have t2 := t1.trans (t1.here.setOut false)
    have t3 := t2.trans (t2.here.setSent false)
    have HT := Lib.hid t3
    clear t1 t2 t3 h hN
    go_enter Try.func54, Try.ntmps54
    go_wp2_with (first | (refine wpList_load_mid rfl 59 _ rfl b (o + 8) rfl _ _ HN.out Try.underlying59 rfl IN.out ?_) | (refine wpList_store_mid rfl 59 _ _ rfl b o _ rfl rfl TL.out IA.out OC.out ?_))
    go_ret
    exact ⟨rfl, HT.out⟩

set_option maxHeartbeats 400000 in
theorem rfall_any (b o : Nat) (keep : Bool) (r : Ln) (w : World) (h : At w b o r) :
    Calls Try.prog 55 #[.pointer (some ⟨b, o, none⟩), .bool keep] w fun e w' => e = .returned (.bool r.out) ∧ Turn w w' b o (r.fall keep) := by
  cases keep
  · have h1 := h.out
    obtain ⟨L, N, ou, se⟩ := r
    cases ou
    · have H := Lib.hid h
      clear h
      go_enter Try.func55, Try.ntmps55
      go_wp2
      go_ret
      exact ⟨rfl, Turn.refl H.out⟩
    · have hN : L.length = 8 := h.ok.1
      have HN := Lib.hid h.rangeL
      have IN := Lib.hid (infoN hN)
      have IA := Lib.hid (infoA hN)
      have TL := Lib.hid (h.thereN hN)
      have OC := Lib.hid (all_oneCell_toArray (cs := wcells L) wcells_one)
      have t1 := h.setsN L hN
      have h3 := t1.here.out
      have h4 := (t1.here.free 16 (by omega)).2
      have h5 := t1.here.sent
      have h6 := (t1.here.free 17 (by omega)).2
      have t2 := t1.trans (t1.here.setOut false)
      have t3 := t2.trans (t2.here.setSent false)
      have HT := Lib.hid t3
      clear t1 t2 t3 h hN
      go_enter Try.func55, Try.ntmps55
      go_wp2_with (first | (refine wpList_load_mid rfl 59 _ rfl b o rfl _ _ HN.out Try.underlying59 rfl IN.out ?_) | (refine wpList_store_mid rfl 59 _ _ rfl b (o + 8) _ rfl rfl TL.out IA.out OC.out ?_))
      go_ret
      exact ⟨rfl, HT.out⟩
  · have H := Lib.hid h
    clear h
    go_enter Try.func55, Try.ntmps55
    go_wp2_with (go_at_call 54; refine (revict_any b o r _ H.out).mono ?_; rintro e w' ⟨rfl, ht⟩; have HT := Lib.hid ht; clear ht)
    go_ret
    exact ⟨rfl, HT.out⟩

theorem fence_is (r : Ln) : r.fence = if r.sent = true then r.fall true else r := by
  obtain ⟨L, N, ou, se⟩ := r
  cases se <;> cases ou <;> rfl

set_option maxHeartbeats 400000 in
theorem rfence_any (b o : Nat) (r : Ln) (w : World) (h : At w b o r) :
    Calls Try.prog 53 #[.pointer (some ⟨b, o, none⟩)] w fun e w' => e = .returned (.bool (r.sent && r.out)) ∧ Turn w w' b o r.fence := by
  rw [fence_is]
  have h2 := h.sent
  have H := Lib.hid h
  clear h
  obtain ⟨L, N, ou, se⟩ := r
  cases se
  · go_enter Try.func53, Try.ntmps53
    go_wp2
    go_ret
    exact ⟨rfl, Turn.refl H.out⟩
  · go_enter Try.func53, Try.ntmps53
    go_wp2_with (go_at_call 54; refine (revict_any b o _ _ H.out).mono ?_; rintro e w' ⟨rfl, ht⟩; have HT := Lib.hid ht; clear ht)
    go_ret
    exact ⟨rfl, HT.out⟩
end Go.Proofs.Ytehfkibpcdcddaa
