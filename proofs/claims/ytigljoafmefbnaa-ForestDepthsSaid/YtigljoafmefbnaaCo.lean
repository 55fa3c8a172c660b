/-
  The walk of package forest's Drop; all that the program's calls answer, gathered. Condition: the places lie in memory, at most a million.
-/
import Derived.Test.YtigljoafmefbnaaCf
namespace Go.Proofs.Ytigljoafmefbnaa
open Go.RowKit

set_option maxHeartbeats 4000000 in
theorem pdrop_is {A : Option Addr} {n cap : Nat} {l : List Int} {i : Int} {r : Option (List Int)} {w : World} (hn : n = l.length) (hn6 : n ≤ 1000000) (hL : IntsAt w w.heap.size A l) (hr : fdrop l i = r) :
    Calls Try.prog 11 #[.agg #[.slice A n cap], .int .i64 i] w fun e w' => GivesF w w' e r := by
  have HN := Lib.hid hn
  have HL := Lib.hid hL
  have H6 := Lib.hid hn6
  have HR := Lib.hid hr
  have hK := Pfr.new w (.slice A n cap) (.slice none 0 0) 25 25
  have c0 := hK.c
  clear hn hL hn6 hr
  go_enter Try.func11, Try.ntmps11
  go_wp2_with fail
  generalize (w.alloc (.cells #[.slice A n cap] 25)).alloc (.cells #[.slice none 0 0] 25) = w1 at hK c0 ⊢
  rcases ht : there l i with _ | _
  · have HE : Hid (r = none) := Lib.hid (by rw [← HR.out, fdrop, ht]; first | rfl | simp [ht])
    refine (holds_is (w := w1) HN.out (HL.out.on hK.old) ht).mono ?_
    rintro e w2 ⟨rfl, hb⟩
    have HK := Lib.hid (hK.on hb)
    have c1 := HK.out.d
    have c2 := HK.out.df
    clear hb ht hK c0
    go_wp2
    have e0 := World.cell?_setCell_same w2 ⟨w.heap.size + 1, 0, none⟩ (.slice none 0 0) c1
    refine bodyPost_ret (by simp [results, Try.results11, go_sem, e0]; rfl) rfl ?_
    rw [HE.out]
    exact HK.out.no
  refine (holds_is (w := w1) HN.out (HL.out.on hK.old) ht).mono ?_
  rintro e w2 ⟨rfl, hb⟩
  have HK := Lib.hid (hK.on hb)
  obtain ⟨hF, m, rfl, hml, hm2⟩ := there_iff.1 ht
  obtain ⟨x, hx⟩ : ∃ x, x = fu l m := ⟨_, rfl⟩
  have HX := Lib.hid hx
  have HE : Hid (r = some (((l.map fun y => if y = (m : Int) then x else y)).set m (-2))) := Lib.hid (by rw [← HR.out, fdrop, if_pos ht, Int.toNat_natCast, dropL, hx])
  have HML := Lib.hid hml
  have hmn : (m : Int) < (n : Int) := by rw [HN.out]; omega
  obtain ⟨b, o, rfl, hblk, hc⟩ := at_open HL.out (by omega)
  have c1 : w2.cell? ⟨b, o + m, none⟩ = some (.int .i64 x) := by rw [HK.out.old.cell (p := ⟨b, _, none⟩) hblk, hx]; exact hc m hml
  have hlen : n = (l.map fun y => if y = (m : Int) then x else y).length := by rw [List.length_map, HN.out]
  have HLEN := Lib.hid hlen
  clear hb ht hK c0 hF hml hm2 hx hblk hc hlen
  have c0 := HK.out.c
  go_wp2_with fail
  go_still_tail 7, (by kernel_rfl)
  change wpList _ _ _ _ _ w2.drew
  have HK1 : Hid (Pfr w w2.drew (.slice (some ⟨b, o, none⟩) n cap) (.slice none 0 0)) := Lib.hid (HK.out.on (below_self w2).drew)
  clear c0 c1
  generalize w2.drew = w3 at HK1 ⊢
  go_wp2_with fail
  refine (rehang_is (w := w3) (by omega) HN.out H6.out (HL.out.on HK1.out.old)).mono ?_
  rintro e w4 ⟨v, rfl, hB⟩
  have HLT := Lib.hid HK1.out.lt
  obtain ⟨g, cb, rfl, hg1, hg2, hgc, hgf⟩ := hB.form HLEN.out (by omega)
  have hP := hB.put' HLEN.out m (-2)
  have c1 := hgc m (by omega)
  have c2 := hgf m
  have hKP : Pfr w (w4.setCell ⟨g, m, none⟩ (.int .i64 (-2))) (.slice (some ⟨b, o, none⟩) n cap) (.slice none 0 0) := HK1.out.on hP.old
  have c3 := hKP.d
  have c4 := hKP.df
  have HP := Lib.hid hP
  have HKP := Lib.hid hKP
  clear hB hgc hgf hP hKP hg1 hg2 HK HK1
  go_wp2
  have e0 := World.cell?_setCell_same _ ⟨w.heap.size + 1, 0, none⟩ (.slice (some ⟨g, 0, none⟩) n cb) c3
  refine bodyPost_ret (by simp [results, Try.results11, go_sem, e0]; rfl) rfl ?_
  rw [HE.out]
  exact HKP.out.yes HP.out HLT.out

theorem con : Con where
  good := fun hn _ _ hL _ hg => pgood_is hn hL hg
  depth := fun hn _ _ hL _ _ hd => pdepth_is hn hL hd
  kids := fun hn _ h6 hL _ _ hr => pkids_is hn h6 hL hr
  below := fun hn _ h6 hL _ _ hr => pbelow_is hn h6 hL hr
  order := fun hn _ _ hL _ hr => porder_is hn hL hr
  add := fun hn _ h6 hL _ _ _ hr => padd_is hn h6 hL hr
  drop := fun hn _ h6 hL _ _ hr => pdrop_is hn h6 hL hr
  move := fun hn _ h6 hL _ _ _ hr => pmove_is hn h6 hL hr
  prune := fun hn _ h6 hL _ _ hr => pprune_is hn h6 hL hr
end Go.Proofs.Ytigljoafmefbnaa
