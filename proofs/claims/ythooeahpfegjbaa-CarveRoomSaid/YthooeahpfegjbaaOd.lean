/-
  The walk of Good. No condition.
-/
import Derived.Test.YthooeahpfegjbaaOc
namespace Go.Proofs.Ythooeahpfegjbaa
open Go.RowKit

theorem Tbx.drew {W w : World} {g : Nat} {t : Tng} (h : Tbx W w g t) : Tbx W w.drew g t := h.on (below_self w).drew
theorem Tbx.drewN {W w : World} {g : Nat} {t : Tng} (h : Tbx W w g t) (k : Nat) : Tbx W (w.drewN k) g t := h.on (below_draws (below_self w) k)
/-- a thing's box, cell by cell, behind a call -/
theorem Tbx.ons {W v w' : World} {g : Nat} {ty bits base size used frm badge : Int} {full : Bool} {word d0 d1 d2 d3 : Nat} (h : Tbx W v g (Tng.mk ty bits base size used frm badge full word d0 d1 d2 d3)) (hb : Below v.heap.size v w') : w'.cell? ⟨g, 0, none⟩ = some (.int .i64 ty) ∧ w'.cell? ⟨g, 1, none⟩ = some (.int .i64 bits) ∧ w'.cell? ⟨g, 2, none⟩ = some (.int .i64 base) ∧ w'.cell? ⟨g, 3, none⟩ = some (.int .i64 size) ∧ w'.cell? ⟨g, 4, none⟩ = some (.int .i64 used) ∧ w'.cell? ⟨g, 5, none⟩ = some (.int .i64 frm) ∧ w'.cell? ⟨g, 6, none⟩ = some (.int .i64 badge) ∧ w'.cell? ⟨g, 7, none⟩ = some (.bool full) ∧ w'.cell? ⟨g, 8, none⟩ = some (.int .u64 (word : Int)) ∧ w'.cell? ⟨g, 9, none⟩ = some (.int .u64 (d0 : Int)) ∧ w'.cell? ⟨g, 10, none⟩ = some (.int .u64 (d1 : Int)) ∧ w'.cell? ⟨g, 11, none⟩ = some (.int .u64 (d2 : Int)) ∧ w'.cell? ⟨g, 12, none⟩ = some (.int .u64 (d3 : Int)) ∧ Tbx W w' g (Tng.mk ty bits base size used frm badge full word d0 d1 d2 d3) :=
  have k := h.on hb
  ⟨k.c0, k.c1, k.c2, k.c3, k.c4, k.c5, k.c6, k.c7, k.c8, k.c9, k.c10, k.c11, k.c12, k⟩
theorem kind_tb {W v : World} {g : Nat} {ty bits base size used frm badge : Int} {full : Bool} {word d0 d1 d2 d3 : Nat} {s : Value} (h : Tbx W v g (Tng.mk ty bits base size used frm badge full word d0 d1 d2 d3)) (hk : Hid ((Tng.mk ty bits base size used frm badge full word d0 d1 d2 d3).kin.val = s)) :
    Calls Try.prog 72 #[.agg #[.int .i64 ty, .int .i64 bits, .int .i64 base, .int .i64 size, .int .i64 used, .int .i64 frm, .int .i64 badge, .bool full, .int .u64 (word : Int), .int .u64 (d0 : Int), .int .u64 (d1 : Int), .int .u64 (d2 : Int), .int .u64 (d3 : Int)]] v fun e w' => e = .returned s ∧ w'.cell? ⟨g, 0, none⟩ = some (.int .i64 ty) ∧ w'.cell? ⟨g, 1, none⟩ = some (.int .i64 bits) ∧ w'.cell? ⟨g, 2, none⟩ = some (.int .i64 base) ∧ w'.cell? ⟨g, 3, none⟩ = some (.int .i64 size) ∧ w'.cell? ⟨g, 4, none⟩ = some (.int .i64 used) ∧ w'.cell? ⟨g, 5, none⟩ = some (.int .i64 frm) ∧ w'.cell? ⟨g, 6, none⟩ = some (.int .i64 badge) ∧ w'.cell? ⟨g, 7, none⟩ = some (.bool full) ∧ w'.cell? ⟨g, 8, none⟩ = some (.int .u64 (word : Int)) ∧ w'.cell? ⟨g, 9, none⟩ = some (.int .u64 (d0 : Int)) ∧ w'.cell? ⟨g, 10, none⟩ = some (.int .u64 (d1 : Int)) ∧ w'.cell? ⟨g, 11, none⟩ = some (.int .u64 (d2 : Int)) ∧ w'.cell? ⟨g, 12, none⟩ = some (.int .u64 (d3 : Int)) ∧ Tbx W w' g (Tng.mk ty bits base size used frm badge full word d0 d1 d2 d3) := by
  refine (kind_any (Tng.mk ty bits base size used frm badge full word d0 d1 d2 d3) v).mono ?_
  rintro e w' ⟨rfl, hb⟩
  rw [hk.out]
  exact ⟨rfl, h.ons hb⟩
theorem fits_tb {W v : World} {g : Nat} {ty bits base size used frm badge : Int} {full : Bool} {word d0 d1 d2 d3 : Nat} {f : Bool} (h : Tbx W v g (Tng.mk ty bits base size used frm badge full word d0 d1 d2 d3)) (hf : Hid ((Tng.mk ty bits base size used frm badge full word d0 d1 d2 d3).fitp = f)) :
    Calls Try.prog 73 #[.agg #[.int .i64 ty, .int .i64 bits, .int .i64 base, .int .i64 size, .int .i64 used, .int .i64 frm, .int .i64 badge, .bool full, .int .u64 (word : Int), .int .u64 (d0 : Int), .int .u64 (d1 : Int), .int .u64 (d2 : Int), .int .u64 (d3 : Int)]] v fun e w' => e = .returned (.bool f) ∧ w'.cell? ⟨g, 0, none⟩ = some (.int .i64 ty) ∧ w'.cell? ⟨g, 1, none⟩ = some (.int .i64 bits) ∧ w'.cell? ⟨g, 2, none⟩ = some (.int .i64 base) ∧ w'.cell? ⟨g, 3, none⟩ = some (.int .i64 size) ∧ w'.cell? ⟨g, 4, none⟩ = some (.int .i64 used) ∧ w'.cell? ⟨g, 5, none⟩ = some (.int .i64 frm) ∧ w'.cell? ⟨g, 6, none⟩ = some (.int .i64 badge) ∧ w'.cell? ⟨g, 7, none⟩ = some (.bool full) ∧ w'.cell? ⟨g, 8, none⟩ = some (.int .u64 (word : Int)) ∧ w'.cell? ⟨g, 9, none⟩ = some (.int .u64 (d0 : Int)) ∧ w'.cell? ⟨g, 10, none⟩ = some (.int .u64 (d1 : Int)) ∧ w'.cell? ⟨g, 11, none⟩ = some (.int .u64 (d2 : Int)) ∧ w'.cell? ⟨g, 12, none⟩ = some (.int .u64 (d3 : Int)) ∧ Tbx W w' g (Tng.mk ty bits base size used frm badge full word d0 d1 d2 d3) := by
  refine (tfits_any (Tng.mk ty bits base size used frm badge full word d0 d1 d2 d3) v).mono ?_
  rintro e w' ⟨rfl, hb⟩
  rw [hf.out]
  exact ⟨rfl, h.ons hb⟩
set_option maxHeartbeats 4000000 in
theorem goodt_any (t : Tng) (w : World) : Calls Try.prog 55 #[t.val] w fun e w' => e = .returned (.bool t.good) ∧ Below w.heap.size w w' := by
  have hK := Tbx.new w t 45
  have hq := good_code t
  have he := fun w => teq26 t t.kin w
  obtain ⟨f, hf⟩ : ∃ f, t.fitp = f := ⟨_, rfl⟩
  obtain ⟨s, hs⟩ : ∃ s, t.kin = s := ⟨_, rfl⟩
  rw [hf, hs] at hq
  rw [hs] at he
  generalize t.good = g at hq ⊢
  generalize t.eq s = z at hq he
  obtain ⟨ty, bits, base, size, used, frm, badge, full, word, d0, d1, d2, d3⟩ := t
  obtain ⟨ty', bits', base', size', used', frm', badge', full', word', e0, e1, e2, e3⟩ := s
  have hk : (Tng.mk ty bits base size used frm badge full word d0 d1 d2 d3).kin.val = .agg #[.int .i64 ty', .int .i64 bits', .int .i64 base', .int .i64 size', .int .i64 used', .int .i64 frm', .int .i64 badge', .bool full', .int .u64 (word' : Int), .int .u64 (e0 : Int), .int .u64 (e1 : Int), .int .u64 (e2 : Int), .int .u64 (e3 : Int)] := by rw [hs]; rfl
  have HK := Lib.hid hk
  have HF := Lib.hid hf
  have HQ := Lib.hid hq
  clear hk hf hq hs
  unfold tcells at hK
  unfold Tng.val at he ⊢
  simp only at he hK ⊢
  cases z
  ·
    go_enter Try.func55, Try.ntmps55
    go_wp2_with fail
    generalize w.alloc _ = w1 at hK ⊢
    obtain ⟨c0, c1, c2, c3, c4, c5, c6, c7, c8, c9, c10, c11, c12, hT⟩ := hK.drew.ons (below_self _)
    clear hK
    go_wp2_with fail
    go_region_with (go_at_call 72; ((with_reducible refine (kind_tb (by with_reducible assumption) (by with_reducible assumption)).mono ?_); rintro e w' ⟨rfl, y0, y1, y2, y3, y4, y5, y6, y7, y8, y9, y10, y11, y12, y13⟩))
    all_goals go_wp2
    all_goals go_ret
    all_goals exact ⟨by rw [HQ.out]; rfl, y13.old⟩
  ·
    go_enter Try.func55, Try.ntmps55
    go_wp2_with fail
    generalize w.alloc _ = w1 at hK ⊢
    obtain ⟨c0, c1, c2, c3, c4, c5, c6, c7, c8, c9, c10, c11, c12, hT⟩ := hK.drew.ons (below_self _)
    clear hK
    go_wp2_with fail
    go_region_held3 (fun w' => w'.cell? ⟨w.heap.size, 0, none⟩ = some (.int .i64 ty) ∧ w'.cell? ⟨w.heap.size, 1, none⟩ = some (.int .i64 bits) ∧ w'.cell? ⟨w.heap.size, 2, none⟩ = some (.int .i64 base) ∧ w'.cell? ⟨w.heap.size, 3, none⟩ = some (.int .i64 size) ∧ w'.cell? ⟨w.heap.size, 4, none⟩ = some (.int .i64 used) ∧ w'.cell? ⟨w.heap.size, 5, none⟩ = some (.int .i64 frm) ∧ w'.cell? ⟨w.heap.size, 6, none⟩ = some (.int .i64 badge) ∧ w'.cell? ⟨w.heap.size, 7, none⟩ = some (.bool full) ∧ w'.cell? ⟨w.heap.size, 8, none⟩ = some (.int .u64 (word : Int)) ∧ w'.cell? ⟨w.heap.size, 9, none⟩ = some (.int .u64 (d0 : Int)) ∧ w'.cell? ⟨w.heap.size, 10, none⟩ = some (.int .u64 (d1 : Int)) ∧ w'.cell? ⟨w.heap.size, 11, none⟩ = some (.int .u64 (d2 : Int)) ∧ w'.cell? ⟨w.heap.size, 12, none⟩ = some (.int .u64 (d3 : Int)) ∧ Tbx w w' w.heap.size (Tng.mk ty bits base size used frm badge full word d0 d1 d2 d3))
      (exact ⟨by with_reducible assumption, by with_reducible assumption, by with_reducible assumption, by with_reducible assumption, by with_reducible assumption, by with_reducible assumption, by with_reducible assumption, by with_reducible assumption, by with_reducible assumption, by with_reducible assumption, by with_reducible assumption, by with_reducible assumption, by with_reducible assumption, by with_reducible assumption⟩)
      (first | (go_at_call 72; ((with_reducible refine (kind_tb (by with_reducible assumption) (by with_reducible assumption)).mono ?_); rintro e w' ⟨rfl, y0, y1, y2, y3, y4, y5, y6, y7, y8, y9, y10, y11, y12, y13⟩)) | (go_at_call 73; ((with_reducible refine (fits_tb (by with_reducible assumption) (by with_reducible assumption)).mono ?_); rintro e w' ⟨rfl, y0, y1, y2, y3, y4, y5, y6, y7, y8, y9, y10, y11, y12, y13⟩)))
    all_goals go_wp2
    all_goals go_ret
    all_goals exact ⟨by rw [HQ.out]; rfl, y13.old⟩
end Go.Proofs.Ythooeahpfegjbaa
