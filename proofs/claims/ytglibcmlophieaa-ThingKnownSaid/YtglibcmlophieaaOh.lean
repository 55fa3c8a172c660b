/-
  Eight words beside the result's box; the walk of Get where it ends early. Condition: the words lie in memory.
-/
import Derived.Test.YtglibcmlophieaaOg
import Derived.Test.YtglibcmlophieaaIf
namespace Go.Proofs.Ytglibcmlophieaa
open Go.RowKit

structure Gx (W w : World) (g b o a e x d0 d1 d2 d3 z : Nat) : Prop where
  zb : Tbx W w g .zero
  c0 : w.cell? ⟨b, o, none⟩ = some (.int .u64 (a : Int))
  c1 : w.cell? ⟨b, o + 1, none⟩ = some (.int .u64 (e : Int))
  c2 : w.cell? ⟨b, o + 2, none⟩ = some (.int .u64 (x : Int))
  c3 : w.cell? ⟨b, o + 3, none⟩ = some (.int .u64 (d0 : Int))
  c4 : w.cell? ⟨b, o + 4, none⟩ = some (.int .u64 (d1 : Int))
  c5 : w.cell? ⟨b, o + 5, none⟩ = some (.int .u64 (d2 : Int))
  c6 : w.cell? ⟨b, o + 6, none⟩ = some (.int .u64 (d3 : Int))
  c7 : w.cell? ⟨b, o + 7, none⟩ = some (.int .u64 (z : Int))
  lt : b < W.heap.size
theorem Gx.on {W w w' : World} {g b o a e x d0 d1 d2 d3 z : Nat} (h : Gx W w g b o a e x d0 d1 d2 d3 z) (hb : Below w.heap.size w w') : Gx W w' g b o a e x d0 d1 d2 d3 z := by
  have e : ∀ j, w'.cell? ⟨b, j, none⟩ = w.cell? ⟨b, j, none⟩ := fun j => hb.cell (p := ⟨b, j, none⟩) (Nat.lt_of_lt_of_le h.lt h.zb.old.size)
  exact ⟨h.zb.on hb, (e _).trans h.c0, (e _).trans h.c1, (e _).trans h.c2, (e _).trans h.c3, (e _).trans h.c4, (e _).trans h.c5, (e _).trans h.c6, (e _).trans h.c7, h.lt⟩
theorem Gx.drew {W w : World} {g b o a e x d0 d1 d2 d3 z : Nat} (h : Gx W w g b o a e x d0 d1 d2 d3 z) : Gx W w.drew g b o a e x d0 d1 d2 d3 z := h.on (below_self w).drew
theorem Gx.cells {W w : World} {g b o a e x d0 d1 d2 d3 z : Nat} (h : Gx W w g b o a e x d0 d1 d2 d3 z) : w.cell? ⟨b, o, none⟩ = some (.int .u64 (a : Int)) ∧ w.cell? ⟨b, o + 1, none⟩ = some (.int .u64 (e : Int)) ∧ w.cell? ⟨b, o + 2, none⟩ = some (.int .u64 (x : Int)) ∧ w.cell? ⟨b, o + 3, none⟩ = some (.int .u64 (d0 : Int)) ∧ w.cell? ⟨b, o + 4, none⟩ = some (.int .u64 (d1 : Int)) ∧ w.cell? ⟨b, o + 5, none⟩ = some (.int .u64 (d2 : Int)) ∧ w.cell? ⟨b, o + 6, none⟩ = some (.int .u64 (d3 : Int)) ∧ w.cell? ⟨b, o + 7, none⟩ = some (.int .u64 (z : Int)) ∧ Gx W w g b o a e x d0 d1 d2 d3 z := ⟨h.c0, h.c1, h.c2, h.c3, h.c4, h.c5, h.c6, h.c7, h⟩
theorem small_gx {W v : World} {g b o a e x d0 d1 d2 d3 z : Nat} (h : Gx W v g b o a e x d0 d1 d2 d3 z) : Calls Try.prog 24 #[] v fun y w' => ∃ A cap, y = .returned (.slice A 5 cap) ∧ (w'.cell? ⟨b, o, none⟩ = some (.int .u64 (a : Int)) ∧ w'.cell? ⟨b, o + 1, none⟩ = some (.int .u64 (e : Int)) ∧ w'.cell? ⟨b, o + 2, none⟩ = some (.int .u64 (x : Int)) ∧ w'.cell? ⟨b, o + 3, none⟩ = some (.int .u64 (d0 : Int)) ∧ w'.cell? ⟨b, o + 4, none⟩ = some (.int .u64 (d1 : Int)) ∧ w'.cell? ⟨b, o + 5, none⟩ = some (.int .u64 (d2 : Int)) ∧ w'.cell? ⟨b, o + 6, none⟩ = some (.int .u64 (d3 : Int)) ∧ w'.cell? ⟨b, o + 7, none⟩ = some (.int .u64 (z : Int)) ∧ Gx W w' g b o a e x d0 d1 d2 d3 z) ∧ FdsAt w' w'.heap.size A smallf ∧ Below v.heap.size v w' := by
  refine (small_any v).mono ?_
  rintro y w' ⟨A, cap, rfl, hf, hb⟩
  exact ⟨A, cap, rfl, (h.on hb).cells, hf, hb⟩
theorem large_gx {W v : World} {g b o a e x d0 d1 d2 d3 z : Nat} (h : Gx W v g b o a e x d0 d1 d2 d3 z) : Calls Try.prog 26 #[] v fun y w' => ∃ A cap, y = .returned (.slice A 3 cap) ∧ (w'.cell? ⟨b, o, none⟩ = some (.int .u64 (a : Int)) ∧ w'.cell? ⟨b, o + 1, none⟩ = some (.int .u64 (e : Int)) ∧ w'.cell? ⟨b, o + 2, none⟩ = some (.int .u64 (x : Int)) ∧ w'.cell? ⟨b, o + 3, none⟩ = some (.int .u64 (d0 : Int)) ∧ w'.cell? ⟨b, o + 4, none⟩ = some (.int .u64 (d1 : Int)) ∧ w'.cell? ⟨b, o + 5, none⟩ = some (.int .u64 (d2 : Int)) ∧ w'.cell? ⟨b, o + 6, none⟩ = some (.int .u64 (d3 : Int)) ∧ w'.cell? ⟨b, o + 7, none⟩ = some (.int .u64 (z : Int)) ∧ Gx W w' g b o a e x d0 d1 d2 d3 z) ∧ FdsAt w' w'.heap.size A largef ∧ Below v.heap.size v w' := by
  refine (large_any v).mono ?_
  rintro y w' ⟨A, cap, rfl, hf, hb⟩
  exact ⟨A, cap, rfl, (h.on hb).cells, hf, hb⟩
theorem rest_gx {W v : World} {g b o a e x d0 d1 d2 d3 z : Nat} {q r n cap : Nat} {A : Option Addr} {fs : List Fd} (h : Gx W v g b o a e x d0 d1 d2 d3 z) (hq : q ≤ top) (hn : n = fs.length) (hl : n ≤ 1000000) (hF : FdsAt v v.heap.size A fs) (hr : rest q fs = r) :
    Calls Try.prog 30 #[.int .u64 (q : Int), .slice A n cap] v fun y w' => y = .returned (.int .u64 (r : Int)) ∧ (w'.cell? ⟨b, o, none⟩ = some (.int .u64 (a : Int)) ∧ w'.cell? ⟨b, o + 1, none⟩ = some (.int .u64 (e : Int)) ∧ w'.cell? ⟨b, o + 2, none⟩ = some (.int .u64 (x : Int)) ∧ w'.cell? ⟨b, o + 3, none⟩ = some (.int .u64 (d0 : Int)) ∧ w'.cell? ⟨b, o + 4, none⟩ = some (.int .u64 (d1 : Int)) ∧ w'.cell? ⟨b, o + 5, none⟩ = some (.int .u64 (d2 : Int)) ∧ w'.cell? ⟨b, o + 6, none⟩ = some (.int .u64 (d3 : Int)) ∧ w'.cell? ⟨b, o + 7, none⟩ = some (.int .u64 (z : Int)) ∧ Gx W w' g b o a e x d0 d1 d2 d3 z) ∧ Below v.heap.size v w' := by
  refine (rest_at hq hn hl hF hr).mono ?_
  rintro y w' ⟨rfl, hb⟩
  exact ⟨rfl, (h.on hb).cells, hb⟩
theorem get_gx {W v : World} {g b o a e x d0 d1 d2 d3 z : Nat} {q n k cap : Nat} {A : Option Addr} {fs : List Fd} {L : List Nat} (h : Gx W v g b o a e x d0 d1 d2 d3 z) (hq : q ≤ top) (hn : n = fs.length) (hl : n ≤ 1000000) (hF : FdsAt v v.heap.size A fs) (hr : gotten q fs = L) (hk : L.length = k) :
    Calls Try.prog 31 #[.int .u64 (q : Int), .slice A n cap] v fun y w' => ∃ A' cap', y = .returned (.slice A' k cap') ∧ (w'.cell? ⟨b, o, none⟩ = some (.int .u64 (a : Int)) ∧ w'.cell? ⟨b, o + 1, none⟩ = some (.int .u64 (e : Int)) ∧ w'.cell? ⟨b, o + 2, none⟩ = some (.int .u64 (x : Int)) ∧ w'.cell? ⟨b, o + 3, none⟩ = some (.int .u64 (d0 : Int)) ∧ w'.cell? ⟨b, o + 4, none⟩ = some (.int .u64 (d1 : Int)) ∧ w'.cell? ⟨b, o + 5, none⟩ = some (.int .u64 (d2 : Int)) ∧ w'.cell? ⟨b, o + 6, none⟩ = some (.int .u64 (d3 : Int)) ∧ w'.cell? ⟨b, o + 7, none⟩ = some (.int .u64 (z : Int)) ∧ Gx W w' g b o a e x d0 d1 d2 d3 z) ∧ WordsAt w' w'.heap.size A' L ∧ Below v.heap.size v w' := by
  refine (get_at hq hn hl hF hr).mono ?_
  rintro y w' ⟨u, rfl, ⟨A', cap', rfl, hw⟩, hb⟩
  exact ⟨A', cap', by rw [hk], (h.on hb).cells, hw, hb⟩
set_option maxHeartbeats 4000000 in
theorem get_len {A : Option Addr} {n cap : Nat} {w : World} (hn : ¬ (n : Int) = 8) :
    Calls Try.prog 13 #[.slice A n cap] w fun y w' => y = .returned (tv none) ∧ Below w.heap.size w w' := by
  have hZ : Tbx w (w.alloc (.cells #[.int .i64 0, .int .i64 0, .int .i64 0, .int .i64 0, .int .i64 0, .int .i64 0, .int .i64 0, .bool false, .int .u64 0, .int .u64 0, .int .u64 0, .int .u64 0, .int .u64 0] 26)) w.heap.size .zero := Tbx.new w .zero 26
  have hb1 : ((n : Int) != 8) = true := by simpa using hn
  have hb2 : ((n : Int) == 8) = false := by simpa using hn
  go_enter Try.func13, Try.ntmps13
  go_wp2_with fail
  generalize w.alloc _ = w1 at hZ ⊢
  go_wp2_with fail
  go_quiet (fail)
  have hZ2 := hZ.drewN nq
  generalize w1.drewN _ = w2 at hZ2 ⊢
  clear hZ
  have hZ := hZ2
  clear hZ2
  have HO := Lib.hid hZ.old
  obtain ⟨k0, k1, k2, k3, k4, k5, k6, k7, k8, k9, k10, k11, k12, hf, _, _, lt⟩ := hZ
  simp only [Tng.zero, Tng.of, Int.ofNat_zero] at k0 k1 k2 k3 k4 k5 k6 k7 k8 k9 k10 k11 k12
  have f0 := hf 0
  have f1 := hf 1
  have f2 := hf 2
  have f3 := hf 3
  have f4 := hf 4
  have f5 := hf 5
  have f6 := hf 6
  have f7 := hf 7
  have f8 := hf 8
  have f9 := hf 9
  have f10 := hf 10
  have f11 := hf 11
  have f12 := hf 12
  clear hf
  go_wp2
  refine bodyPost_ret (by simp [results, Try.results13, go_sem, k0, k1, k2, k3, k4, k5, k6, k7, k8, k9, k10, k11, k12]; rfl) rfl ?_
  exact ⟨rfl, below_put HO.out (Nat.le_refl _) _ _ _ _ _ _ _ _ _ _ _ _ _⟩
theorem Gx.start {w : World} {b o a e x d0 d1 d2 d3 z : Nat} (hc : w.cell? ⟨b, o, none⟩ = some (.int .u64 (a : Int)) ∧ w.cell? ⟨b, o + 1, none⟩ = some (.int .u64 (e : Int)) ∧ w.cell? ⟨b, o + 2, none⟩ = some (.int .u64 (x : Int)) ∧ w.cell? ⟨b, o + 3, none⟩ = some (.int .u64 (d0 : Int)) ∧ w.cell? ⟨b, o + 4, none⟩ = some (.int .u64 (d1 : Int)) ∧ w.cell? ⟨b, o + 5, none⟩ = some (.int .u64 (d2 : Int)) ∧ w.cell? ⟨b, o + 6, none⟩ = some (.int .u64 (d3 : Int)) ∧ w.cell? ⟨b, o + 7, none⟩ = some (.int .u64 (z : Int))) (hlt : b < w.heap.size) : Gx w (w.alloc (.cells #[.int .i64 0, .int .i64 0, .int .i64 0, .int .i64 0, .int .i64 0, .int .i64 0, .int .i64 0, .bool false, .int .u64 0, .int .u64 0, .int .u64 0, .int .u64 0, .int .u64 0] 26)) w.heap.size b o a e x d0 d1 d2 d3 z := by
  obtain ⟨c0, c1, c2, c3, c4, c5, c6, c7⟩ := hc
  have e : ∀ j, (w.alloc (.cells #[.int .i64 0, .int .i64 0, .int .i64 0, .int .i64 0, .int .i64 0, .int .i64 0, .int .i64 0, .bool false, .int .u64 0, .int .u64 0, .int .u64 0, .int .u64 0, .int .u64 0] 26)).cell? ⟨b, j, none⟩ = w.cell? ⟨b, j, none⟩ := fun j => (below_alloc w _).cell (p := ⟨b, j, none⟩) hlt
  exact ⟨Tbx.new w .zero 26, (e _).trans c0, (e _).trans c1, (e _).trans c2, (e _).trans c3, (e _).trans c4, (e _).trans c5, (e _).trans c6, (e _).trans c7, hlt⟩
set_option maxHeartbeats 4000000 in
theorem get_last {b o cap a e x d0 d1 d2 d3 z : Nat} {w : World} (hc : w.cell? ⟨b, o, none⟩ = some (.int .u64 (a : Int)) ∧ w.cell? ⟨b, o + 1, none⟩ = some (.int .u64 (e : Int)) ∧ w.cell? ⟨b, o + 2, none⟩ = some (.int .u64 (x : Int)) ∧ w.cell? ⟨b, o + 3, none⟩ = some (.int .u64 (d0 : Int)) ∧ w.cell? ⟨b, o + 4, none⟩ = some (.int .u64 (d1 : Int)) ∧ w.cell? ⟨b, o + 5, none⟩ = some (.int .u64 (d2 : Int)) ∧ w.cell? ⟨b, o + 6, none⟩ = some (.int .u64 (d3 : Int)) ∧ w.cell? ⟨b, o + 7, none⟩ = some (.int .u64 (z : Int))) (hlt : b < w.heap.size) (hz : ¬ z = 0) :
    Calls Try.prog 13 #[.slice (some ⟨b, o, none⟩) 8 cap] w fun y w' => y = .returned (tv none) ∧ Below w.heap.size w w' := by
  have hX := Gx.start hc hlt
  clear hc hlt
  have z1 : ((z : Int) != 0) = true := by simpa using hz
  have z2 : ¬ (z : Int) = 0 := by omega
  have z3 : ((z : Int) == 0) = false := by simpa using hz
  clear hz
  go_enter Try.func13, Try.ntmps13
  go_wp2_with fail
  generalize w.alloc _ = w1 at hX ⊢
  obtain ⟨c0, c1, c2, c3, c4, c5, c6, c7, hG⟩ := hX.cells
  clear hX
  go_wp2_with fail
  go_quiet (fail)
  have hZ := hG.zb.drewN nq
  generalize w1.drewN _ = w2 at hZ ⊢
  clear hG
  clear c0 c1 c2 c3 c4 c5 c6 c7
  have HO := Lib.hid hZ.old
  obtain ⟨k0, k1, k2, k3, k4, k5, k6, k7, k8, k9, k10, k11, k12, hf, _, _, lt⟩ := hZ
  simp only [Tng.zero, Tng.of, Int.ofNat_zero] at k0 k1 k2 k3 k4 k5 k6 k7 k8 k9 k10 k11 k12
  have f0 := hf 0
  have f1 := hf 1
  have f2 := hf 2
  have f3 := hf 3
  have f4 := hf 4
  have f5 := hf 5
  have f6 := hf 6
  have f7 := hf 7
  have f8 := hf 8
  have f9 := hf 9
  have f10 := hf 10
  have f11 := hf 11
  have f12 := hf 12
  clear hf
  go_wp2
  refine bodyPost_ret (by simp [results, Try.results13, go_sem, k0, k1, k2, k3, k4, k5, k6, k7, k8, k9, k10, k11, k12]; rfl) rfl ?_
  exact ⟨rfl, below_put HO.out (Nat.le_refl _) _ _ _ _ _ _ _ _ _ _ _ _ _⟩
set_option maxHeartbeats 4000000 in
theorem get_beside {r : Nat} {b o cap a e x d0 d1 d2 d3 z : Nat} {w : World} (hc : w.cell? ⟨b, o, none⟩ = some (.int .u64 (a : Int)) ∧ w.cell? ⟨b, o + 1, none⟩ = some (.int .u64 (e : Int)) ∧ w.cell? ⟨b, o + 2, none⟩ = some (.int .u64 (x : Int)) ∧ w.cell? ⟨b, o + 3, none⟩ = some (.int .u64 (d0 : Int)) ∧ w.cell? ⟨b, o + 4, none⟩ = some (.int .u64 (d1 : Int)) ∧ w.cell? ⟨b, o + 5, none⟩ = some (.int .u64 (d2 : Int)) ∧ w.cell? ⟨b, o + 6, none⟩ = some (.int .u64 (d3 : Int)) ∧ w.cell? ⟨b, o + 7, none⟩ = some (.int .u64 (z : Int))) (hlt : b < w.heap.size) (hz : z = 0) (ha : a ≤ top) (hra : rest a smallf = r) (hr : ¬ r = 0) :
    Calls Try.prog 13 #[.slice (some ⟨b, o, none⟩) 8 cap] w fun y w' => y = .returned (tv none) ∧ Below w.heap.size w w' := by
  have q1 : ((z : Int) != 0) = false := by simp [hz]
  have q3 : ((z : Int) == 0) = true := by simp [hz]
  clear hz
  have hX := Gx.start hc hlt
  clear hc hlt
  have HA := Lib.hid ha
  have HRA := Lib.hid hra
  clear ha hra
  have z1 : ((r : Int) != 0) = true := by simpa using hr
  have z2 : ¬ (r : Int) = 0 := by omega
  have z3 : ((r : Int) == 0) = false := by simpa using hr
  clear hr
  go_enter Try.func13, Try.ntmps13
  go_wp2_with fail
  generalize w.alloc _ = w1 at hX ⊢
  obtain ⟨c0, c1, c2, c3, c4, c5, c6, c7, hG⟩ := hX.drew.cells
  clear hX
  go_wp2_with fail
  refine wp_region_held_drew (S := (fun w' => w'.cell? ⟨b, o, none⟩ = some (.int .u64 (a : Int)) ∧ w'.cell? ⟨b, o + 1, none⟩ = some (.int .u64 (e : Int)) ∧ w'.cell? ⟨b, o + 2, none⟩ = some (.int .u64 (x : Int)) ∧ w'.cell? ⟨b, o + 3, none⟩ = some (.int .u64 (d0 : Int)) ∧ w'.cell? ⟨b, o + 4, none⟩ = some (.int .u64 (d1 : Int)) ∧ w'.cell? ⟨b, o + 5, none⟩ = some (.int .u64 (d2 : Int)) ∧ w'.cell? ⟨b, o + 6, none⟩ = some (.int .u64 (d3 : Int)) ∧ w'.cell? ⟨b, o + 7, none⟩ = some (.int .u64 (z : Int)) ∧ Gx w w' w.heap.size b o a e x d0 d1 d2 d3 z)) (by kernel_rfl) ⟨c0, c1, c2, c3, c4, c5, c6, c7, hG⟩ (fun hHeld => ?_)
  refine wpAnyH_take (i := 0) (v := ?_) rfl (by kernel_rfl) (by kernel_rfl) (by kernel_rfl) (fun _ _ _ h => h) (Or.inl ⟨by rfl, ?_⟩) (by assumption) ?_
  rotate_left
  · intro w hSw; go_split_ands; go_simp; try with_reducible rfl
  simp only [Act.put, List.setIfInBounds_toArray, List.set_cons_zero, List.set_cons_succ, List.getElem_toArray, List.getElem_cons_zero]
  refine wpAnyH_take (i := 1) (v := ?_) rfl (by kernel_rfl) (by kernel_rfl) (by kernel_rfl) (fun _ _ _ h => h) (Or.inl ⟨by rfl, ?_⟩) (by assumption) ?_
  rotate_left
  · intro w hSw; go_split_ands; go_simp; try with_reducible rfl
  simp only [Act.put, List.setIfInBounds_toArray, List.set_cons_zero, List.set_cons_succ, List.getElem_toArray, List.getElem_cons_zero, List.getElem_cons_succ]
  refine wpAnyH_take (i := 2) (v := ?_) rfl (by kernel_rfl) (by kernel_rfl) (by kernel_rfl) (fun _ _ _ h => h) (Or.inl ⟨by rfl, ?_⟩) (by assumption) ?_
  rotate_left
  · intro w hSw; go_split_ands; go_simp; try with_reducible rfl
  simp only [Act.put, List.setIfInBounds_toArray, List.set_cons_zero, List.set_cons_succ, List.getElem_toArray, List.getElem_cons_zero, List.getElem_cons_succ]
  refine wpAnyH_take (i := 3) (v := ?_) rfl (by kernel_rfl) (by kernel_rfl) (by kernel_rfl) (fun _ _ _ h => h) (Or.inl ⟨by rfl, ?_⟩) (by assumption) ?_
  rotate_left
  · intro w hSw; go_split_ands; go_simp; try with_reducible rfl
  simp only [Act.put, List.setIfInBounds_toArray, List.set_cons_zero, List.set_cons_succ, List.getElem_toArray, List.getElem_cons_zero, List.getElem_cons_succ]
  refine wpAnyH_take (i := 4) (v := ?_) rfl (by kernel_rfl) (by kernel_rfl) (by kernel_rfl) (fun _ _ _ h => h) (Or.inl ⟨by rfl, ?_⟩) (by assumption) ?_
  rotate_left
  · intro w hSw; go_split_ands; go_simp; try with_reducible rfl
  simp only [Act.put, List.setIfInBounds_toArray, List.set_cons_zero, List.set_cons_succ, List.getElem_toArray, List.getElem_cons_zero, List.getElem_cons_succ]
  refine wpAnyH_take (i := 5) (v := ?_) rfl (by kernel_rfl) (by kernel_rfl) (by kernel_rfl) (fun _ _ _ h => h) (Or.inl ⟨by rfl, ?_⟩) (by assumption) ?_
  rotate_left
  · intro w hSw; go_split_ands; go_simp; try with_reducible rfl
  simp only [Act.put, List.setIfInBounds_toArray, List.set_cons_zero, List.set_cons_succ, List.getElem_toArray, List.getElem_cons_zero, List.getElem_cons_succ]
  refine wpAnyH_take (i := 6) (v := ?_) rfl (by kernel_rfl) (by kernel_rfl) (by kernel_rfl) (fun _ _ _ h => h) (Or.inl ⟨by rfl, ?_⟩) (by assumption) ?_
  rotate_left
  · intro w hSw; go_split_ands; go_simp; try with_reducible rfl
  simp only [Act.put, List.setIfInBounds_toArray, List.set_cons_zero, List.set_cons_succ, List.getElem_toArray, List.getElem_cons_zero, List.getElem_cons_succ]
  refine wpAnyH_take (i := 7) (v := ?_) rfl (by kernel_rfl) (by kernel_rfl) (by kernel_rfl) (fun _ _ _ h => h) (Or.inl ⟨by rfl, ?_⟩) (by assumption) ?_
  rotate_left
  · intro w hSw; go_split_ands; go_simp; try with_reducible rfl
  simp only [Act.put, List.setIfInBounds_toArray, List.set_cons_zero, List.set_cons_succ, List.getElem_toArray, List.getElem_cons_zero, List.getElem_cons_succ]
  refine wpAnyH_take (i := 8) (v := ?_) rfl (by kernel_rfl) (by kernel_rfl) (by kernel_rfl) (fun _ _ _ h => h) (Or.inl ⟨by rfl, ?_⟩) (by assumption) ?_
  rotate_left
  · intro w hSw; go_split_ands; go_simp; try with_reducible rfl
  simp only [Act.put, List.setIfInBounds_toArray, List.set_cons_zero, List.set_cons_succ, List.getElem_toArray, List.getElem_cons_zero, List.getElem_cons_succ]
  refine wpAnyH_take (i := 9) (v := ?_) rfl (by kernel_rfl) (by kernel_rfl) (by kernel_rfl) (fun _ _ _ h => h) (Or.inl ⟨by rfl, ?_⟩) (by assumption) ?_
  rotate_left
  · intro w hSw; go_split_ands; go_simp; try with_reducible rfl
  simp only [Act.put, List.setIfInBounds_toArray, List.set_cons_zero, List.set_cons_succ, List.getElem_toArray, List.getElem_cons_zero, List.getElem_cons_succ]
  refine wpAnyH_take (i := 10) (v := ?_) rfl (by kernel_rfl) (by kernel_rfl) (by kernel_rfl) (fun _ _ _ h => h) (Or.inl ⟨by rfl, ?_⟩) (by assumption) ?_
  rotate_left
  · intro w hSw; go_split_ands; go_simp; try with_reducible rfl
  simp only [Act.put, List.setIfInBounds_toArray, List.set_cons_zero, List.set_cons_succ, List.getElem_toArray, List.getElem_cons_zero, List.getElem_cons_succ]
  refine wpAnyH_take (i := 11) (v := ?_) rfl (by kernel_rfl) (by kernel_rfl) (by kernel_rfl) (fun _ _ _ h => h) (Or.inl ⟨by rfl, ?_⟩) (by assumption) ?_
  rotate_left
  · intro w hSw; go_split_ands; go_simp; try with_reducible rfl
  simp only [Act.put, List.setIfInBounds_toArray, List.set_cons_zero, List.set_cons_succ, List.getElem_toArray, List.getElem_cons_zero, List.getElem_cons_succ]
  refine wpAnyH_take (i := 12) (v := ?_) rfl (by kernel_rfl) (by kernel_rfl) (by kernel_rfl) (fun _ _ _ h => h) (Or.inl ⟨by rfl, ?_⟩) (by assumption) ?_
  rotate_left
  · intro w hSw; go_split_ands; go_simp; try with_reducible rfl
  simp only [Act.put, List.setIfInBounds_toArray, List.set_cons_zero, List.set_cons_succ, List.getElem_toArray, List.getElem_cons_zero, List.getElem_cons_succ]
  refine wpAnyH_ready (rs := [13]) (by kernel_rfl) (by simp) ?_
  refine AllReadyH.cons rfl (fun K hK => ?_) AllReadyH.nil
  go_simp
  refine (small_gx hG).mono ?_
  rintro y w' ⟨A, ca, rfl, ⟨y0, y1, y2, y3, y4, y5, y6, y7, y8⟩, hF, hb⟩
  refine hK.out _ _ ⟨y0, y1, y2, y3, y4, y5, y6, y7, y8⟩ (fun hHeld => ?_)
  clear hK K
  try simp only [Act.put, List.setIfInBounds_toArray, List.set_cons_zero, List.set_cons_succ]
  refine wpAnyH_ready (rs := [14]) (by kernel_rfl) (by simp) ?_
  refine AllReadyH.cons rfl (fun K hK => ?_) AllReadyH.nil
  go_simp
  refine (rest_gx (fs := smallf) y8 HA.out small_len le5 hF HRA.out).mono ?_
  rintro y w' ⟨rfl, ⟨x0, x1, x2, x3, x4, x5, x6, x7, x8⟩, hb2⟩
  refine hK.out _ _ ⟨x0, x1, x2, x3, x4, x5, x6, x7, x8⟩ (fun hHeld => ?_)
  clear hK K
  try simp only [Act.put, List.setIfInBounds_toArray, List.set_cons_zero, List.set_cons_succ]
  refine wpAnyH_take (i := 15) (v := ?_) rfl (by kernel_rfl) (by kernel_rfl) (by kernel_rfl) (fun _ _ _ h => h) (Or.inl ⟨by rfl, ?_⟩) (by assumption) ?_
  rotate_left
  · intro w hSw; go_split_ands; go_simp; try with_reducible rfl
  simp only [Act.put, List.setIfInBounds_toArray, List.set_cons_zero, List.set_cons_succ, List.getElem_toArray, List.getElem_cons_zero, List.getElem_cons_succ]
  refine wpAnyH_take (i := 16) (v := ?_) rfl (by kernel_rfl) (by kernel_rfl) (by kernel_rfl) (fun _ _ _ h => h) (Or.inl ⟨by rfl, ?_⟩) (by assumption) ?_
  rotate_left
  · intro w hSw; go_split_ands; go_simp; try with_reducible rfl
  simp only [Act.put, List.setIfInBounds_toArray, List.set_cons_zero, List.set_cons_succ, List.getElem_toArray, List.getElem_cons_zero, List.getElem_cons_succ]
  refine wpAnyH_take (i := 17) (v := ?_) rfl (by kernel_rfl) (by kernel_rfl) (by kernel_rfl) (fun _ _ _ h => h) (Or.inl ⟨by rfl, ?_⟩) (by assumption) ?_
  rotate_left
  · intro w hSw; go_split_ands; go_simp; try with_reducible rfl
  simp only [Act.put, List.setIfInBounds_toArray, List.set_cons_zero, List.set_cons_succ, List.getElem_toArray, List.getElem_cons_zero, List.getElem_cons_succ]
  refine wpAnyH_take (i := 18) rfl (by kernel_rfl) (by kernel_rfl) (by kernel_rfl) (fun _ _ _ h => h) (Or.inr ⟨by rfl, rfl⟩) (by assumption) ?_
  simp only [Act.put, List.setIfInBounds_toArray, List.set_cons_zero, List.set_cons_succ, List.getElem_toArray, List.getElem_cons_zero, List.getElem_cons_succ]
  refine wpAnyH_take (i := 19) rfl (by kernel_rfl) (by kernel_rfl) (by kernel_rfl) (fun _ _ _ h => h) (Or.inr ⟨by rfl, rfl⟩) (by assumption) ?_
  simp only [Act.put, List.setIfInBounds_toArray, List.set_cons_zero, List.set_cons_succ, List.getElem_toArray, List.getElem_cons_zero, List.getElem_cons_succ]
  refine wpAnyH_take (i := 20) rfl (by kernel_rfl) (by kernel_rfl) (by kernel_rfl) (fun _ _ _ h => h) (Or.inr ⟨by rfl, rfl⟩) (by assumption) ?_
  simp only [Act.put, List.setIfInBounds_toArray, List.set_cons_zero, List.set_cons_succ, List.getElem_toArray, List.getElem_cons_zero, List.getElem_cons_succ]
  refine wpAnyH_take (i := 21) rfl (by kernel_rfl) (by kernel_rfl) (by kernel_rfl) (fun _ _ _ h => h) (Or.inr ⟨by rfl, rfl⟩) (by assumption) ?_
  simp only [Act.put, List.setIfInBounds_toArray, List.set_cons_zero, List.set_cons_succ, List.getElem_toArray, List.getElem_cons_zero, List.getElem_cons_succ]
  refine wpAnyH_take (i := 22) rfl (by kernel_rfl) (by kernel_rfl) (by kernel_rfl) (fun _ _ _ h => h) (Or.inr ⟨by rfl, rfl⟩) (by assumption) ?_
  simp only [Act.put, List.setIfInBounds_toArray, List.set_cons_zero, List.set_cons_succ, List.getElem_toArray, List.getElem_cons_zero, List.getElem_cons_succ]
  refine wpAnyH_take (i := 23) rfl (by kernel_rfl) (by kernel_rfl) (by kernel_rfl) (fun _ _ _ h => h) (Or.inr ⟨by rfl, rfl⟩) (by assumption) ?_
  simp only [Act.put, List.setIfInBounds_toArray, List.set_cons_zero, List.set_cons_succ, List.getElem_toArray, List.getElem_cons_zero, List.getElem_cons_succ]
  refine wpAnyH_take (i := 24) (v := ?_) rfl (by kernel_rfl) (by kernel_rfl) (by kernel_rfl) (fun _ _ _ h => h) (Or.inl ⟨by rfl, ?_⟩) (by assumption) ?_
  rotate_left
  · intro w hSw; go_split_ands; go_simp; try with_reducible rfl
  simp only [Act.put, List.setIfInBounds_toArray, List.set_cons_zero, List.set_cons_succ, List.getElem_toArray, List.getElem_cons_zero, List.getElem_cons_succ]
  refine wpAnyH_done (by kernel_rfl) ?_ _
  have hZ := x8.zb
  clear hG hF hb hb2 hHeld y0 y1 y2 y3 y4 y5 y6 y7 y8 x0 x1 x2 x3 x4 x5 x6 x7 x8
  clear c0 c1 c2 c3 c4 c5 c6 c7
  have HO := Lib.hid hZ.old
  obtain ⟨k0, k1, k2, k3, k4, k5, k6, k7, k8, k9, k10, k11, k12, hf, _, _, lt⟩ := hZ
  simp only [Tng.zero, Tng.of, Int.ofNat_zero] at k0 k1 k2 k3 k4 k5 k6 k7 k8 k9 k10 k11 k12
  have f0 := hf 0
  have f1 := hf 1
  have f2 := hf 2
  have f3 := hf 3
  have f4 := hf 4
  have f5 := hf 5
  have f6 := hf 6
  have f7 := hf 7
  have f8 := hf 8
  have f9 := hf 9
  have f10 := hf 10
  have f11 := hf 11
  have f12 := hf 12
  clear hf
  go_wp2
  refine bodyPost_ret (by simp [results, Try.results13, go_sem, k0, k1, k2, k3, k4, k5, k6, k7, k8, k9, k10, k11, k12]; rfl) rfl ?_
  exact ⟨rfl, below_put HO.out (Nat.le_refl _) _ _ _ _ _ _ _ _ _ _ _ _ _⟩
set_option maxHeartbeats 4000000 in
theorem get_beside2 {r : Nat} {b o cap a e x d0 d1 d2 d3 z : Nat} {w : World} (hc : w.cell? ⟨b, o, none⟩ = some (.int .u64 (a : Int)) ∧ w.cell? ⟨b, o + 1, none⟩ = some (.int .u64 (e : Int)) ∧ w.cell? ⟨b, o + 2, none⟩ = some (.int .u64 (x : Int)) ∧ w.cell? ⟨b, o + 3, none⟩ = some (.int .u64 (d0 : Int)) ∧ w.cell? ⟨b, o + 4, none⟩ = some (.int .u64 (d1 : Int)) ∧ w.cell? ⟨b, o + 5, none⟩ = some (.int .u64 (d2 : Int)) ∧ w.cell? ⟨b, o + 6, none⟩ = some (.int .u64 (d3 : Int)) ∧ w.cell? ⟨b, o + 7, none⟩ = some (.int .u64 (z : Int))) (hlt : b < w.heap.size) (hz : z = 0) (ha : a ≤ top) (he : e ≤ top) (hra : rest a smallf = 0) (hre : rest e largef = r) (hr : ¬ r = 0) :
    Calls Try.prog 13 #[.slice (some ⟨b, o, none⟩) 8 cap] w fun y w' => y = .returned (tv none) ∧ Below w.heap.size w w' := by
  have q1 : ((z : Int) != 0) = false := by simp [hz]
  have q3 : ((z : Int) == 0) = true := by simp [hz]
  clear hz
  have hX := Gx.start hc hlt
  clear hc hlt
  have HA := Lib.hid ha
  have HE := Lib.hid he
  have HRA := Lib.hid hra
  have HRE := Lib.hid hre
  clear ha he hra hre
  have z1 : ((r : Int) != 0) = true := by simpa using hr
  have z2 : ¬ (r : Int) = 0 := by omega
  have z3 : ((r : Int) == 0) = false := by simpa using hr
  clear hr
  go_enter Try.func13, Try.ntmps13
  go_wp2_with fail
  generalize w.alloc _ = w1 at hX ⊢
  obtain ⟨c0, c1, c2, c3, c4, c5, c6, c7, hG⟩ := hX.drew.cells
  clear hX
  go_wp2_with fail
  go_region_held3 (fun w' => w'.cell? ⟨b, o, none⟩ = some (.int .u64 (a : Int)) ∧ w'.cell? ⟨b, o + 1, none⟩ = some (.int .u64 (e : Int)) ∧ w'.cell? ⟨b, o + 2, none⟩ = some (.int .u64 (x : Int)) ∧ w'.cell? ⟨b, o + 3, none⟩ = some (.int .u64 (d0 : Int)) ∧ w'.cell? ⟨b, o + 4, none⟩ = some (.int .u64 (d1 : Int)) ∧ w'.cell? ⟨b, o + 5, none⟩ = some (.int .u64 (d2 : Int)) ∧ w'.cell? ⟨b, o + 6, none⟩ = some (.int .u64 (d3 : Int)) ∧ w'.cell? ⟨b, o + 7, none⟩ = some (.int .u64 (z : Int)) ∧ Gx w w' w.heap.size b o a e x d0 d1 d2 d3 z)
    (first | exact ⟨by with_reducible assumption, by with_reducible assumption, by with_reducible assumption, by with_reducible assumption, by with_reducible assumption, by with_reducible assumption, by with_reducible assumption, by with_reducible assumption, by with_reducible assumption⟩ | fail)
    (first | (go_at_call 24; ((with_reducible refine (small_gx (by with_reducible assumption)).mono ?_); rintro y w' ⟨A, ca, rfl, ⟨y0, y1, y2, y3, y4, y5, y6, y7, y8⟩, hF, hb⟩)) | (go_at_call 30; ((with_reducible refine (rest_gx (fs := smallf) (by with_reducible assumption) HA.out small_len le5 (by with_reducible assumption) HRA.out).mono ?_); rintro y w' ⟨rfl, ⟨x0, x1, x2, x3, x4, x5, x6, x7, x8⟩, hb⟩)) | (go_at_call 26; ((with_reducible refine (large_gx (by with_reducible assumption)).mono ?_); rintro y w' ⟨A, ca, rfl, ⟨u0, u1, u2, u3, u4, u5, u6, u7, u8⟩, hF, hb⟩)) | (go_at_call 30; ((with_reducible refine (rest_gx (fs := largef) (by with_reducible assumption) HE.out large_len le3 (by with_reducible assumption) HRE.out).mono ?_); rintro y w' ⟨rfl, ⟨v0, v1, v2, v3, v4, v5, v6, v7, v8⟩, hb⟩)))
  have hZ := v8.zb
  clear hG y0 y1 y2 y3 y4 y5 y6 y7 y8 x0 x1 x2 x3 x4 x5 x6 x7 x8 u0 u1 u2 u3 u4 u5 u6 u7 u8 v0 v1 v2 v3 v4 v5 v6 v7 v8
  clear c0 c1 c2 c3 c4 c5 c6 c7
  have HO := Lib.hid hZ.old
  obtain ⟨k0, k1, k2, k3, k4, k5, k6, k7, k8, k9, k10, k11, k12, hf, _, _, lt⟩ := hZ
  simp only [Tng.zero, Tng.of, Int.ofNat_zero] at k0 k1 k2 k3 k4 k5 k6 k7 k8 k9 k10 k11 k12
  have f0 := hf 0
  have f1 := hf 1
  have f2 := hf 2
  have f3 := hf 3
  have f4 := hf 4
  have f5 := hf 5
  have f6 := hf 6
  have f7 := hf 7
  have f8 := hf 8
  have f9 := hf 9
  have f10 := hf 10
  have f11 := hf 11
  have f12 := hf 12
  clear hf
  go_wp2
  refine bodyPost_ret (by simp [results, Try.results13, go_sem, k0, k1, k2, k3, k4, k5, k6, k7, k8, k9, k10, k11, k12]; rfl) rfl ?_
  exact ⟨rfl, below_put HO.out (Nat.le_refl _) _ _ _ _ _ _ _ _ _ _ _ _ _⟩
end Go.Proofs.Ytglibcmlophieaa
