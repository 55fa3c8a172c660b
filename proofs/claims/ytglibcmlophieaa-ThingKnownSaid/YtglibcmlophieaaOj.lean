/-
  The walk of Get where nothing is beside the fields. Condition: the words lie in memory.
-/
import Derived.Test.YtglibcmlophieaaOh
import Derived.BigRegion
namespace Go.Proofs.Ytglibcmlophieaa
open Go.RowKit

theorem WordsAt.of5 {w : World} {A : Option Addr} {a0 a1 a2 a3 a4 : Nat} (h : WordsAt w w.heap.size A [a0, a1, a2, a3, a4]) : ∃ b o, A = some ⟨b, o, none⟩ ∧ b < w.heap.size ∧ w.cell? ⟨b, o, none⟩ = some (.int .u64 (a0 : Int)) ∧ w.cell? ⟨b, o + 1, none⟩ = some (.int .u64 (a1 : Int)) ∧ w.cell? ⟨b, o + 2, none⟩ = some (.int .u64 (a2 : Int)) ∧ w.cell? ⟨b, o + 3, none⟩ = some (.int .u64 (a3 : Int)) ∧ w.cell? ⟨b, o + 4, none⟩ = some (.int .u64 (a4 : Int)) := by
  obtain ⟨b, o, e, hlt, hc⟩ := h (by simp)
  exact ⟨b, o, e, hlt, hc 0 _ rfl, hc 1 _ rfl, hc 2 _ rfl, hc 3 _ rfl, hc 4 _ rfl⟩
theorem WordsAt.of3 {w : World} {A : Option Addr} {a0 a1 a2 : Nat} (h : WordsAt w w.heap.size A [a0, a1, a2]) : ∃ b o, A = some ⟨b, o, none⟩ ∧ b < w.heap.size ∧ w.cell? ⟨b, o, none⟩ = some (.int .u64 (a0 : Int)) ∧ w.cell? ⟨b, o + 1, none⟩ = some (.int .u64 (a1 : Int)) ∧ w.cell? ⟨b, o + 2, none⟩ = some (.int .u64 (a2 : Int)) := by
  obtain ⟨b, o, e, hlt, hc⟩ := h (by simp)
  exact ⟨b, o, e, hlt, hc 0 _ rfl, hc 1 _ rfl, hc 2 _ rfl⟩
theorem gotten_small (a : Nat) : gotten a smallf = [a % 256, a / 256 % 256, a / 65536 % 256, a / 16777216 % 2, a / 4294967296 % 256] := by
  rw [gotten, if_pos (by decide +kernel), gets_small]
theorem gotten_large (a : Nat) : gotten a largef = [a % 65536, a / 65536 % 65536, a / 4294967296 % 65536] := by
  rw [gotten, if_pos (by decide +kernel), gets_large]
theorem Tbx.isq {W w : World} {g : Nat} {t : Tng} {a b c d : Nat} (h : Tbx W w g t) (j : Nat) (hj : j < (d4 a b c d).length) : (w.cell? ⟨g, 9 + j, none⟩).isSome = true := by
  have hj : j < 4 := hj
  rcases (by omega : j = 0 ∨ j = 1 ∨ j = 2 ∨ j = 3) with rfl | rfl | rfl | rfl
  · rw [h.c9]; rfl
  · rw [h.c10]; rfl
  · rw [h.c11]; rfl
  · rw [h.c12]; rfl
theorem Tbx.copied {W w : World} {g : Nat} {ty bits base size used frm badge : Int} {full : Bool} {word d0 d1 d2 d3 p0 p1 p2 p3 : Nat} (h : Tbx W w g (Tng.mk ty bits base size used frm badge full word d0 d1 d2 d3)) :
    Tbx W (w.setCells g 9 (d4 p0 p1 p2 p3)) g (Tng.mk ty bits base size used frm badge full word p0 p1 p2 p3) := by
  have e : ∀ j, j < 9 → (w.setCells g 9 (d4 p0 p1 p2 p3)).cell? ⟨g, j, none⟩ = w.cell? ⟨g, j, none⟩ := fun j hj => World.cell?_setCells_out g _ 9 w ⟨g, j, none⟩ (fun _ _ => .inl hj)
  have i := World.cell?_setCells_in g (d4 p0 p1 p2 p3) 9 w (fun j hj => h.isq j hj)
  refine ⟨(e 0 (by decide)).trans h.c0, (e 1 (by decide)).trans h.c1, (e 2 (by decide)).trans h.c2, (e 3 (by decide)).trans h.c3, (e 4 (by decide)).trans h.c4, (e 5 (by decide)).trans h.c5, (e 6 (by decide)).trans h.c6, (e 7 (by decide)).trans h.c7, (e 8 (by decide)).trans h.c8, i 0 (by show 0 < 4; decide), i 1 (by show 1 < 4; decide), i 2 (by show 2 < 4; decide), i 3 (by show 3 < 4; decide), fun j => by rw [World.frozen?_setCells]; exact h.free j, ?_, h.base, ?_⟩
  · exact (((h.old.setCell (p := ⟨g, 9, none⟩) h.base _).setCell (p := ⟨g, 10, none⟩) h.base _).setCell (p := ⟨g, 11, none⟩) h.base _).setCell (p := ⟨g, 12, none⟩) h.base _
  · have := h.lt
    simpa [World.setCells, World.setCell, d4] using this
theorem Tbx.others {W w : World} {g m k : Nat} {t : Tng} (h : Tbx W w g t) (hm : m ≠ g) (hW : W.heap.size ≤ m) : ∀ (vs : List Value), Tbx W (w.setCells m k vs) g t := by
  intro vs
  induction vs generalizing k w with
  | nil => exact h
  | cons v vs ih => exact ih (h.other hm hW k v)
theorem Gx.src {W w : World} {g b o a e x d0 d1 d2 d3 z : Nat} (h : Gx W w g b o a e x d0 d1 d2 d3 z) : ∀ j v, (d4 d0 d1 d2 d3)[j]? = some v → w.cell? ((⟨b, o + 3, none⟩ : Addr).add j) = some v := by
  intro j v hv
  have hj : j < 4 := (List.getElem?_eq_some_iff.1 hv).1
  rcases (by omega : j = 0 ∨ j = 1 ∨ j = 2 ∨ j = 3) with rfl | rfl | rfl | rfl <;> injection hv with hv <;> subst hv
  · exact h.c3
  · exact h.c4
  · exact h.c5
  · exact h.c6
set_option maxHeartbeats 4000000 in
theorem get_all {gd : Bool} {b o cap a e x d0 d1 d2 d3 z : Nat} {w : World} (hc : w.cell? ⟨b, o, none⟩ = some (.int .u64 (a : Int)) ∧ w.cell? ⟨b, o + 1, none⟩ = some (.int .u64 (e : Int)) ∧ w.cell? ⟨b, o + 2, none⟩ = some (.int .u64 (x : Int)) ∧ w.cell? ⟨b, o + 3, none⟩ = some (.int .u64 (d0 : Int)) ∧ w.cell? ⟨b, o + 4, none⟩ = some (.int .u64 (d1 : Int)) ∧ w.cell? ⟨b, o + 5, none⟩ = some (.int .u64 (d2 : Int)) ∧ w.cell? ⟨b, o + 6, none⟩ = some (.int .u64 (d3 : Int)) ∧ w.cell? ⟨b, o + 7, none⟩ = some (.int .u64 (z : Int))) (hlt : b < w.heap.size) (hz : z = 0) (ha : a ≤ top) (he : e ≤ top) (hra : rest a smallf = 0) (hre : rest e largef = 0) (hg : (tofp a e x d0 d1 d2 d3).good = gd) (hc3 : ¬ cap = 3) :
    Calls Try.prog 13 #[.slice (some ⟨b, o, none⟩) 8 cap] w fun y w' => y = .returned (tv (if gd = true then some (tofp a e x d0 d1 d2 d3) else none)) ∧ Below w.heap.size w w' := by
  have q1 : ((z : Int) != 0) = false := by simp [hz]
  have q3 : ((z : Int) == 0) = true := by simp [hz]
  clear hz
  have hX := Gx.start hc hlt
  clear hc hlt
  have HA := Lib.hid ha
  have HE := Lib.hid he
  have HRA := Lib.hid hra
  have HRE := Lib.hid hre
  clear ha he hra hre
  have hla := gotten_small a
  have hlb := gotten_large e
  have ba0 : a % 256 < 256 := by omega
  have ba1 : a / 256 % 256 < 256 := by omega
  have ba2 : a / 65536 % 256 < 256 := by omega
  have ba4 : a / 4294967296 % 256 < 256 := by omega
  have bb0 : e % 65536 < 65536 := by omega
  have bb1 : e / 65536 % 65536 < 65536 := by omega
  have bb2 : e / 4294967296 % 65536 < 65536 := by omega
  have hfl : (a / 16777216 % 2 == 1) = (((a / 16777216 % 2 : Nat) : Int) == 1) := by rw [Bool.eq_iff_iff]; simp; omega
  unfold tofp at hg ⊢
  rw [hfl] at hg ⊢
  clear hfl
  generalize a % 256 = a0 at *
  generalize a / 256 % 256 = a1 at *
  generalize a / 65536 % 256 = a2 at *
  generalize a / 16777216 % 2 = a3 at *
  generalize a / 4294967296 % 256 = a4 at *
  generalize e % 65536 = b0 at *
  generalize e / 65536 % 65536 = b1 at *
  generalize e / 4294967296 % 65536 = b2 at *
  generalize hfl : (((a3 : Nat) : Int) == 1) = fl at hg ⊢
  have HG : ∀ w, Calls Try.prog 9 #[.agg #[.int .i64 (a0 : Int), .int .i64 (a1 : Int), .int .i64 (a2 : Int), .int .i64 (b0 : Int), .int .i64 (b1 : Int), .int .i64 (a4 : Int), .int .i64 (b2 : Int), .bool fl, .int .u64 (x : Int), .int .u64 (d0 : Int), .int .u64 (d1 : Int), .int .u64 (d2 : Int), .int .u64 (d3 : Int)]] w fun y w' => y = .returned (.bool gd) ∧ Below w.heap.size w w' := fun w => by
    have := goodt_any (Tng.mk a0 a1 a2 b0 b1 a4 b2 fl x d0 d1 d2 d3) w
    rw [hg] at this
    exact this
  have HGD := Lib.hid HG
  clear HG hg
  have HLA := Lib.hid hla
  have HLB := Lib.hid hlb
  clear hla hlb
  have wa0 : wrap64 (a0 : Int) = a0 := tw64 (by omega) (by omega)
  have wa1 : wrap64 (a1 : Int) = a1 := tw64 (by omega) (by omega)
  have wa2 : wrap64 (a2 : Int) = a2 := tw64 (by omega) (by omega)
  have wa4 : wrap64 (a4 : Int) = a4 := tw64 (by omega) (by omega)
  have wb0 : wrap64 (b0 : Int) = b0 := tw64 (by omega) (by omega)
  have wb1 : wrap64 (b1 : Int) = b1 := tw64 (by omega) (by omega)
  have wb2 : wrap64 (b2 : Int) = b2 := tw64 (by omega) (by omega)
  clear ba0 ba1 ba2 ba4 bb0 bb1 bb2
  go_enter Try.func13, Try.ntmps13
  go_wp2_with fail
  generalize w.alloc _ = w1 at hX ⊢
  obtain ⟨c0, c1, c2, c3, c4, c5, c6, c7, hG⟩ := hX.drew.cells
  clear hX
  go_wp2_with fail
  go_region_held3 (fun w' => w'.cell? ⟨b, o, none⟩ = some (.int .u64 (a : Int)) ∧ w'.cell? ⟨b, o + 1, none⟩ = some (.int .u64 (e : Int)) ∧ w'.cell? ⟨b, o + 2, none⟩ = some (.int .u64 (x : Int)) ∧ w'.cell? ⟨b, o + 3, none⟩ = some (.int .u64 (d0 : Int)) ∧ w'.cell? ⟨b, o + 4, none⟩ = some (.int .u64 (d1 : Int)) ∧ w'.cell? ⟨b, o + 5, none⟩ = some (.int .u64 (d2 : Int)) ∧ w'.cell? ⟨b, o + 6, none⟩ = some (.int .u64 (d3 : Int)) ∧ w'.cell? ⟨b, o + 7, none⟩ = some (.int .u64 (z : Int)) ∧ Gx w w' w.heap.size b o a e x d0 d1 d2 d3 z)
    (first | exact ⟨by with_reducible assumption, by with_reducible assumption, by with_reducible assumption, by with_reducible assumption, by with_reducible assumption, by with_reducible assumption, by with_reducible assumption, by with_reducible assumption, by with_reducible assumption⟩ | fail)
    (first | (go_at_call 24; ((with_reducible refine (small_gx (by with_reducible assumption)).mono ?_); rintro y w' ⟨A, ca, rfl, ⟨y0, y1, y2, y3, y4, y5, y6, y7, y8⟩, hF, hb⟩)) | (go_at_call 30; ((with_reducible refine (rest_gx (fs := smallf) (by with_reducible assumption) HA.out small_len le5 (by with_reducible assumption) HRA.out).mono ?_); rintro y w' ⟨rfl, ⟨x0, x1, x2, x3, x4, x5, x6, x7, x8⟩, hb⟩)) | (go_at_call 26; ((with_reducible refine (large_gx (by with_reducible assumption)).mono ?_); rintro y w' ⟨A, ca, rfl, ⟨u0, u1, u2, u3, u4, u5, u6, u7, u8⟩, hF, hb⟩)) | (go_at_call 30; ((with_reducible refine (rest_gx (fs := largef) (by with_reducible assumption) HE.out large_len le3 (by with_reducible assumption) HRE.out).mono ?_); rintro y w' ⟨rfl, ⟨v0, v1, v2, v3, v4, v5, v6, v7, v8⟩, hb⟩)))
  have HX := Lib.hid v8
  clear hG HRA HRE q1 q3 y0 y1 y2 y3 y4 y5 y6 y7 y8 x0 x1 x2 x3 x4 x5 x6 x7 x8 u0 u1 u2 u3 u4 u5 u6 u7 u8 v0 v1 v2 v3 v4 v5 v6 v7 v8
  clear c0 c1 c2 c3 c4 c5 c6 c7
  go_upto_region 3 with fail
  go_cut [4, 5] from 7 to 42 (fun s4 s5 wx => ∃ (BA : Option Addr) (cA : Nat) (BB : Option Addr) (cB : Nat), s4 = .slice BA 5 cA ∧ s5 = .slice BB 3 cB ∧ WordsAt wx wx.heap.size BA [a0, a1, a2, a3, a4] ∧ WordsAt wx wx.heap.size BB [b0, b1, b2] ∧ Gx w wx w.heap.size b o a e x d0 d1 d2 d3 z)
  case first =>
    obtain ⟨c0, c1, c2, c3, c4, c5, c6, c7, hG⟩ := HX.out.drew.cells
    go_region_held3 (fun w' => w'.cell? ⟨b, o, none⟩ = some (.int .u64 (a : Int)) ∧ w'.cell? ⟨b, o + 1, none⟩ = some (.int .u64 (e : Int)) ∧ w'.cell? ⟨b, o + 2, none⟩ = some (.int .u64 (x : Int)) ∧ w'.cell? ⟨b, o + 3, none⟩ = some (.int .u64 (d0 : Int)) ∧ w'.cell? ⟨b, o + 4, none⟩ = some (.int .u64 (d1 : Int)) ∧ w'.cell? ⟨b, o + 5, none⟩ = some (.int .u64 (d2 : Int)) ∧ w'.cell? ⟨b, o + 6, none⟩ = some (.int .u64 (d3 : Int)) ∧ w'.cell? ⟨b, o + 7, none⟩ = some (.int .u64 (z : Int)) ∧ Gx w w' w.heap.size b o a e x d0 d1 d2 d3 z)
      (first | exact ⟨by with_reducible assumption, by with_reducible assumption, by with_reducible assumption, by with_reducible assumption, by with_reducible assumption, by with_reducible assumption, by with_reducible assumption, by with_reducible assumption, by with_reducible assumption⟩ | fail)
      (first | (go_at_call 24; ((with_reducible refine (small_gx (by with_reducible assumption)).mono ?_); rintro y w' ⟨A, ca, rfl, ⟨y0, y1, y2, y3, y4, y5, y6, y7, y8⟩, hF, hb⟩)) | (go_at_call 31; ((with_reducible refine (get_gx (fs := smallf) (by with_reducible assumption) HA.out small_len le5 (by with_reducible assumption) HLA.out (len5 a0 a1 a2 a3 a4).symm).mono ?_); rintro y w' ⟨BA, cA, rfl, ⟨x0, x1, x2, x3, x4, x5, x6, x7, x8⟩, hWA, hb⟩; first | (have hF := FdsAt.grow (by with_reducible assumption) hb) | skip)) | (go_at_call 26; ((with_reducible refine (large_gx (by with_reducible assumption)).mono ?_); rintro y w' ⟨A, ca, rfl, ⟨u0, u1, u2, u3, u4, u5, u6, u7, u8⟩, hF, hb⟩; first | (have hWA := WordsAt.grow (l := [a0, a1, a2, a3, a4]) (by with_reducible assumption) hb) | skip)) | (go_at_call 31; ((with_reducible refine (get_gx (fs := largef) (by with_reducible assumption) HE.out large_len le3 (by with_reducible assumption) HLB.out (len3 b0 b1 b2).symm).mono ?_); rintro y w' ⟨BB, cB, rfl, ⟨v0, v1, v2, v3, v4, v5, v6, v7, v8⟩, hWB, hb⟩; first | (have hWA := WordsAt.grow (l := [a0, a1, a2, a3, a4]) (by with_reducible assumption) hb) | skip)))
    go_wp2_with fail
    go_meet
    exact ⟨_, _, _, _, rfl, rfl, hWA, hWB, v8⟩
  obtain ⟨w3, hw3⟩ : ∃ w3, w3 = wc := ⟨_, rfl⟩
  subst hw3
  obtain ⟨BA, cA, BB, cB, rfl, rfl, hWA, hWB, v8⟩ := hcut
  obtain ⟨pa, qa, rfl, la, e0, e1, e2, e3, e4⟩ := hWA.of5
  obtain ⟨pb, qb, rfl, lb, f0, f1, f2⟩ := hWB.of3
  clear HX
  have HX := Lib.hid v8
  have lg : b < w3.heap.size := Nat.lt_of_lt_of_le v8.lt v8.zb.old.size
  have i2 := v8.c2
  clear hWA hWB HA HE HLA HLB v8
  go_upto_region 4 with fail
  go_cut [6] from 43 to 63 (fun c wx => c = .pointer (some ⟨w3.heap.size, 0, none⟩) ∧ wx = (w3.alloc (.cells #[.int .i64 (a0 : Int), .int .i64 (a1 : Int), .int .i64 (a2 : Int), .int .i64 0, .int .i64 0, .int .i64 (a4 : Int), .int .i64 0, .bool fl, .int .u64 0, .int .u64 0, .int .u64 0, .int .u64 0, .int .u64 0] 26)).drew)
  case first =>
    go_region
    go_wp2_with fail
    go_meet
    exact ⟨rfl, rfl⟩
  obtain ⟨rfl, hw⟩ := hcut
  subst hw
  go_upto_region 5 with fail
  go_cut [] from 64 to 78 (fun wx => wx = (w3.alloc (.cells #[.int .i64 (a0 : Int), .int .i64 (a1 : Int), .int .i64 (a2 : Int), .int .i64 (b0 : Int), .int .i64 (b1 : Int), .int .i64 (a4 : Int), .int .i64 (b2 : Int), .bool fl, .int .u64 0, .int .u64 0, .int .u64 0, .int .u64 0, .int .u64 0] 26)).drew.drew)
  case first =>
    go_region
    go_wp2_with fail
    go_meet
    exact rfl
  subst hcut
  clear e0 e1 e2 e3 e4 f0 f1 f2 la lb wa0 wa1 wa2 wa4 wb0 wb1 wb2 hfl
  go_wp2_with fail
  have hT : Tbx w3 (w3.alloc (.cells #[.int .i64 (a0 : Int), .int .i64 (a1 : Int), .int .i64 (a2 : Int), .int .i64 (b0 : Int), .int .i64 (b1 : Int), .int .i64 (a4 : Int), .int .i64 (b2 : Int), .bool fl, .int .u64 (x : Int), .int .u64 0, .int .u64 0, .int .u64 0, .int .u64 0] 26)).drew.drew w3.heap.size (Tng.mk a0 a1 a2 b0 b1 a4 b2 fl x 0 0 0 0) := (Tbx.new w3 (Tng.mk a0 a1 a2 b0 b1 a4 b2 fl x 0 0 0 0) 26).drew.drew
  have hX2 : Gx w (w3.alloc (.cells #[.int .i64 (a0 : Int), .int .i64 (a1 : Int), .int .i64 (a2 : Int), .int .i64 (b0 : Int), .int .i64 (b1 : Int), .int .i64 (a4 : Int), .int .i64 (b2 : Int), .bool fl, .int .u64 (x : Int), .int .u64 0, .int .u64 0, .int .u64 0, .int .u64 0] 26)).drew.drew w.heap.size b o a e x d0 d1 d2 d3 z := (HX.out.on (below_alloc w3 _)).drew.drew
  have hne : w.heap.size < w3.heap.size := HX.out.zb.lt
  generalize (w3.alloc (.cells #[.int .i64 (a0 : Int), .int .i64 (a1 : Int), .int .i64 (a2 : Int), .int .i64 (b0 : Int), .int .i64 (b1 : Int), .int .i64 (a4 : Int), .int .i64 (b2 : Int), .bool fl, .int .u64 (x : Int), .int .u64 0, .int .u64 0, .int .u64 0, .int .u64 0] 26)).drew.drew = w6 at hT hX2 ⊢
  obtain ⟨m, hm⟩ : ∃ m, m = w3.heap.size := ⟨_, rfl⟩
  rw [← hm] at hT hne ⊢
  have HT := Lib.hid hT.drew
  have HX2 := Lib.hid hX2.drew
  have HN := Lib.hid hne
  clear hT hX2 hne HX lg i2 hm
  go_region_law (refine step_copy_cells rfl (.tmp 84) (.tmp 86) 29 29 rfl 23 Try.underlying29 tsize23 m 9 4 4 ⟨b, o + 3, none⟩ 5 _ (by rfl) (by rfl) (d4 d0 d1 d2 d3) (by rfl) HX2.out.src (fun j hj => HT.out.isq j hj) (fun j _ => HT.out.free _) (d4_one d0 d1 d2 d3) ?_)
  have hT := HT.out.copied (p0 := d0) (p1 := d1) (p2 := d2) (p3 := d3)
  have hZ := HX2.out.zb.others (m := m) (k := 9) (by have := HN.out; omega) (Nat.le_of_lt HN.out) (d4 d0 d1 d2 d3)
  clear HT HX2 HN
  generalize w6.drew.setCells _ _ _ = w7 at hT hZ ⊢
  have e0 := hT.c0
  have e1 := hT.c1
  have e2 := hT.c2
  have e3 := hT.c3
  have e4 := hT.c4
  have e5 := hT.c5
  have e6 := hT.c6
  have e7 := hT.c7
  have e8 := hT.c8
  have e9 := hT.c9
  have e10 := hT.c10
  have e11 := hT.c11
  have e12 := hT.c12
  simp only at e0 e1 e2 e3 e4 e5 e6 e7 e8 e9 e10 e11 e12
  go_wp2_with fail
  clear e0 e1 e2 e3 e4 e5 e6 e7 e8 e9 e10 e11 e12
  refine (HGD.out w7).mono ?_
  rintro y w8 ⟨rfl, hb⟩
  have hT2 := hT.on hb
  have hZ2 := hZ.on hb
  clear hT hZ hb HGD
  have hZ := hZ2
  clear hZ2
  cases gd
  · clear hT2
    have HO := Lib.hid hZ.old
    obtain ⟨k0, k1, k2, k3, k4, k5, k6, k7, k8, k9, k10, k11, k12, hf, _, _, lt⟩ := hZ
    simp only [Tng.zero, Tng.of, Int.ofNat_zero] at k0 k1 k2 k3 k4 k5 k6 k7 k8 k9 k10 k11 k12
    have f0 := hf 0
    have f1 := hf 1
    have f2 := hf 2
    have f3 := hf 3
    have f4 := hf 4
    have f5 := hf 5
    have f6 := hf 6
    have f7 := hf 7
    have f8 := hf 8
    have f9 := hf 9
    have f10 := hf 10
    have f11 := hf 11
    have f12 := hf 12
    clear hf
    go_wp2
    refine bodyPost_ret (by simp [results, Try.results13, go_sem, k0, k1, k2, k3, k4, k5, k6, k7, k8, k9, k10, k11, k12]; rfl) rfl ?_
    exact ⟨rfl, below_put HO.out (Nat.le_refl _) _ _ _ _ _ _ _ _ _ _ _ _ _⟩
  ·
    have e0 := hT2.c0
    have e1 := hT2.c1
    have e2 := hT2.c2
    have e3 := hT2.c3
    have e4 := hT2.c4
    have e5 := hT2.c5
    have e6 := hT2.c6
    have e7 := hT2.c7
    have e8 := hT2.c8
    have e9 := hT2.c9
    have e10 := hT2.c10
    have e11 := hT2.c11
    have e12 := hT2.c12
    simp only at e0 e1 e2 e3 e4 e5 e6 e7 e8 e9 e10 e11 e12
    have lt2 := hT2.lt
    clear hT2
    have HO := Lib.hid hZ.old
    obtain ⟨k0, k1, k2, k3, k4, k5, k6, k7, k8, k9, k10, k11, k12, hf, _, _, lt⟩ := hZ
    simp only [Tng.zero, Tng.of, Int.ofNat_zero] at k0 k1 k2 k3 k4 k5 k6 k7 k8 k9 k10 k11 k12
    have f0 := hf 0
    have f1 := hf 1
    have f2 := hf 2
    have f3 := hf 3
    have f4 := hf 4
    have f5 := hf 5
    have f6 := hf 6
    have f7 := hf 7
    have f8 := hf 8
    have f9 := hf 9
    have f10 := hf 10
    have f11 := hf 11
    have f12 := hf 12
    clear hf
    go_wp2
    refine bodyPost_ret (by simp [results, Try.results13, go_sem, k0, k1, k2, k3, k4, k5, k6, k7, k8, k9, k10, k11, k12]; rfl) rfl ?_
    exact ⟨rfl, below_put HO.out (Nat.le_refl _) _ _ _ _ _ _ _ _ _ _ _ _ _⟩
end Go.Proofs.Ytglibcmlophieaa
