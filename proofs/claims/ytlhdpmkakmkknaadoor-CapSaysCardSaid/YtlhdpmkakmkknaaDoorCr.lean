/-
  The walk of the law CapSays: it answers true. Condition: the word is a word; the library's table of powers of ten is laid.
-/
import Derived.Test.YtlhdpmkakmkknaaDoorCs
namespace Go.Proofs.YtlhdpmkakmkknaaDoor
open Go.RowKit

section
variable {a0 a1 a2 a3 b0 b1 b2 b3 g0 g1 g2 g3 e n r : Int} {k : Bool} {z : Nat} {s : ByteArray} {w : World}
theorem y_word {m : Int} (h : putV (Cp.word ⟨a0, a1, a2, a3⟩) = .tuple #[.int .u64 m, .bool k]) (w : World) : Calls Tryd.prog 9 #[.agg #[.int .i64 a0, .int .i64 a1, .int .i64 a2, .int .i64 a3]] w fun v w' => v = .returned (.tuple #[.int .u64 m, .bool k]) ∧ Below w.heap.size w w' := h ▸ word_any ⟨a0, a1, a2, a3⟩ w
theorem y_rword {m : Int} (h : putV (Cp.word ⟨a0, a1, a2, a3⟩) = .tuple #[.int .u64 m, .bool k]) (w : World) : Calls Tryd.prog 17 #[.agg #[.int .i64 a0, .int .i64 a1, .int .i64 a2, .int .i64 a3]] w fun v w' => v = .returned (.tuple #[.int .u64 m, .bool k]) ∧ Below w.heap.size w w' := h ▸ rword_any ⟨a0, a1, a2, a3⟩ w
theorem y_own (w : World) : Calls Tryd.prog 18 #[.agg #[.int .i64 a0, .int .i64 a1, .int .i64 a2, .int .i64 a3]] w fun v w' => v = .returned (.agg #[.int .i64 a0, .int .i64 a1, .int .i64 a2, .int .i64 a3]) ∧ Below w.heap.size w w' := own_any ⟨a0, a1, a2, a3⟩ w
theorem y_get (hz : z ≤ top) (h : gotV (Cp.get z) = .tuple #[.agg #[.int .i64 g0, .int .i64 g1, .int .i64 g2, .int .i64 g3], .bool k]) (w : World) : Calls Tryd.prog 14 #[.int .u64 (z : Int)] w fun v w' => v = .returned (.tuple #[.agg #[.int .i64 g0, .int .i64 g1, .int .i64 g2, .int .i64 g3], .bool k]) ∧ Below w.heap.size w w' := h ▸ cget_any z hz w
theorem y_rget (hz : z ≤ top) (h : gotV (Cp.get z) = .tuple #[.agg #[.int .i64 g0, .int .i64 g1, .int .i64 g2, .int .i64 g3], .bool k]) (w : World) : Calls Tryd.prog 19 #[.int .u64 (z : Int)] w fun v w' => v = .returned (.tuple #[.agg #[.int .i64 g0, .int .i64 g1, .int .i64 g2, .int .i64 g3], .bool k]) ∧ Below w.heap.size w w' := h ▸ rget_any z hz w
theorem y_stamp (h : Cp.stamp ⟨a0, a1, a2, a3⟩ n = (⟨g0, g1, g2, g3⟩, e)) (w : World) : Calls Tryd.prog 10 #[.agg #[.int .i64 a0, .int .i64 a1, .int .i64 a2, .int .i64 a3], .int .i64 n] w fun v w' => v = .returned (.tuple #[.agg #[.int .i64 g0, .int .i64 g1, .int .i64 g2, .int .i64 g3], .int .i64 e]) ∧ Below w.heap.size w w' := by
  have := stamp_any ⟨a0, a1, a2, a3⟩ n w
  rw [h] at this
  exact this
theorem y_rstamp (h : Cp.stamp ⟨a0, a1, a2, a3⟩ n = (⟨g0, g1, g2, g3⟩, e)) (w : World) : Calls Tryd.prog 20 #[.agg #[.int .i64 a0, .int .i64 a1, .int .i64 a2, .int .i64 a3], .int .i64 n] w fun v w' => v = .returned (.tuple #[.agg #[.int .i64 g0, .int .i64 g1, .int .i64 g2, .int .i64 g3], .int .i64 e]) ∧ Below w.heap.size w w' := by
  have := rstamp_any ⟨a0, a1, a2, a3⟩ n w
  rw [h] at this
  exact this
theorem y_cut (h : Cp.cut ⟨a0, a1, a2, a3⟩ r = ⟨g0, g1, g2, g3⟩) (w : World) : Calls Tryd.prog 13 #[.agg #[.int .i64 a0, .int .i64 a1, .int .i64 a2, .int .i64 a3], .int .i64 r] w fun v w' => v = .returned (.agg #[.int .i64 g0, .int .i64 g1, .int .i64 g2, .int .i64 g3]) ∧ Below w.heap.size w w' := by
  have := cut_any ⟨a0, a1, a2, a3⟩ r w
  rw [h] at this
  exact this
theorem y_rcut (h : Cp.cut ⟨a0, a1, a2, a3⟩ r = ⟨g0, g1, g2, g3⟩) (w : World) : Calls Tryd.prog 22 #[.agg #[.int .i64 a0, .int .i64 a1, .int .i64 a2, .int .i64 a3], .int .i64 r] w fun v w' => v = .returned (.agg #[.int .i64 g0, .int .i64 g1, .int .i64 g2, .int .i64 g3]) ∧ Below w.heap.size w w' := by
  have := rcut_any ⟨a0, a1, a2, a3⟩ r w
  rw [h] at this
  exact this
theorem y_less (h : Cp.less ⟨a0, a1, a2, a3⟩ ⟨b0, b1, b2, b3⟩ = k) (w : World) : Calls Tryd.prog 16 #[.agg #[.int .i64 a0, .int .i64 a1, .int .i64 a2, .int .i64 a3], .agg #[.int .i64 b0, .int .i64 b1, .int .i64 b2, .int .i64 b3]] w fun v w' => v = .returned (.bool k) ∧ Below w.heap.size w w' := h ▸ cless_any ⟨a0, a1, a2, a3⟩ ⟨b0, b1, b2, b3⟩ w
theorem y_rless (h : Cp.less ⟨a0, a1, a2, a3⟩ ⟨b0, b1, b2, b3⟩ = k) (w : World) : Calls Tryd.prog 23 #[.agg #[.int .i64 a0, .int .i64 a1, .int .i64 a2, .int .i64 a3], .agg #[.int .i64 b0, .int .i64 b1, .int .i64 b2, .int .i64 b3]] w fun v w' => v = .returned (.bool k) ∧ Below w.heap.size w w' := h ▸ rcless_any ⟨a0, a1, a2, a3⟩ ⟨b0, b1, b2, b3⟩ w
theorem y_text (hT : Tab w) (h : Cp.text ⟨a0, a1, a2, a3⟩ = s) : Calls Tryd.prog 12 #[.agg #[.int .i64 a0, .int .i64 a1, .int .i64 a2, .int .i64 a3]] w fun v w' => v = .returned (.string s) ∧ Below w.heap.size w w' := h ▸ ctext_any ⟨a0, a1, a2, a3⟩ w hT
theorem y_rtext (h : Cp.text ⟨a0, a1, a2, a3⟩ = s) (w : World) : Calls Tryd.prog 24 #[.agg #[.int .i64 a0, .int .i64 a1, .int .i64 a2, .int .i64 a3]] w fun v w' => v = .returned (.string s) ∧ Below w.heap.size w w' := h ▸ rctext_any ⟨a0, a1, a2, a3⟩ w
theorem y_same24 (w : World) : (Op.equalIn 10000 24 (.agg #[.int .i64 a0, .int .i64 a1, .int .i64 a2, .int .i64 a3]) (.agg #[.int .i64 a0, .int .i64 a1, .int .i64 a2, .int .i64 a3])).run Tryd.prog w = .ok true w := by
  have := eq24 ⟨a0, a1, a2, a3⟩ ⟨a0, a1, a2, a3⟩ w
  rwa [show Cp.eq ⟨a0, a1, a2, a3⟩ ⟨a0, a1, a2, a3⟩ = true by simp [Cp.eq]] at this
theorem y_same39 (w : World) : (Op.equalIn 10000 39 (.agg #[.int .i64 a0, .int .i64 a1, .int .i64 a2, .int .i64 a3]) (.agg #[.int .i64 a0, .int .i64 a1, .int .i64 a2, .int .i64 a3])).run Tryd.prog w = .ok true w := by
  have := eq39 ⟨a0, a1, a2, a3⟩ ⟨a0, a1, a2, a3⟩ w
  rwa [show Cp.eq ⟨a0, a1, a2, a3⟩ ⟨a0, a1, a2, a3⟩ = true by simp [Cp.eq]] at this
theorem y_got (z : Nat) : ∃ g0 g1 g2 g3 k, gotV (Cp.get z) = .tuple #[.agg #[.int .i64 g0, .int .i64 g1, .int .i64 g2, .int .i64 g3], .bool k] := ⟨_, _, _, _, _, rfl⟩
theorem y_put (c : Cp) : ∃ m k, putV c.word = .tuple #[.int .u64 m, .bool k] := ⟨_, _, rfl⟩
end

/-- six capabilities, each in a block of its own -/
structure Six (W w : World) (c d s t : Nat) (a0 a1 a2 a3 b0 b1 b2 b3 g0 g1 g2 g3 s0 s1 s2 s3 : Int) : Prop where
  fa : Fr W w W.heap.size a0 a1 a2 a3
  fb : Fr W w (W.heap.size + 1) b0 b1 b2 b3
  fc : Fr W w c g0 g1 g2 g3
  fd : Fr W w d g0 g1 g2 g3
  fs : Fr W w s s0 s1 s2 s3
  ft : Fr W w t s0 s1 s2 s3
theorem six_use {W w : World} {c d s t N : Nat} {a0 a1 a2 a3 b0 b1 b2 b3 g0 g1 g2 g3 s0 s1 s2 s3 : Int} {xs : Array Value} {r : Value} (h : Six W w c d s t a0 a1 a2 a3 b0 b1 b2 b3 g0 g1 g2 g3 s0 s1 s2 s3) (hc : Calls Tryd.prog N xs w fun e w' => e = .returned r ∧ Below w.heap.size w w') :
    Calls Tryd.prog N xs w fun e w' => e = .returned r ∧ w'.cell? ⟨W.heap.size, 0, none⟩ = some (.int .i64 a0) ∧ w'.cell? ⟨W.heap.size, 1, none⟩ = some (.int .i64 a1) ∧ w'.cell? ⟨W.heap.size, 2, none⟩ = some (.int .i64 a2) ∧ w'.cell? ⟨W.heap.size, 3, none⟩ = some (.int .i64 a3) ∧ w'.cell? ⟨W.heap.size + 1, 0, none⟩ = some (.int .i64 b0) ∧ w'.cell? ⟨W.heap.size + 1, 1, none⟩ = some (.int .i64 b1) ∧ w'.cell? ⟨W.heap.size + 1, 2, none⟩ = some (.int .i64 b2) ∧ w'.cell? ⟨W.heap.size + 1, 3, none⟩ = some (.int .i64 b3) ∧ w'.cell? ⟨c, 0, none⟩ = some (.int .i64 g0) ∧ w'.cell? ⟨c, 1, none⟩ = some (.int .i64 g1) ∧ w'.cell? ⟨c, 2, none⟩ = some (.int .i64 g2) ∧ w'.cell? ⟨c, 3, none⟩ = some (.int .i64 g3) ∧ w'.cell? ⟨d, 0, none⟩ = some (.int .i64 g0) ∧ w'.cell? ⟨d, 1, none⟩ = some (.int .i64 g1) ∧ w'.cell? ⟨d, 2, none⟩ = some (.int .i64 g2) ∧ w'.cell? ⟨d, 3, none⟩ = some (.int .i64 g3) ∧ w'.cell? ⟨s, 0, none⟩ = some (.int .i64 s0) ∧ w'.cell? ⟨s, 1, none⟩ = some (.int .i64 s1) ∧ w'.cell? ⟨s, 2, none⟩ = some (.int .i64 s2) ∧ w'.cell? ⟨s, 3, none⟩ = some (.int .i64 s3) ∧ w'.cell? ⟨t, 0, none⟩ = some (.int .i64 s0) ∧ w'.cell? ⟨t, 1, none⟩ = some (.int .i64 s1) ∧ w'.cell? ⟨t, 2, none⟩ = some (.int .i64 s2) ∧ w'.cell? ⟨t, 3, none⟩ = some (.int .i64 s3) ∧ Six W w' c d s t a0 a1 a2 a3 b0 b1 b2 b3 g0 g1 g2 g3 s0 s1 s2 s3 := by
  refine hc.mono ?_
  rintro e w' ⟨rfl, hb⟩
  have k : Six W w' c d s t a0 a1 a2 a3 b0 b1 b2 b3 g0 g1 g2 g3 s0 s1 s2 s3 := ⟨h.fa.on hb, h.fb.on hb, h.fc.on hb, h.fd.on hb, h.fs.on hb, h.ft.on hb⟩
  exact ⟨rfl, k.fa.c0, k.fa.c1, k.fa.c2, k.fa.c3, k.fb.c0, k.fb.c1, k.fb.c2, k.fb.c3, k.fc.c0, k.fc.c1, k.fc.c2, k.fc.c3, k.fd.c0, k.fd.c1, k.fd.c2, k.fd.c3, k.fs.c0, k.fs.c1, k.fs.c2, k.fs.c3, k.ft.c0, k.ft.c1, k.ft.c2, k.ft.c3, k⟩

set_option maxRecDepth 100000 in
set_option maxHeartbeats 32000000 in
theorem says_walk (a b : Cp) (z : Nat) (r n : Int) (hz : z ≤ top) (w : World) (hT : Tab w) : Calls Tryd.prog 4 #[a.val, b.val, .int .u64 (z : Int), .int .i64 r, .int .i64 n] w fun e w' => e = .returned (.bool true) ∧ Below w.heap.size w w' := by
  obtain ⟨a0, a1, a2, a3⟩ := a
  obtain ⟨b0, b1, b2, b3⟩ := b
  obtain ⟨m, k, hm⟩ := y_put ⟨a0, a1, a2, a3⟩
  obtain ⟨g0, g1, g2, g3, k2, hg⟩ := y_got z
  obtain ⟨⟨⟨s0, s1, s2, s3⟩, v⟩, hs⟩ : ∃ s, Cp.stamp ⟨a0, a1, a2, a3⟩ n = s := ⟨_, rfl⟩
  obtain ⟨⟨u0, u1, u2, u3⟩, hu⟩ : ∃ u, Cp.cut ⟨a0, a1, a2, a3⟩ r = u := ⟨_, rfl⟩
  obtain ⟨x, hx⟩ : ∃ x, Cp.good ⟨a0, a1, a2, a3⟩ = x := ⟨_, rfl⟩
  obtain ⟨y, hy⟩ : ∃ y, Cp.less ⟨a0, a1, a2, a3⟩ ⟨b0, b1, b2, b3⟩ = y := ⟨_, rfl⟩
  obtain ⟨t, ht⟩ : ∃ t, Cp.text ⟨a0, a1, a2, a3⟩ = t := ⟨_, rfl⟩
  obtain ⟨q, hq⟩ : ∃ q, Cp.non ⟨a0, a1, a2, a3⟩ = q := ⟨_, rfl⟩
  have HZ := Lib.hid hz
  have HM := Lib.hid hm
  have HG := Lib.hid hg
  have HS := Lib.hid hs
  have HU := Lib.hid hu
  have HX := Lib.hid hx
  have HY := Lib.hid hy
  have HT := Lib.hid ht
  have HQ := Lib.hid hq
  have TB := Lib.hid hT
  have eqG : ∀ w, (Op.equalIn 10000 39 (.agg #[.int .i64 g0, .int .i64 g1, .int .i64 g2, .int .i64 g3]) (.agg #[.int .i64 g0, .int .i64 g1, .int .i64 g2, .int .i64 g3])).run Tryd.prog w = .ok true w := fun w => y_same39 w
  have eqS : ∀ w, (Op.equalIn 10000 39 (.agg #[.int .i64 s0, .int .i64 s1, .int .i64 s2, .int .i64 s3]) (.agg #[.int .i64 s0, .int .i64 s1, .int .i64 s2, .int .i64 s3])).run Tryd.prog w = .ok true w := fun w => y_same39 w
  have eqU : ∀ w, (Op.equalIn 10000 39 (.agg #[.int .i64 u0, .int .i64 u1, .int .i64 u2, .int .i64 u3]) (.agg #[.int .i64 u0, .int .i64 u1, .int .i64 u2, .int .i64 u3])).run Tryd.prog w = .ok true w := fun w => y_same39 w
  have eqN : ∀ w, (Op.equalIn 10000 24 (.agg #[.int .i64 a0, .int .i64 a1, .int .i64 a2, .int .i64 a3]) (.agg #[.int .i64 0, .int .i64 0, .int .i64 0, .int .i64 0])).run Tryd.prog w = .ok q w := fun w => hq ▸ eq24 ⟨a0, a1, a2, a3⟩ .none w
  have eqT : (t.toList == t.toList) = true := by simp
  have EG := Lib.hid eqG
  have ES := Lib.hid eqS
  have EU := Lib.hid eqU
  have EN := Lib.hid eqN
  have ET := Lib.hid eqT
  clear hz hm hg hs hu hx hy ht hq hT eqG eqS eqU eqN eqT
  have hA := (Fr.new w a0 a1 a2 a3 24).alloc (.cells #[.int .i64 b0, .int .i64 b1, .int .i64 b2, .int .i64 b3] 24)
  have hB := Fr.also (W := w) (w := w.alloc (.cells #[.int .i64 a0, .int .i64 a1, .int .i64 a2, .int .i64 a3] 24)) (below_alloc _ _) b0 b1 b2 b3 24
  rw [show (w.alloc (.cells #[.int .i64 a0, .int .i64 a1, .int .i64 a2, .int .i64 a3] 24)).heap.size = w.heap.size + 1 by simp] at hB
  have FA := Lib.hid hA
  have FB := Lib.hid hB
  clear hA hB
  show Calls Tryd.prog 4 #[.agg #[.int .i64 a0, .int .i64 a1, .int .i64 a2, .int .i64 a3], .agg #[.int .i64 b0, .int .i64 b1, .int .i64 b2, .int .i64 b3], .int .u64 (z : Int), .int .i64 r, .int .i64 n] w _
  go_enter Tryd.func4, Tryd.ntmps4
  go_wp2_with fail
  generalize (w.alloc (.cells #[.int .i64 a0, .int .i64 a1, .int .i64 a2, .int .i64 a3] 24)).alloc (.cells #[.int .i64 b0, .int .i64 b1, .int .i64 b2, .int .i64 b3] 24) = x0 at *
  refine (awake_any x0).mono ?_
  rintro e y0 ⟨rfl, hb⟩
  replace FA := Lib.hid (FA.out.on hb)
  replace FB := Lib.hid (FB.out.on hb)
  clear hb
  have a0' := FA.out.c0
  have a1' := FA.out.c1
  have a2' := FA.out.c2
  have a3' := FA.out.c3
  go_wp2_with fail
  clear a0' a1' a2' a3'
  generalize y0 = x1 at *
  refine (y_word HM.out x1).mono ?_
  rintro e y1 ⟨rfl, hb⟩
  replace FA := Lib.hid (FA.out.on hb)
  replace FB := Lib.hid (FB.out.on hb)
  clear hb
  have a0' := FA.out.c0
  have a1' := FA.out.c1
  have a2' := FA.out.c2
  have a3' := FA.out.c3
  go_wp2_with fail
  clear a0' a1' a2' a3'
  generalize y1 = x2 at *
  refine (y_own x2).mono ?_
  rintro e y2 ⟨rfl, hb⟩
  replace FA := Lib.hid (FA.out.on hb)
  replace FB := Lib.hid (FB.out.on hb)
  clear hb
  go_wp2_with fail
  generalize y2 = x3 at *
  refine (y_rword HM.out x3).mono ?_
  rintro e y3 ⟨rfl, hb⟩
  replace FA := Lib.hid (FA.out.on hb)
  replace FB := Lib.hid (FB.out.on hb)
  clear hb
  go_wp2_with fail
  generalize y3 = x4 at *
  refine (y_get HZ.out HG.out x4).mono ?_
  rintro e y4 ⟨rfl, hb⟩
  replace FA := Lib.hid (FA.out.on hb)
  replace FB := Lib.hid (FB.out.on hb)
  clear hb
  have hC := Fr.also (W := w) FA.out.old g0 g1 g2 g3 24
  replace FA := Lib.hid (FA.out.alloc (.cells #[.int .i64 g0, .int .i64 g1, .int .i64 g2, .int .i64 g3] 24))
  replace FB := Lib.hid (FB.out.alloc (.cells #[.int .i64 g0, .int .i64 g1, .int .i64 g2, .int .i64 g3] 24))
  have FC := Lib.hid hC
  clear hC
  go_wp2_with fail
  obtain ⟨pC, hp⟩ : ∃ p, y4.heap.size = p := ⟨_, rfl⟩
  rw [hp] at FC ⊢
  clear hp
  generalize y4.alloc (.cells #[.int .i64 g0, .int .i64 g1, .int .i64 g2, .int .i64 g3] 24) = x5 at *
  refine (y_rget HZ.out HG.out x5).mono ?_
  rintro e y5 ⟨rfl, hb⟩
  replace FA := Lib.hid (FA.out.on hb)
  replace FB := Lib.hid (FB.out.on hb)
  replace FC := Lib.hid (FC.out.on hb)
  clear hb
  have hD := Fr.also (W := w) FA.out.old g0 g1 g2 g3 39
  replace FA := Lib.hid (FA.out.alloc (.cells #[.int .i64 g0, .int .i64 g1, .int .i64 g2, .int .i64 g3] 39))
  replace FB := Lib.hid (FB.out.alloc (.cells #[.int .i64 g0, .int .i64 g1, .int .i64 g2, .int .i64 g3] 39))
  replace FC := Lib.hid (FC.out.alloc (.cells #[.int .i64 g0, .int .i64 g1, .int .i64 g2, .int .i64 g3] 39))
  have FD := Lib.hid hD
  clear hD
  have a0' := FA.out.c0
  have a1' := FA.out.c1
  have a2' := FA.out.c2
  have a3' := FA.out.c3
  go_wp2_with fail
  clear a0' a1' a2' a3'
  obtain ⟨pD, hp⟩ : ∃ p, y5.heap.size = p := ⟨_, rfl⟩
  rw [hp] at FD ⊢
  clear hp
  generalize y5.alloc (.cells #[.int .i64 g0, .int .i64 g1, .int .i64 g2, .int .i64 g3] 39) = x6 at *
  refine (y_stamp HS.out x6).mono ?_
  rintro e y6 ⟨rfl, hb⟩
  replace FA := Lib.hid (FA.out.on hb)
  replace FB := Lib.hid (FB.out.on hb)
  replace FC := Lib.hid (FC.out.on hb)
  replace FD := Lib.hid (FD.out.on hb)
  clear hb
  have hS := Fr.also (W := w) FA.out.old s0 s1 s2 s3 24
  replace FA := Lib.hid (FA.out.alloc (.cells #[.int .i64 s0, .int .i64 s1, .int .i64 s2, .int .i64 s3] 24))
  replace FB := Lib.hid (FB.out.alloc (.cells #[.int .i64 s0, .int .i64 s1, .int .i64 s2, .int .i64 s3] 24))
  replace FC := Lib.hid (FC.out.alloc (.cells #[.int .i64 s0, .int .i64 s1, .int .i64 s2, .int .i64 s3] 24))
  replace FD := Lib.hid (FD.out.alloc (.cells #[.int .i64 s0, .int .i64 s1, .int .i64 s2, .int .i64 s3] 24))
  have FS := Lib.hid hS
  clear hS
  have a0' := FA.out.c0
  have a1' := FA.out.c1
  have a2' := FA.out.c2
  have a3' := FA.out.c3
  go_wp2_with fail
  clear a0' a1' a2' a3'
  obtain ⟨pS, hp⟩ : ∃ p, y6.heap.size = p := ⟨_, rfl⟩
  rw [hp] at FS ⊢
  clear hp
  generalize y6.alloc (.cells #[.int .i64 s0, .int .i64 s1, .int .i64 s2, .int .i64 s3] 24) = x7 at *
  refine (y_own x7).mono ?_
  rintro e y7 ⟨rfl, hb⟩
  replace FA := Lib.hid (FA.out.on hb)
  replace FB := Lib.hid (FB.out.on hb)
  replace FC := Lib.hid (FC.out.on hb)
  replace FD := Lib.hid (FD.out.on hb)
  replace FS := Lib.hid (FS.out.on hb)
  clear hb
  go_wp2_with fail
  generalize y7 = x8 at *
  refine (y_rstamp HS.out x8).mono ?_
  rintro e y8 ⟨rfl, hb⟩
  replace FA := Lib.hid (FA.out.on hb)
  replace FB := Lib.hid (FB.out.on hb)
  replace FC := Lib.hid (FC.out.on hb)
  replace FD := Lib.hid (FD.out.on hb)
  replace FS := Lib.hid (FS.out.on hb)
  clear hb
  have hT := Fr.also (W := w) FA.out.old s0 s1 s2 s3 39
  replace FA := Lib.hid (FA.out.alloc (.cells #[.int .i64 s0, .int .i64 s1, .int .i64 s2, .int .i64 s3] 39))
  replace FB := Lib.hid (FB.out.alloc (.cells #[.int .i64 s0, .int .i64 s1, .int .i64 s2, .int .i64 s3] 39))
  replace FC := Lib.hid (FC.out.alloc (.cells #[.int .i64 s0, .int .i64 s1, .int .i64 s2, .int .i64 s3] 39))
  replace FD := Lib.hid (FD.out.alloc (.cells #[.int .i64 s0, .int .i64 s1, .int .i64 s2, .int .i64 s3] 39))
  replace FS := Lib.hid (FS.out.alloc (.cells #[.int .i64 s0, .int .i64 s1, .int .i64 s2, .int .i64 s3] 39))
  have FT := Lib.hid hT
  clear hT
  go_wp2_with fail
  obtain ⟨pT, hp⟩ : ∃ p, y8.heap.size = p := ⟨_, rfl⟩
  rw [hp] at FT ⊢
  clear hp
  generalize y8.alloc (.cells #[.int .i64 s0, .int .i64 s1, .int .i64 s2, .int .i64 s3] 39) = x9 at *
  have H6 : Six w x9.drew pC pD pS pT a0 a1 a2 a3 b0 b1 b2 b3 g0 g1 g2 g3 s0 s1 s2 s3 := ⟨FA.out.drew, FB.out.drew, FC.out.drew, FD.out.drew, FS.out.drew, FT.out.drew⟩
  have y0 := H6.fa.c0
  have y1 := H6.fa.c1
  have y2 := H6.fa.c2
  have y3 := H6.fa.c3
  have y4 := H6.fb.c0
  have y5 := H6.fb.c1
  have y6 := H6.fb.c2
  have y7 := H6.fb.c3
  have y8 := H6.fc.c0
  have y9 := H6.fc.c1
  have y10 := H6.fc.c2
  have y11 := H6.fc.c3
  have y12 := H6.fd.c0
  have y13 := H6.fd.c1
  have y14 := H6.fd.c2
  have y15 := H6.fd.c3
  have y16 := H6.fs.c0
  have y17 := H6.fs.c1
  have y18 := H6.fs.c2
  have y19 := H6.fs.c3
  have y20 := H6.ft.c0
  have y21 := H6.ft.c1
  have y22 := H6.ft.c2
  have y23 := H6.ft.c3
  have y24 := H6
  clear H6 FA FB FC FD FS FT
  have eqG := EG.out
  have eqS := ES.out
  have eqU := EU.out
  have eqN := EN.out
  have eqT := ET.out
  dsimp only [List.append]
  go_region_held3 (fun w' => w'.cell? ⟨w.heap.size, 0, none⟩ = some (.int .i64 a0) ∧ w'.cell? ⟨w.heap.size, 1, none⟩ = some (.int .i64 a1) ∧ w'.cell? ⟨w.heap.size, 2, none⟩ = some (.int .i64 a2) ∧ w'.cell? ⟨w.heap.size, 3, none⟩ = some (.int .i64 a3) ∧ w'.cell? ⟨w.heap.size + 1, 0, none⟩ = some (.int .i64 b0) ∧ w'.cell? ⟨w.heap.size + 1, 1, none⟩ = some (.int .i64 b1) ∧ w'.cell? ⟨w.heap.size + 1, 2, none⟩ = some (.int .i64 b2) ∧ w'.cell? ⟨w.heap.size + 1, 3, none⟩ = some (.int .i64 b3) ∧ w'.cell? ⟨pC, 0, none⟩ = some (.int .i64 g0) ∧ w'.cell? ⟨pC, 1, none⟩ = some (.int .i64 g1) ∧ w'.cell? ⟨pC, 2, none⟩ = some (.int .i64 g2) ∧ w'.cell? ⟨pC, 3, none⟩ = some (.int .i64 g3) ∧ w'.cell? ⟨pD, 0, none⟩ = some (.int .i64 g0) ∧ w'.cell? ⟨pD, 1, none⟩ = some (.int .i64 g1) ∧ w'.cell? ⟨pD, 2, none⟩ = some (.int .i64 g2) ∧ w'.cell? ⟨pD, 3, none⟩ = some (.int .i64 g3) ∧ w'.cell? ⟨pS, 0, none⟩ = some (.int .i64 s0) ∧ w'.cell? ⟨pS, 1, none⟩ = some (.int .i64 s1) ∧ w'.cell? ⟨pS, 2, none⟩ = some (.int .i64 s2) ∧ w'.cell? ⟨pS, 3, none⟩ = some (.int .i64 s3) ∧ w'.cell? ⟨pT, 0, none⟩ = some (.int .i64 s0) ∧ w'.cell? ⟨pT, 1, none⟩ = some (.int .i64 s1) ∧ w'.cell? ⟨pT, 2, none⟩ = some (.int .i64 s2) ∧ w'.cell? ⟨pT, 3, none⟩ = some (.int .i64 s3) ∧ Six w w' pC pD pS pT a0 a1 a2 a3 b0 b1 b2 b3 g0 g1 g2 g3 s0 s1 s2 s3)
    (first | exact ⟨by with_reducible assumption, by with_reducible assumption, by with_reducible assumption, by with_reducible assumption, by with_reducible assumption, by with_reducible assumption, by with_reducible assumption, by with_reducible assumption, by with_reducible assumption, by with_reducible assumption, by with_reducible assumption, by with_reducible assumption, by with_reducible assumption, by with_reducible assumption, by with_reducible assumption, by with_reducible assumption, by with_reducible assumption, by with_reducible assumption, by with_reducible assumption, by with_reducible assumption, by with_reducible assumption, by with_reducible assumption, by with_reducible assumption, by with_reducible assumption, by with_reducible assumption⟩ | fail)
    (first
      | (go_at_call 18; ((with_reducible refine (six_use y24 (y_own _)).mono ?_); clear y0 y1 y2 y3 y4 y5 y6 y7 y8 y9 y10 y11 y12 y13 y14 y15 y16 y17 y18 y19 y20 y21 y22 y23 y24; rintro e w' ⟨rfl, y0, y1, y2, y3, y4, y5, y6, y7, y8, y9, y10, y11, y12, y13, y14, y15, y16, y17, y18, y19, y20, y21, y22, y23, y24⟩))
      | (go_at_call 11; ((with_reducible refine (six_use y24 (cgood_at HX.out _)).mono ?_); clear y0 y1 y2 y3 y4 y5 y6 y7 y8 y9 y10 y11 y12 y13 y14 y15 y16 y17 y18 y19 y20 y21 y22 y23 y24; rintro e w' ⟨rfl, y0, y1, y2, y3, y4, y5, y6, y7, y8, y9, y10, y11, y12, y13, y14, y15, y16, y17, y18, y19, y20, y21, y22, y23, y24⟩))
      | (go_at_call 21; ((with_reducible refine (six_use y24 (rcgood_at HX.out _)).mono ?_); clear y0 y1 y2 y3 y4 y5 y6 y7 y8 y9 y10 y11 y12 y13 y14 y15 y16 y17 y18 y19 y20 y21 y22 y23 y24; rintro e w' ⟨rfl, y0, y1, y2, y3, y4, y5, y6, y7, y8, y9, y10, y11, y12, y13, y14, y15, y16, y17, y18, y19, y20, y21, y22, y23, y24⟩))
      | (go_at_call 13; ((with_reducible refine (six_use y24 (y_cut HU.out _)).mono ?_); clear y0 y1 y2 y3 y4 y5 y6 y7 y8 y9 y10 y11 y12 y13 y14 y15 y16 y17 y18 y19 y20 y21 y22 y23 y24; rintro e w' ⟨rfl, y0, y1, y2, y3, y4, y5, y6, y7, y8, y9, y10, y11, y12, y13, y14, y15, y16, y17, y18, y19, y20, y21, y22, y23, y24⟩))
      | (go_at_call 22; ((with_reducible refine (six_use y24 (y_rcut HU.out _)).mono ?_); clear y0 y1 y2 y3 y4 y5 y6 y7 y8 y9 y10 y11 y12 y13 y14 y15 y16 y17 y18 y19 y20 y21 y22 y23 y24; rintro e w' ⟨rfl, y0, y1, y2, y3, y4, y5, y6, y7, y8, y9, y10, y11, y12, y13, y14, y15, y16, y17, y18, y19, y20, y21, y22, y23, y24⟩))
      | (go_at_call 16; ((with_reducible refine (six_use y24 (y_less HY.out _)).mono ?_); clear y0 y1 y2 y3 y4 y5 y6 y7 y8 y9 y10 y11 y12 y13 y14 y15 y16 y17 y18 y19 y20 y21 y22 y23 y24; rintro e w' ⟨rfl, y0, y1, y2, y3, y4, y5, y6, y7, y8, y9, y10, y11, y12, y13, y14, y15, y16, y17, y18, y19, y20, y21, y22, y23, y24⟩))
      | (go_at_call 23; ((with_reducible refine (six_use y24 (y_rless HY.out _)).mono ?_); clear y0 y1 y2 y3 y4 y5 y6 y7 y8 y9 y10 y11 y12 y13 y14 y15 y16 y17 y18 y19 y20 y21 y22 y23 y24; rintro e w' ⟨rfl, y0, y1, y2, y3, y4, y5, y6, y7, y8, y9, y10, y11, y12, y13, y14, y15, y16, y17, y18, y19, y20, y21, y22, y23, y24⟩))
      | (go_at_call 12; ((with_reducible refine (six_use y24 (y_text (TB.out.on y24.fa.old) HT.out)).mono ?_); clear y0 y1 y2 y3 y4 y5 y6 y7 y8 y9 y10 y11 y12 y13 y14 y15 y16 y17 y18 y19 y20 y21 y22 y23 y24; rintro e w' ⟨rfl, y0, y1, y2, y3, y4, y5, y6, y7, y8, y9, y10, y11, y12, y13, y14, y15, y16, y17, y18, y19, y20, y21, y22, y23, y24⟩))
      | (go_at_call 24; ((with_reducible refine (six_use y24 (y_rtext HT.out _)).mono ?_); clear y0 y1 y2 y3 y4 y5 y6 y7 y8 y9 y10 y11 y12 y13 y14 y15 y16 y17 y18 y19 y20 y21 y22 y23 y24; rintro e w' ⟨rfl, y0, y1, y2, y3, y4, y5, y6, y7, y8, y9, y10, y11, y12, y13, y14, y15, y16, y17, y18, y19, y20, y21, y22, y23, y24⟩))
      | (go_at_call 15; ((with_reducible refine (six_use y24 (non_at HQ.out _)).mono ?_); clear y0 y1 y2 y3 y4 y5 y6 y7 y8 y9 y10 y11 y12 y13 y14 y15 y16 y17 y18 y19 y20 y21 y22 y23 y24; rintro e w' ⟨rfl, y0, y1, y2, y3, y4, y5, y6, y7, y8, y9, y10, y11, y12, y13, y14, y15, y16, y17, y18, y19, y20, y21, y22, y23, y24⟩)))
  go_wp2
  go_ret
  exact ⟨by simp, y24.fa.old⟩
end Go.Proofs.YtlhdpmkakmkknaaDoor
