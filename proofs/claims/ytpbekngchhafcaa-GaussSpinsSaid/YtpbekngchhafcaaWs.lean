/-
  The walk of the law GaussSpins of reevelaw1. Condition: the list lies in memory and has words in it.
-/
import Derived.Test.YtpbekngchhafcaaWr
import Derived.Deep.RegionHeld3
namespace Go.Proofs.Ytpbekngchhafcaa
open Go.RowKit Flo

theorem add_plain' (g i : Nat) : (⟨g, 0, none⟩ : Addr).add i = ⟨g, i, none⟩ := by unfold Addr.add; split <;> simp_all

/-- a row of the call's own, one of its words turned -/
theorem owns_set {w : World} {base n : Nat} {v : Value} {zs : List Int} (h : w.ownsRow base 30 1 v n (wcells zs)) {i : Nat} (hi : i < zs.length) (y : Int) :
    ∃ g cap, v = .slice (some ⟨g, 0, none⟩) n cap ∧ base ≤ g ∧ g < w.heap.size ∧ n ≤ cap ∧ cap ≤ maxLen ∧ w.cell? ⟨g, i, none⟩ = some (.int .u64 (zs.getD i 0)) ∧ w.frozen? ⟨g, i, none⟩ = false ∧
      ∀ B, g < B → Lies (w.setCell ⟨g, i, none⟩ (.int .u64 y)) B (some ⟨g, 0, none⟩) (zs.set i y) := by
  obtain ⟨hn, A, cap0, hv0, hL⟩ := owns_lies h
  obtain ⟨hlen, hv⟩ := h
  rcases hv with ⟨rfl, h0⟩ | ⟨g, cap, cur, rfl, hbase, hg, hcap, hmax, hsz, hcur⟩
  · omega
  · have e : A = some ⟨g, 0, none⟩ ∧ cap0 = cap := by injection hv0 with a b c; exact ⟨a.symm, c.symm⟩
    obtain ⟨rfl, rfl⟩ := e
    obtain ⟨ad, e1, hlt, hc⟩ := hL (by omega)
    cases e1
    have hci := hc i hi
    rw [add_plain'] at hci
    refine ⟨g, cap0, rfl, hbase, hlt, hcap, hmax, hci, by simp [World.frozen?, hg], fun B hB _ => ⟨_, rfl, hB, fun j hj => ?_⟩⟩
    rw [List.length_set] at hj
    rw [add_plain']
    have hcj := hc j hj
    rw [add_plain'] at hcj
    by_cases e : i = j
    · subst e
      have hs : (zs.set i y).getD i 0 = y := by
        rw [List.getD, List.getElem?_set_self hi]; rfl
      rw [hs]
      exact World.cell?_setCell_same _ _ _ hcj
    · have hs : (zs.set i y).getD j 0 = zs.getD j 0 := by
        rw [List.getD, List.getD, List.getElem?_set_ne e]
      rw [hs, ← hcj]
      exact World.cell?_setCell_other _ _ _ _ (by intro h; cases h; exact e rfl)

/-- what was there when the drawn statement began is as it was -/
def Kept (W w : World) : Prop := Below W.heap.size W w

/-- what the drawn statement reads, and that all else is kept -/
def SP (W : World) (a b : Addr) (x y : Int) (w : World) : Prop := w.cell? a = some (.int .u64 x) ∧ w.cell? b = some (.int .u64 y) ∧ Kept W w
theorem use_kept (W : World) (a b : Addr) (x y : Int) (args : Array Value) (v : Value) (h : Hid (∀ w', Kept W w' → Calls Try.prog 18 args w' fun e w'' => e = .returned v ∧ SP W a b x y w'')) (w' : World) (hk : Kept W w') :
    Calls Try.prog 18 args w' fun e w'' => e = .returned v ∧ SP W a b x y w'' := h.out w' hk

set_option maxRecDepth 100000 in
set_option maxHeartbeats 2000000 in
theorem spins_in (ad : Addr) (cap i p : Nat) (zs : List Int) (t : Int) (w : World) (hl : zs.length ≤ 100) (hi : i < zs.length) (hp : p = 0 ∨ p = 1 ∨ p = 2 ∨ p = 3) (ht : 0 ≤ t ∧ t ≤ 65535)
    (hL : Lies w w.heap.size (some ad) zs) (hW : Wds zs) (b1 b2 b3 : Bool) (y s1 s2 r1 r2 : Int) (hy : put (zs.getD i 0) p t = y) (hyw : Wd y)
    (hs : spin zs = (s1, s2)) (hr : spin (zs.set i y) = (r1, r2))
    (e1 : (FloatKind.f64.format.order (F s1) (F r1) == some .eq) = b1) (e2 : (FloatKind.f64.format.order (F s2) (F r2) == some .eq) = b2) (e3 : (zs.getD i 0 == y) = b3) (hb : ((b1 && b2) == b3) = true) :
    Calls Try.prog 7 #[.slice (some ad) zs.length cap, .int .i64 i, .int .i64 p, .int .u16 t] w fun e w' => e = .returned (.bool true) ∧ Below w.heap.size w w' := by
  have HB := Lib.hid (Below.refl w.heap.size w)
  have HY := Lib.hid hy
  have HS := Lib.hid hs
  have HR := Lib.hid hr
  have E1 := Lib.hid e1
  have E2 := Lib.hid e2
  have E3 := Lib.hid e3
  have HX := Lib.hid (hW.at hi)
  have LZ := Lib.hid hL
  have WZ := Lib.hid hW
  have HYW := Lib.hid hyw
  have HBB := Lib.hid hb
  obtain ⟨n, hn⟩ : ∃ m, m = zs.length := ⟨_, rfl⟩
  rw [← hn] at hl hi ⊢
  have HN := Lib.hid hn
  clear hy hs hr e1 e2 e3 hL hW hyw hn hb
  have hl : ¬ 100 < n := by omega
  have hi2 : ¬ n ≤ i := by omega
  obtain ⟨t0, t1⟩ := ht
  obtain ⟨i0, hii, hz0, hz1, hz2⟩ := info_parts info30
  have ya : p = 0 ∧ bits .or .u64 (bits .andNot .u64 (zs.getD i 0) 65535) t = y ∨ p = 1 ∧ bits .or .u64 (bits .andNot .u64 (zs.getD i 0) 4294901760) (t * 65536) = y ∨
      p = 2 ∧ bits .or .u64 (bits .andNot .u64 (zs.getD i 0) 281470681743360) (t * 4294967296) = y ∨ p = 3 ∧ bits .or .u64 (bits .andNot .u64 (zs.getD i 0) 18446462598732840960) (t * 281474976710656) = y := by
    have := HY.out
    unfold put at this
    rcases hp with rfl | rfl | rfl | rfl
    · exact .inl ⟨rfl, by simpa using this⟩
    · exact .inr (.inl ⟨rfl, by simpa using this⟩)
    · exact .inr (.inr (.inl ⟨rfl, by simpa using this⟩))
    · exact .inr (.inr (.inr ⟨rfl, by simpa using this⟩))
  clear hp
  rcases ya with ⟨rfl, y1⟩ | ⟨rfl, y1⟩ | ⟨rfl, y1⟩ | ⟨rfl, y1⟩
  all_goals
    go_enter Try.func7, Try.ntmps7
    go_wp2_with (first
      | (go_at_call 10; refine (awake_any _).mono ?_; rintro e w' ⟨rfl, hb⟩; replace HB := Lib.hid (HB.out.trans (hb.mono HB.out.size)); clear hb)
      | (at_builtin; refine wpList_append_own _ rfl _ _ 36 rfl w.heap.size 30 i0 (.int .u64 0) 1 8 Try.underlying36 hii hz0 hz1 hz2 rfl (by decide) _ 0 [] rfl (owns_new _ HB.out.size) ad n cap (wcells zs) rfl ?c0 ?c1 ?c2 ?c3 ?c4 ?c5 ?_))
    case c0 => rw [wcells_length, HN.out, Nat.mul_one]
    case c1 => exact lies_cells (LZ.out.below (HB.out.alloc HB.out.size _))
    case c2 => exact wcells_one
    case c3 => unfold maxLen; omega
    case c4 => omega
    case c5 => have := HB.out.size; simp; omega
    intro v' w1 hown hgrow _
    have HB2 := Lib.hid ((HB.out.alloc HB.out.size _).grown hgrow (by have := HB.out.size; simp; omega) (fun k hk => by simp [Value.ownBlock] at hk; have := HB.out.size; omega))
    have hown : w1.ownsRow w.heap.size 30 1 v' n (wcells zs) := by simpa using hown
    obtain ⟨g, cap2, rfl, hg0, hg1, _, _, hc, hf, hLS⟩ := owns_set hown (i := i) (by rw [← HN.out]; exact hi) y
    have HLS := Lib.hid hLS
    obtain ⟨ad', ea, had, hcell⟩ := (LZ.out.below HB2.out) (by rw [← HN.out]; omega)
    cases ea
    have hcx := hcell i (by rw [← HN.out]; exact hi)
    have HAD := Lib.hid had
    have HG0 := Lib.hid hg0
    have HG1 := Lib.hid hg1
    generalize zs.getD i 0 = x at *
    obtain ⟨x0, x1⟩ := HX.out
    clear hown hgrow hLS hcell had hg0 hg1
    go_wp2_with fail
    have hne : (⟨g, i, none⟩ : Addr) ≠ ad.add i := by
      intro e
      have h1 := congrArg Addr.block e
      rw [block_add'] at h1
      have h2 := HAD.out
      have h3 := HG0.out
      simp only at h1
      omega
    have hxs : (w1.setCell ⟨g, i, none⟩ (.int .u64 y)).cell? (ad.add i) = some (.int .u64 x) := (World.cell?_setCell_other _ _ _ _ hne).trans hcx
    have hys : (w1.setCell ⟨g, i, none⟩ (.int .u64 y)).cell? ⟨g, i, none⟩ = some (.int .u64 y) := World.cell?_setCell_same _ _ _ hc
    have HB3 := Lib.hid (HB2.out.setCell (p := ⟨g, i, none⟩) HG0.out (.int .u64 y))
    have hsz : (w1.setCell ⟨g, i, none⟩ (.int .u64 y)).heap.size = w1.heap.size := by simp [World.setCell]
    have hg3 : g < (w1.setCell ⟨g, i, none⟩ (.int .u64 y)).heap.size := by rw [hsz]; exact HG1.out
    have hl2 := HLS.out _ hg3
    clear hc hf hcx hne hsz HLS
    generalize w1.setCell ⟨g, i, none⟩ (.int .u64 y) = W3 at *
    have had3 : ad.block < W3.heap.size := Nat.lt_of_lt_of_le HAD.out HB3.out.size
    have cA : ∀ w', Kept W3 w' → Calls Try.prog 18 #[.slice (some ad) n cap] w' fun e w'' => e = .returned (.complex .f64 (F s1) (F s2)) ∧ SP W3 (ad.add i) ⟨g, i, none⟩ x y w'' := by
      intro w' hk
      have h := spin_any (some ad) cap zs w' (by rw [← HN.out]; unfold maxLen; omega) ((LZ.out.below (HB3.out.trans (Below.mono hk HB3.out.size))).more (Nat.le_trans HB3.out.size hk.size)) WZ.out
      rw [← HN.out, HS.out] at h
      refine h.mono fun e w'' ⟨h1, h2⟩ => ?_
      have hk2 : Below W3.heap.size W3 w'' := Below.trans hk (h2.mono hk.size)
      exact ⟨h1, (hk2.cell (by rw [block_add']; exact had3)).trans hxs, (hk2.cell hg3).trans hys, hk2⟩
    have cB : ∀ w', Kept W3 w' → Calls Try.prog 18 #[.slice (some ⟨g, 0, none⟩) n cap2] w' fun e w'' => e = .returned (.complex .f64 (F r1) (F r2)) ∧ SP W3 (ad.add i) ⟨g, i, none⟩ x y w'' := by
      intro w' hk
      have h := spin_any (some ⟨g, 0, none⟩) cap2 (zs.set i y) w' (by rw [List.length_set, ← HN.out]; unfold maxLen; omega) ((hl2.below hk).more hk.size) (fun z hz => by
        rcases List.mem_or_eq_of_mem_set hz with h | h
        · exact WZ.out z h
        · rw [h]; exact HYW.out)
      rw [List.length_set, ← HN.out, HR.out] at h
      refine h.mono fun e w'' ⟨h1, h2⟩ => ?_
      have hk2 : Below W3.heap.size W3 w'' := Below.trans hk (h2.mono hk.size)
      exact ⟨h1, (hk2.cell (by rw [block_add']; exact had3)).trans hxs, (hk2.cell hg3).trans hys, hk2⟩
    have CA := Lib.hid cA
    have CB := Lib.hid cB
    have hk0 : Kept W3 W3.drew := (Below.refl _ _).drew
    have q1 := E1.out
    have q2 := E2.out
    have q3 := E3.out
    clear cA cB hl2 had3 hg3 y1
    go_region_held3 (fun w' => w'.cell? (ad.add i) = some (.int .u64 x) ∧ w'.cell? ⟨g, i, none⟩ = some (.int .u64 y) ∧ Kept W3 w')
      (first | exact ⟨by assumption, by assumption, by assumption⟩ | exact ⟨hxs, hys, hk0⟩)
      (first | (go_at_call 18; (with_reducible refine (use_kept W3 (ad.add i) ⟨g, i, none⟩ x y _ _ CA _ (by assumption)).mono ?_); rintro e w' ⟨rfl, h1, h2, h3⟩) | (go_at_call 18; (with_reducible refine (use_kept W3 (ad.add i) ⟨g, i, none⟩ x y _ _ CB _ (by assumption)).mono ?_); rintro e w' ⟨rfl, h1, h2, h3⟩))
    clear h1 h2
    have HK := Lib.hid h3
    clear h3 q1 q2 q3 hxs hys hk0
    go_wp2
    go_ret
    exact ⟨congrArg (fun b => Ending.returned (Value.bool b)) HBB.out, HB3.out.trans (Below.mono HK.out HB3.out.size)⟩

set_option maxHeartbeats 2000000 in
theorem spins_out (A : Option Addr) (n cap : Nat) (at_ part t : Int) (w : World) (hn : n ≤ 9223372036854775807)
    (h : 100 < n ∨ (¬ 100 < n ∧ at_ < 0) ∨ (¬ 100 < n ∧ 0 ≤ at_ ∧ (n : Int) ≤ at_) ∨ (¬ 100 < n ∧ 0 ≤ at_ ∧ at_ < (n : Int) ∧ part < 0) ∨ (¬ 100 < n ∧ 0 ≤ at_ ∧ at_ < (n : Int) ∧ 0 ≤ part ∧ 3 < part)) :
    Calls Try.prog 7 #[.slice A n cap, .int .i64 at_, .int .i64 part, .int .u16 t] w fun e w' => e = .returned (.bool true) ∧ Below w.heap.size w w' := by
  have HB := Lib.hid (Below.refl w.heap.size w)
  rcases h with h1 | ⟨h1, h2⟩ | ⟨h1, h2, h3⟩ | ⟨h1, h2, h3, h4⟩ | ⟨h1, h2, h3, h4, h5⟩
  all_goals
    go_enter Try.func7, Try.ntmps7
    go_wp2_with (go_at_call 10; refine (awake_any _).mono ?_; rintro e w' ⟨rfl, hb⟩; replace HB := Lib.hid (HB.out.trans (hb.mono HB.out.size)); clear hb)
    go_ret
    exact ⟨rfl, HB.out⟩

/-- GaussSpins. -/
theorem spins_walk (A : Option Addr) (cap : Nat) (zs : List Int) (at_ part t : Int) (w : World) (hl : zs.length ≤ maxLen) (hL : Lies w w.heap.size A zs) (hW : Wds zs) (ht : 0 ≤ t ∧ t ≤ 65535) :
    Calls Try.prog 7 #[.slice A zs.length cap, .int .i64 at_, .int .i64 part, .int .u16 t] w fun e w' => e = .returned (.bool true) ∧ Below w.heap.size w w' := by
  by_cases h : ¬ 100 < zs.length ∧ 0 ≤ at_ ∧ at_ < (zs.length : Int) ∧ 0 ≤ part ∧ part ≤ 3
  · obtain ⟨h1, h2, h3, h4, h5⟩ := h
    obtain ⟨i, rfl⟩ := Int.eq_ofNat_of_zero_le h2
    obtain ⟨p, rfl⟩ := Int.eq_ofNat_of_zero_le h4
    have hi : i < zs.length := by omega
    obtain ⟨ad, rfl, _⟩ := hL (by omega)
    obtain ⟨hyw, _⟩ := put_parts (zs.getD i 0) p t (hW.at hi) ht
    have hsp := spin_put zs i p t hW hi (by omega) ht
    have g1 := spin_range zs
    have g2 := spin_range (zs.set i (put (zs.getD i 0) p t))
    refine spins_in ad cap i p zs t w (by omega) hi (by omega) ht hL hW _ _ _ (put (zs.getD i 0) p t) (spin zs).1 (spin zs).2 (spin (zs.set i (put (zs.getD i 0) p t))).1 (spin (zs.set i (put (zs.getD i 0) p t))).2 rfl hyw rfl rfl
      (eq_F (small_natAbs (by omega) (by omega)) (small_natAbs (by omega) (by omega))) (eq_F (small_natAbs (by omega) (by omega)) (small_natAbs (by omega) (by omega))) rfl ?_
    by_cases c : zs.getD i 0 = put (zs.getD i 0) p t
    · have e := hsp.2 c
      rw [e, ← c]
      simp
    · have hne : ¬ ((spin zs).1 = (spin (zs.set i (put (zs.getD i 0) p t))).1 ∧ (spin zs).2 = (spin (zs.set i (put (zs.getD i 0) p t))).2) := by
        rintro ⟨a, b⟩
        exact c (hsp.1 (Prod.ext a.symm b.symm))
      have hb : (decide ((spin zs).1 = (spin (zs.set i (put (zs.getD i 0) p t))).1) && decide ((spin zs).2 = (spin (zs.set i (put (zs.getD i 0) p t))).2)) = false := by
        rw [Bool.and_eq_false_iff, decide_eq_false_iff_not, decide_eq_false_iff_not]
        by_cases a : (spin zs).1 = (spin (zs.set i (put (zs.getD i 0) p t))).1
        · exact .inr fun b => hne ⟨a, b⟩
        · exact .inl a
      rw [hb]
      have : (zs.getD i 0 == put (zs.getD i 0) p t) = false := by simpa using c
      rw [this]; rfl
  · exact spins_out A _ cap at_ part t w hl (by omega)
end Go.Proofs.Ytpbekngchhafcaa
