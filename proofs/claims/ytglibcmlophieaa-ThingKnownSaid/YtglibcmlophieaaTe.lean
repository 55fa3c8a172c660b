/-
  The walk of package tag's Get. Condition: the fields lie in memory, at most a million.
-/
import Derived.Test.YtglibcmlophieaaTd
namespace Go.Proofs.Ytglibcmlophieaa
open Go.RowKit

/-- a list of words -/
def Words (w : World) (v : Value) (l : List Nat) : Prop := ∃ A cap, v = .slice A l.length cap ∧ WordsAt w w.heap.size A l
theorem Words.below {w w' : World} {v : Value} {l : List Nat} (h : Words w v l) (hb : Below w.heap.size w w') : Words w' v l := by
  obtain ⟨A, cap, e, h⟩ := h
  exact ⟨A, cap, e, (h.below hb).mono hb.size⟩

theorem made_cell (w : World) (z : Array Value) (n t k : Nat) (hk : k < n) : (w.alloc (.cells (madeCells z n) t)).cell? ⟨w.heap.size, k, none⟩ = some (z[k % z.size]!) := by
  have e := heap_alloc_new w (.cells (madeCells z n) t)
  rw [cell_of_row _ _ k _ _ _ e]
  unfold madeCells
  simp [hk]
theorem made_free (w : World) (z : Array Value) (n t k : Nat) : (w.alloc (.cells (madeCells z n) t)).frozen? ⟨w.heap.size, k, none⟩ = false :=
  frozen_of_row _ _ k _ _ (heap_alloc_new w (.cells (madeCells z n) t))
theorem info27_all : (Try.prog.info? 23).map (fun i => (i.zero, i.size, i.bytes)) = some (some (.int .u64 0), 1, 8) := by kernel_rfl
theorem info27_parts : ∃ i : TypeInfo, Try.prog.info? 23 = some i ∧ i.zero = some (.int .u64 0) ∧ i.size = 1 ∧ i.bytes = 8 := by
  have h := info27_all
  cases hq : Try.prog.info? 23 with
  | none => simp [hq] at h
  | some i =>
    simp [hq] at h
    exact ⟨i, rfl, h.1, h.2.1, h.2.2⟩
theorem make_words (n : Nat) (hn : n ≤ 1000000) (w : World) : (Instr.makeSlice 29 (.int .i64 (n : Int)) (.int .i64 (n : Int))).run Try.prog w = .ok (.slice (some ⟨w.heap.size, 0, none⟩) n n) (w.alloc (.cells (madeCells #[.int .u64 0] n) 23)) := by
  obtain ⟨i, h1, h2, h3, h4⟩ := info27_parts
  have := run_make w 29 23 i (.int .u64 0) Try.underlying29 h1 h2 .i64 .i64 n n (by omega) (by omega) (by rw [h4]; omega) (by omega)
  rw [h3] at this
  simpa [Value.cells] using this

/-- words of the call's own: i of them are told -/
structure Gz (W : World) (G n z : Nat) (l : List Fd) (i : Nat) (w : World) : Prop where
  done : ∀ (j x : Nat), (gets z (l.take i))[j]? = some x → w.cell? ⟨G, j, none⟩ = some (.int .u64 (x : Int))
  zero : ∀ j, i ≤ j → j < n → w.cell? ⟨G, j, none⟩ = some (.int .u64 0)
  free : ∀ k, w.frozen? ⟨G, k, none⟩ = false
  old : Below W.heap.size W w
  base : W.heap.size ≤ G
  lt : G < w.heap.size
section
variable {W w w' : World} {G n z i : Nat} {l : List Fd}
theorem Gz.below (h : Gz W G n z l i w) (hb : Below w.heap.size w w') : Gz W G n z l i w' :=
  ⟨fun j x hx => by rw [hb.cell (p := ⟨G, _, none⟩) h.lt]; exact h.done j x hx, fun j h1 h2 => by rw [hb.cell (p := ⟨G, _, none⟩) h.lt]; exact h.zero j h1 h2,
    fun k => by rw [World.frozen?_of_block (w := w) (a := ⟨G, k, none⟩) (hb.block G h.lt)]; exact h.free k, below_on h.old hb, h.base, Nat.lt_of_lt_of_le h.lt hb.size⟩
theorem Gz.drewN (h : Gz W G n z l i w) (k : Nat) : Gz W G n z l i (w.drewN k) := ⟨h.done, h.zero, h.free, below_draws h.old k, h.base, h.lt⟩
theorem Gz.put (h : Gz W G n z l i w) {x : Fd} (hx : l[i]? = some x) (hi : i < n) : Gz W G n z l (i + 1) (w.setCell ⟨G, i, none⟩ (.int .u64 ((x.get z : Nat) : Int))) := by
  have hB : Below W.heap.size W (w.setCell ⟨G, i, none⟩ (.int .u64 ((x.get z : Nat) : Int))) :=
    h.old.trans ⟨rfl, rfl, rfl, by simp [World.setCell], fun k hk => Below.heap_setCell _ _ _ _ (by have := h.base; show k ≠ G; omega)⟩
  refine ⟨fun j y hy => ?_, fun j h1 h2 => ?_, fun k => by rw [World.frozen?_setCell]; exact h.free k, hB, h.base, by simpa [World.setCell] using h.lt⟩
  · by_cases e : i = j
    · subst e
      rw [World.cell?_setCell_same _ _ _ (h.zero i (Nat.le_refl _) hi)]
      unfold gets at hy
      rw [List.getElem?_map, List.getElem?_take, if_pos (by omega), hx] at hy
      injection hy with hy
      have hy2 : x.get z = y := hy
      rw [hy2]
    · rw [World.cell?_setCell_other _ _ _ _ (fun q => e (by injection q))]
      refine h.done j y ?_
      unfold gets at hy ⊢
      rw [List.getElem?_map, List.getElem?_take] at hy ⊢
      by_cases hj : j < i
      · rw [if_pos hj]; rw [if_pos (by omega)] at hy; exact hy
      · rw [if_neg (by omega)] at hy; cases hy
  · rw [World.cell?_setCell_other _ _ _ _ (fun q => by injection q with _ q; omega)]
    exact h.zero j (by omega) h2
end

theorem get_word {z f k : Nat} (hz : z ≤ top) (h1 : 1 ≤ k) (h2 : f + k ≤ 64) : bits .and .u64 (z : Int) (((⟨f, k⟩ : Fd).bits : Nat) : Int) / 2 ^ f = (((⟨f, k⟩ : Fd).get z : Nat) : Int) := by
  have hb := Fd.bits_le (x := ⟨f, k⟩) (inw_iff.2 ⟨by simp, by simp; omega, by simp; omega, by simp; omega⟩)
  rw [bits_and_u64_nat _ _ (by unfold top at hz; omega) (by unfold top at hb; omega)]
  have e : ((z &&& (⟨f, k⟩ : Fd).bits : Nat) : Int) / 2 ^ f = ((z &&& (⟨f, k⟩ : Fd).bits) / 2 ^ f : Nat) := by simp
  have e2 := get_mul ⟨f, k⟩ z
  rw [e, ← e2]
  show (((⟨f, k⟩ : Fd).get z * 2 ^ f / 2 ^ f : Nat) : Int) = _
  rw [Nat.mul_div_cancel _ (Nat.two_pow_pos _)]

theorem g_bits {W w : World} {G n z i b f k : Nat} {l : List Fd} (h : Gz W G n z l i w) (c1 : w.cell? ⟨b, 0, none⟩ = some (.int .i64 (f : Int))) (c2 : w.cell? ⟨b, 1, none⟩ = some (.int .i64 (k : Int))) (h1 : 1 ≤ k) (h2 : f + k ≤ 64) (hi : i < n) :
    Calls Try.prog 35 #[.agg #[.int .i64 (f : Int), .int .i64 (k : Int)]] w fun e w' => e = .returned (.int .u64 (((⟨f, k⟩ : Fd).bits : Nat) : Int)) ∧ Gz W G n z l i w' ∧
      w'.cell? ⟨b, 0, none⟩ = some (.int .i64 (f : Int)) ∧ w'.cell? ⟨b, 1, none⟩ = some (.int .i64 (k : Int)) ∧ w'.cell? ⟨G, i, none⟩ = some (.int .u64 0) ∧ w'.frozen? ⟨G, i, none⟩ = false := by
  refine (bits_any f k h1 h2 w).mono ?_
  rintro e w' ⟨rfl, hb⟩
  have hg := h.below hb
  have hlt : b < w.heap.size := World.block_lt_of_cell? w _ c1
  exact ⟨rfl, hg, by rw [hb.cell (p := ⟨b, _, none⟩) hlt]; exact c1, by rw [hb.cell (p := ⟨b, _, none⟩) hlt]; exact c2, hg.zero i (Nat.le_refl _) hi, hg.free i⟩

def GetRel (W : World) (G n z : Nat) (l : List Fd) (k : Nat) (q : Value) (wr : World) : Prop :=
  ∃ i : Nat, k + i = n ∧ q = .int .i64 i ∧ Gz W G n z l i wr
/-- what Get answers -/
def gotten (z : Nat) (l : List Fd) : List Nat := if good l = true then gets z l else []

set_option maxHeartbeats 1000000 in
theorem get_any (z : Nat) (A : Option Addr) (cap : Nat) (l : List Fd) (w : World) (hz : z ≤ top) (hl : l.length ≤ 1000000) (hL : FdsAt w w.heap.size A l) :
    Calls Try.prog 31 #[.int .u64 (z : Int), .slice A l.length cap] w fun e w' => ∃ v, e = .returned v ∧ Words w' v (gotten z l) ∧ Below w.heap.size w w' := by
  have LL := Lib.hid hL
  obtain ⟨n, hn⟩ : ∃ n, n = l.length := ⟨_, rfl⟩
  rw [← hn] at hl ⊢
  have HN := Lib.hid hn
  have HZ := Lib.hid hz
  clear hn hL hz
  cases hg : good l
  · have HG := Lib.hid hg
    clear hg
    go_enter Try.func31, Try.ntmps31
    go_wp2_with (go_at_call 34; refine (good_no HN.out hl LL.out HG.out).mono ?_; rintro e w' ⟨rfl, hb⟩)
    go_ret
    refine ⟨_, rfl, ?_, hb⟩
    unfold gotten
    rw [if_neg (by rw [HG.out]; decide)]
    exact ⟨none, 0, rfl, fun h => absurd h (by simp)⟩
  · have HG := Lib.hid hg
    clear hg
    have hmk := make_words n hl
    go_enter Try.func31, Try.ntmps31
    go_wp2_with fail
    refine (good_yes HN.out hl LL.out HG.out).mono ?_
    rintro e w0 ⟨rfl, hb⟩
    obtain ⟨G, hGe⟩ : ∃ G, G = w0.heap.size := ⟨_, rfl⟩
    have h0 : Gz w G n z l 0 (w0.alloc (.cells (madeCells #[.int .u64 0] n) 23)) := by
      subst hGe
      exact ⟨fun j x hx => by simp [gets] at hx, fun j _ hj => by rw [made_cell _ _ _ _ _ hj]; simp [Nat.mod_one], fun k => made_free _ _ _ _ _, hb.alloc hb.size _, hb.size, by simp⟩
    have H0 := Lib.hid h0
    clear h0 hb
    go_wp2_with fail
    rw [← hGe]
    go_loopg [16] n (fun k q wr => GetRel w G n z l k q wr)
    case atStart => exact ⟨0, by omega, rfl, H0.out⟩
    case round =>
      obtain ⟨i, hk, rfl, hb⟩ := hrel
      have HK := Lib.hid hk
      have HB := Lib.hid hb
      clear hk hb H0 hGe
      by_cases hlt : i < n
      · have HLT := Lib.hid hlt
        have hlt2 : (i : Int) < (n : Int) := by omega
        obtain ⟨b, o, rfl, hblk, hc⟩ := LL.out (by rw [← HN.out]; omega)
        obtain ⟨x, hx⟩ : ∃ x, l[i]? = some x := ⟨l[i]'(by rw [← HN.out]; exact hlt), List.getElem?_eq_getElem _⟩
        obtain ⟨c1, c2⟩ := hc i x hx
        rw [← HB.out.old.cell (p := ⟨b, _, none⟩) hblk] at c1 c2
        obtain ⟨f, k, hxe, h1, h2⟩ := inw_nat (good_inw HG.out hx)
        subst hxe
        have hb2 := HB.out.below ((Below.refl _ _).alloc (Nat.le_refl _) (.cells #[.int .i64 f, .int .i64 k] 60))
        have HB2 := Lib.hid (hb2.drewN 1)
        have hnew := Bx.new wr ⟨f, k⟩ 60
        have HX1 : Hid ((wr.alloc (.cells #[.int .i64 f, .int .i64 k] 60)).drew.cell? ⟨wr.heap.size, 0, none⟩ = some (.int .i64 (f : Int))) := Lib.hid hnew.f
        have HX2 : Hid ((wr.alloc (.cells #[.int .i64 f, .int .i64 k] 60)).drew.cell? ⟨wr.heap.size, 1, none⟩ = some (.int .i64 (k : Int))) := Lib.hid hnew.n
        have HX := Lib.hid hx
        have H1 := Lib.hid h1
        have H2 := Lib.hid h2
        have HGW := Lib.hid (get_word HZ.out h1 h2)
        have HNE : Hid (∀ (w' : World) (v : Value) (j : Nat), (w'.setCell ⟨G, i, none⟩ v).cell? ⟨wr.heap.size, j, none⟩ = w'.cell? ⟨wr.heap.size, j, none⟩) := Lib.hid fun w' v j => World.cell?_setCell_other _ _ _ _ (fun q => by injection q with q; have := HB.out.lt; omega)
        clear hc hblk hx hb2 hnew
        go_wp2_with fail
        go_region_held3 (fun w' => w'.cell? ⟨wr.heap.size, 0, none⟩ = some (.int .i64 (f : Int)) ∧ w'.cell? ⟨wr.heap.size, 1, none⟩ = some (.int .i64 (k : Int)))
          (first | exact ⟨by assumption, by assumption⟩ | exact ⟨HX1.out, HX2.out⟩ | exact ⟨(HNE.out _ _ _).trans (by assumption), (HNE.out _ _ _).trans (by assumption)⟩)
          (first
            | (go_at_call 35; ((with_reducible refine (g_bits (w := (wr.alloc (.cells #[.int .i64 (f : Int), .int .i64 (k : Int)] 60)).drew) HB2.out HX1.out HX2.out H1.out H2.out HLT.out).mono ?_); rintro e w' ⟨rfl, hg, z1, z2, z3, z4⟩)))
        have HGG := Lib.hid hg
        clear hg z1 z2 z3 z4
        go_wp2
        go_roundg (n - (i + 1))
        case measure => have := HK.out; have := HN.out; have := HLT.out; omega
        case rel =>
          have hp := HGG.out.put HX.out HLT.out
          rw [← HGW.out] at hp
          exact ⟨i + 1, by have := HN.out; have := HLT.out; omega, by go_num, hp⟩
      · go_wp2
        go_ret
        refine ⟨_, rfl, ?_, HB.out.old⟩
        have hi : i = l.length := by have := HK.out; have := HN.out; omega
        unfold gotten
        rw [if_pos HG.out]
        refine ⟨some ⟨G, 0, none⟩, n, by rw [HN.out]; simp [gets], fun _ => ⟨G, 0, rfl, HB.out.lt, fun j x hx => ?_⟩⟩
        rw [Nat.zero_add]
        refine HB.out.done j x ?_
        rw [hi, List.take_length]; exact hx
end Go.Proofs.Ytglibcmlophieaa
