/-
  slices.Repeat of one element; bits.Mul by one. Condition: at most a thousand.
-/
import Derived.Test.YtkpbfbmkolgmgaaGreatTKb
import Derived.Laws.CopyOwn
import Derived.Deep.RegionLaw
namespace Go.Proofs.YtkpbfbmkolgmgaaGreat
open Go.RowKit

theorem and32_few : ∀ n : Fin 1001, bits .and .u64 ((n.val : Nat) : Int) 4294967295 = ((n.val : Nat) : Int) := by decide +kernel
theorem mul64_one {n : Nat} (hn : n ≤ 1000) (w : World) : Calls Tryz.prog 198 #[.int .u64 1, .int .u64 (n : Int)] w fun e w' => e = .returned (.tuple #[.int .u64 0, .int .u64 (n : Int)]) ∧ w = w' := by
  go_enter Tryz.func198, Tryz.ntmps198
  go_wp2
  go_ret2
  refine ⟨?_, rfl⟩
  have e1 : bits .and .u64 1 4294967295 = 1 := by decide +kernel
  have e2 : bits .and .u64 (n : Int) 4294967295 = n := and32_few ⟨n, by omega⟩
  have e3 : IntKind.u64.wrap (n : Int) = n := by rw [IntKind.wrap]; simp [IntKind.bits, IntKind.signed]; omega
  have e4 : (n : Int) / 4294967296 = 0 := by omega
  have e5 : IntKind.u64.wrap 0 = 0 := by decide +kernel
  have e6 : bits .and .u64 0 4294967295 = 0 := by decide +kernel
  simp only [e1, e2, Int.one_mul, e3, e4, e5, e6, Int.mul_zero, Int.add_zero, Int.zero_ediv]
  rfl
theorem mul_one_at {n : Nat} (hn : n ≤ 1000) (w : World) : Calls Tryz.prog 172 #[.int .u64 1, .int .u64 (n : Int)] w fun e w' => e = .returned (.tuple #[.int .u64 0, .int .u64 (n : Int)]) ∧ w = w' := by
  have HN := Lib.hid hn
  clear hn
  go_enter Tryz.func172, Tryz.ntmps172
  go_wp2_with (go_at_call 198; (with_reducible refine (mul64_one HN.out _).mono ?_); rintro e w' ⟨rfl, rfl⟩)
  go_ret2
  exact ⟨rfl, rfl⟩

/-! ### copy, elements of z cells -/
variable {P : Program}
theorem run_copy_rowz (w : World) (dT sT ty elem : TypeId) (z g o dLen dCap : Nat) (a : Addr) (sLen sCap : Nat) (cur : Array Value) (t : TypeId) (cs : List Value) (n : Nat)
    (hu : P.underlying dT = some (.slice elem)) (hs : (P.info? elem).map (·.size) = some z)
    (hg : w.heap[g]? = some (.cells cur t (0, 0))) (hn : n = Nat.min sLen dLen) (hcs : cs.length = n * z)
    (hsrc : ∀ j v, cs[j]? = some v → w.cell? (a.add j) = some v) (hfit : o + cs.length ≤ cur.size) (h1 : ∀ v ∈ cs, v.oneCell' = true) :
    (Builtin.copy_ #[dT, sT] ty #[.slice (some ⟨g, o, none⟩) dLen dCap, .slice (some a) sLen sCap]).run P w =
      .ok (goInt n) (w.setRow g (cur.toList.take o ++ cs ++ cur.toList.drop (o + cs.length)).toArray) := by
  have hl := run_loadCells_list (P := P) w a cs hsrc
  have hst := run_storeCells_at P g o t cs 0 cur w hg (by simpa using hfit) h1
  cases hq : P.info? elem with
  | none => simp [hq] at hs
  | some i =>
    have hi : i.size = z := by simpa [hq] using hs
    simp [Builtin.copy_, run_underlying hu, Builtin.lenOf, Builtin.firstCells, sizeOf, typeInfo, hq, hi, ← hn, ← hcs, hl, hst]
theorem step_copy_z {ops : Array Oper} {o : Oper} {a : Act} {w : World} {K : Act → World → Prop} {Q : Exit → Act → World → Prop} {E : Prop} (hgd : o.guard = none) (d s : Operand) (dT sT : TypeId)
    (ho : o.op = .call { callee := .builtin .copy, args := #[d, s], argTypes := #[dT, sT] }) (elem : TypeId) (hu : P.underlying dT = some (.slice elem)) (z : Nat) (hsz : (P.info? elem).map (·.size) = some z)
    (g off dLen dCap : Nat) (ad : Addr) (sLen sCap : Nat) (hd : a.eval d = .slice (some ⟨g, off, none⟩) dLen dCap) (hs : a.eval s = .slice (some ad) sLen sCap)
    (cur : List Value) (t : TypeId) (hg : w.heap[g]? = some (.cells cur.toArray t (0, 0))) (cs : List Value) (n : Nat) (hn : n = Nat.min sLen dLen) (hcs : cs.length = n * z)
    (hsrc : ∀ j v, cs[j]? = some v → w.cell? (ad.add j) = some v) (hfit : off + cs.length ≤ cur.length) (h1 : ∀ v ∈ cs, v.oneCell' = true) (B : Nat) (w0 : World) (hb : Below B w0 w) (hBg : B ≤ g)
    (h : ∀ w', Hid (w'.heap[g]? = some (.cells (splice cur off cs).toArray t (0, 0))) → Below B w0 w' → K (a.put o.dst (goInt n)) w') :
    if Region.wanted o (yielded ops a.tmps) = true then Oper.wp P o a w K Q else E := by
  have hw : Region.wanted o (yielded ops a.tmps) = true := by simp [Region.wanted, hgd]
  rw [if_pos hw]
  have hrun := run_copy_rowz (P := P) w dT sT o.type elem z g off dLen dCap ad sLen sCap cur.toArray t cs n hu hsz hg hn hcs hsrc (by simpa using hfit) h1
  unfold Oper.wp
  simp [execOp, ho, resolve, invoke, builtin, hd, hs, hrun, Result.andThen]
  exact h _ (show _ = _ by simpa [splice] using setRow_heap w g _ _ t _ hg) (below_setRow hb hBg _)

/-! ### the same cells again and again -/
def rep (e : List Value) : Nat → List Value
  | 0 => []
  | k + 1 => e ++ rep e k
theorem rep_length (e : List Value) : ∀ k, (rep e k).length = k * e.length
  | 0 => by simp [rep]
  | k + 1 => by rw [rep, List.length_append, rep_length e k, Nat.add_mul]; omega
theorem rep_add (e : List Value) (a : Nat) : ∀ b, rep e (b + a) = rep e b ++ rep e a
  | 0 => by simp [rep]
  | b + 1 => by rw [Nat.add_right_comm, rep, rep_add e a b, rep, List.append_assoc]
theorem rep_mem {e : List Value} : ∀ {k : Nat} {v : Value}, v ∈ rep e k → v ∈ e
  | k + 1, v, h => by
    rw [rep, List.mem_append] at h
    exact h.elim id fun q => rep_mem q
theorem rep_at (e : List Value) : ∀ (k i j : Nat), i < k → j < e.length → (rep e k)[i * e.length + j]? = e[j]?
  | k + 1, 0, j, _, hj => by rw [rep, Nat.zero_mul, Nat.zero_add, List.getElem?_append_left hj]
  | k + 1, i + 1, j, hi, hj => by
    rw [rep, List.getElem?_append_right (by rw [Nat.add_mul]; omega), show (i + 1) * e.length + j - e.length = i * e.length + j by rw [Nat.add_mul]; omega]
    exact rep_at e k i j (by omega) hj
/-- k of n have been laid -/
def RepAt (w : World) (G n : Nat) (t : TypeId) (e : List Value) (k : Nat) : Prop := k ≤ n ∧ ∃ rest : List Value, rest.length = (n - k) * e.length ∧ w.heap[G]? = some (.cells (rep e k ++ rest).toArray t (0, 0))
theorem rep_more (e rest : List Value) (k d : Nat) : splice (rep e k ++ rest) (k * e.length) (rep e d) = rep e (k + d) ++ rest.drop (d * e.length) := by
  have h1 : k * e.length = (rep e k).length := (rep_length e k).symm
  rw [splice, h1, List.take_left, rep_length e d, List.drop_append, List.drop_eq_nil_of_le (by omega), List.nil_append, rep_add, List.append_assoc, show (rep e k).length + d * e.length - (rep e k).length = d * e.length by omega]
theorem RepAt.more {w' : World} {G n : Nat} {t : TypeId} {e rest : List Value} {k d : Nat} (hr : rest.length = (n - k) * e.length) (hd : k + d ≤ n) (h : w'.heap[G]? = some (.cells (splice (rep e k ++ rest) (k * e.length) (rep e d)).toArray t (0, 0))) : RepAt w' G n t e (k + d) := by
  refine ⟨hd, rest.drop (d * e.length), ?_, by rw [h, rep_more]⟩
  rw [List.length_drop, hr, ← Nat.sub_mul]
  congr 1
  omega
theorem rep_src {e rest : List Value} {d k j : Nat} {v : Value} (h : d ≤ k) (hj : (rep e d)[j]? = some v) : (rep e k ++ rest)[j]? = some v := by
  obtain ⟨m, rfl⟩ : ∃ m, k = d + m := ⟨k - d, by omega⟩
  have hl : j < (rep e d).length := (List.getElem?_eq_some_iff.1 hj).1
  rw [rep_add, List.append_assoc, List.getElem?_append_left hl]
  exact hj
theorem RepAt.cell {w : World} {G n : Nat} {t : TypeId} {e : List Value} (h : RepAt w G n t e n) {i j : Nat} (hi : i < n) (hj : j < e.length) : w.cell? ⟨G, i * e.length + j, none⟩ = e[j]? := by
  obtain ⟨_, rest, h1, h2⟩ := h
  rw [cell_of_row _ _ _ _ _ _ h2, List.getElem?_toArray]
  have : rest = [] := List.eq_nil_of_length_eq_zero (by rw [h1]; simp)
  subst this
  rw [List.append_nil]
  exact rep_at e n i j hi hj
theorem infos_all : (Tryz.prog.info? 64).map (fun i => (i.zero, i.size, i.bytes)) = some (some (.agg #[.int .i64 0, .int .i64 0, .int .i64 0, .int .i64 0, .int .i64 0]), 5, 40) := by kernel_rfl
theorem infos_parts : ∃ i : TypeInfo, Tryz.prog.info? 64 = some i ∧ i.zero = some (.agg #[.int .i64 0, .int .i64 0, .int .i64 0, .int .i64 0, .int .i64 0]) ∧ i.size = 5 ∧ i.bytes = 40 := by
  have h := infos_all
  cases hq : Tryz.prog.info? 64 with
  | none => simp [hq] at h
  | some i =>
    simp [hq] at h
    exact ⟨i, rfl, h.1, h.2.1, h.2.2⟩
theorem make_slots (n : Nat) (hn : n ≤ 4096) (w : World) : (Instr.makeSlice 24 (.int .i64 (n : Int)) (.int .i64 (n : Int))).run Tryz.prog w = .ok (.slice (some ⟨w.heap.size, 0, none⟩) n n) (w.alloc (.cells (madeCells #[.int .i64 0, .int .i64 0, .int .i64 0, .int .i64 0, .int .i64 0] (n * 5)) 64)) := by
  obtain ⟨i, h1, h2, h3, h4⟩ := infos_parts
  have := run_make w 24 64 i (.agg #[.int .i64 0, .int .i64 0, .int .i64 0, .int .i64 0, .int .i64 0]) Tryz.underlying24 h1 h2 .i64 .i64 n n (by omega) (by omega) (by rw [h4]; omega) (by omega)
  rw [h3] at this
  simpa [Value.cells] using this

theorem repi_size : (Tryz.prog.info? 3).map (·.size) = some 1 := by kernel_rfl
def repiRel (W : World) (G n : Nat) (v : Int) (f : Nat) (p : Value) (wr : World) : Prop :=
  ∃ k : Nat, f = n - k ∧ k ≤ n ∧ (k = 0 → n = 0) ∧ p = .int .i64 k ∧ RepAt wr G n 3 [.int .i64 v] k ∧ Below W.heap.size W wr ∧ G < wr.heap.size
set_option maxRecDepth 100000 in
set_option maxHeartbeats 4000000 in
theorem repi_at {n X : Nat} {v : Int} {w : World} (hn : n ≤ 1000) (hx : w.cell? ⟨X, 0, none⟩ = some (.int .i64 v)) (hX : X < w.heap.size) :
    Calls Tryz.prog 150 #[.slice (some ⟨X, 0, none⟩) 1 1, .int .i64 (n : Int)] w fun e w' => ∃ G, e = .returned (.slice (some ⟨G, 0, none⟩) n n) ∧ RepAt w' G n 3 [.int .i64 v] n ∧ w.heap.size ≤ G ∧ G < w'.heap.size ∧ Below w.heap.size w w' := by
  have HN := Lib.hid hn
  have hmake := make_ints .i64 n (by omega) w
  have HX := Lib.hid hx
  have HXL := Lib.hid hX
  have HB : Hid (Below w.heap.size w (w.alloc (.cells (madeCells #[.int .i64 0] (n)) 3))) := Lib.hid (below_alloc _ _)
  obtain ⟨cur, hcur⟩ : ∃ cur : List Value, cur = (madeCells #[.int .i64 0] (n)).toList := ⟨_, rfl⟩
  have hlen : cur.length = n * 1 := by rw [hcur]; simp [madeCells]
  have hG : (w.alloc (.cells (madeCells #[.int .i64 0] (n)) 3)).heap[w.heap.size]? = some (.cells cur.toArray 3 (0, 0)) := by rw [hcur]; exact heap_alloc_new w _
  obtain ⟨d, hd⟩ : ∃ d, d = Nat.min 1 n := ⟨_, rfl⟩
  have hd2 : d ≤ 1 ∧ d ≤ n ∧ (d = 0 → n = 0) := by have : Nat.min 1 n = min 1 n := rfl; omega
  obtain ⟨w2, hcopy, hR, hB2, hL2⟩ : ∃ w2, (Builtin.copy_ #[28, 28] 3 #[.slice (some ⟨w.heap.size, 0, none⟩) n n, .slice (some ⟨X, 0, none⟩) 1 1]).run Tryz.prog (w.alloc (.cells (madeCells #[.int .i64 0] (n)) 3)) = .ok (goInt d) w2 ∧ RepAt w2 w.heap.size n 3 [.int .i64 v] d ∧ Below w.heap.size w w2 ∧ w.heap.size < w2.heap.size := by
    refine ⟨_, run_copy_rowz (P := Tryz.prog) _ 28 28 3 3 1 w.heap.size 0 n n ⟨X, 0, none⟩ 1 1 cur.toArray 3 (rep [.int .i64 v] d) d Tryz.underlying28 repi_size hG hd (by rw [rep_length]; rfl) ?_ ?_ ?_, ?_, ?_, ?_⟩
    · intro j u hj
      have hd1 : d = 0 ∨ d = 1 := by omega
      rcases hd1 with e | e
      · rw [e] at hj; cases hj
      · rw [e, rep, rep, List.append_nil] at hj
        rw [(below_alloc w _).cell (p := ((⟨X, 0, none⟩ : Addr).add j)) (by unfold Addr.add; split <;> exact hX)]
        rcases j with _ | j
        · cases hj; exact hx
        · simp at hj
    · rw [rep_length]; simp [hlen]; omega
    · exact fun u hu => by have := rep_mem hu; simp at this; rcases this with rfl <;> rfl
    · have h1 := setRow_heap (w.alloc (.cells (madeCells #[.int .i64 0] (n)) 3)) w.heap.size cur.toArray (splice (rep [.int .i64 v] 0 ++ cur) (0 * ([.int .i64 v] : List Value).length) (rep [.int .i64 v] d)).toArray 3 (0, 0) hG
      have h2 := RepAt.more (n := n) (k := 0) (d := d) (w' := (w.alloc (.cells (madeCells #[.int .i64 0] (n)) 3)).setRow w.heap.size (splice (rep [.int .i64 v] 0 ++ cur) (0 * ([.int .i64 v] : List Value).length) (rep [.int .i64 v] d)).toArray) (by rw [hlen]; simp) (by omega) h1
      rw [Nat.zero_add] at h2
      simpa [splice, rep] using h2
    · exact below_setRow (below_alloc _ _) (Nat.le_refl _) _
    · simp [World.setRow]
  have HR := Lib.hid hR
  have HB2 := Lib.hid hB2
  have HL2 := Lib.hid hL2
  have HD2 := Lib.hid hd2
  have h0 : ¬ (n : Int) < 0 := by omega
  have hbig : decide ((9223372036854775807 : Int) < (n : Int)) = false := decide_eq_false (by omega)
  have hn3 : (n : Int) ≤ 1000 := by omega
  clear hn hx hX hcur hlen hd hd2 hG hR hB2 hL2 HX HXL HB
  obtain ⟨G, hG⟩ : ∃ G, G = w.heap.size := ⟨_, rfl⟩
  have HGE := Lib.hid hG
  rw [← hG] at HR HL2
  go_enter Tryz.func150, Tryz.ntmps150
  go_wp2_with (go_at_call 172; (with_reducible refine (mul_one_at HN.out _).mono ?_); rintro e w' ⟨rfl, rfl⟩)
  rw [← hG]
  clear hG hmake hcopy
  go_loopg [8] (n - d) (fun f p wr => repiRel w G n v f p wr)
  case atStart => exact ⟨d, rfl, HD2.out.2.1, HD2.out.2.2, rfl, HR.out, HB2.out, HL2.out⟩
  case round =>
    obtain ⟨k, hk, hkn, hk0, rfl, hR, hB, hL⟩ := hrel
    have HK := Lib.hid hk
    have HR3 := Lib.hid hR
    have HB3 := Lib.hid hB
    have HL3 := Lib.hid hL
    clear hk hR hB hL HR HB2 HL2
    by_cases hlt : k < n
    · have hlt2 : (k : Int) < (n : Int) := by omega
      have hkp : 0 < k := by omega
      obtain ⟨-, rest, hrest, hheap⟩ := HR3.out
      obtain ⟨d2, hd2⟩ : ∃ d2, d2 = Nat.min k (n - k) := ⟨_, rfl⟩
      have hd3 : d2 ≤ k ∧ k + d2 ≤ n ∧ 0 < d2 := by have : Nat.min k (n - k) = min k (n - k) := rfl; omega
      have HD := Lib.hid hd2
      have HD3 := Lib.hid hd3
      have HRE := Lib.hid hrest
      have HHP := Lib.hid hheap
      have HSRC : Hid (∀ j v', (rep [.int .i64 v] d2)[j]? = some v' → wr.cell? ((⟨G, 0, none⟩ : Addr).add j) = some v') := Lib.hid fun j v' hj => by
        have e : (⟨G, 0, none⟩ : Addr).add j = ⟨G, j, none⟩ := by unfold Addr.add; split <;> simp_all
        rw [e, cell_of_row _ _ _ _ _ _ HHP.out, List.getElem?_toArray]
        exact rep_src HD3.out.1 hj
      have HOFF : Hid (k * ([.int .i64 v] : List Value).length = k) := Lib.hid (by simp)
      have HFIT : Hid (k + (rep [.int .i64 v] d2).length ≤ (rep [.int .i64 v] k ++ rest).length) := Lib.hid (by
        have h : k * ([.int .i64 v] : List Value).length + (rep [.int .i64 v] d2).length ≤ (rep [.int .i64 v] k ++ rest).length := by
          rw [rep_length, List.length_append, rep_length, HRE.out, ← Nat.add_mul, ← Nat.add_mul]
          exact Nat.mul_le_mul_right _ (by have := HD3.out; omega)
        rw [HOFF.out] at h
        exact h)
      have HONE : Hid (∀ u ∈ rep [.int .i64 v] d2, u.oneCell' = true) := Lib.hid fun u hu => by have := rep_mem hu; simp at this; rcases this with rfl <;> rfl
      have hnk : ¬ n = k := by omega
      clear hrest hheap hd2 hd3
      go_wp2_with fail
      refine wp_region_held_drew (S := fun _ => True) (by kernel_rfl) trivial (fun hHeld => ?_)
      refine wpAnyH_take (i := 0) (v := ?_) rfl (by kernel_rfl) (by kernel_rfl) (by kernel_rfl) (fun _ _ _ h => h) (Or.inl ⟨by rfl, ?_⟩) (by assumption) ?_
      rotate_left
      · intro w hSw; go_split_ands; go_simp; try with_reducible rfl
      simp only [Act.put, List.setIfInBounds_toArray, List.set_cons_zero, List.set_cons_succ, List.getElem_toArray, List.getElem_cons_zero]
      refine wpAnyH_take (i := 1) (v := ?_) rfl (by kernel_rfl) (by kernel_rfl) (by kernel_rfl) (fun _ _ _ h => h) (Or.inl ⟨by rfl, ?_⟩) (by assumption) ?_
      rotate_left
      · intro w hSw; go_split_ands; go_simp; try with_reducible rfl
      simp only [Act.put, List.setIfInBounds_toArray, List.set_cons_zero, List.set_cons_succ, List.getElem_toArray, List.getElem_cons_zero, List.getElem_cons_succ]
      refine wpAnyH_take (i := 2) (v := ?_) rfl (by kernel_rfl) (by kernel_rfl) (by kernel_rfl) (fun _ _ _ h => h) (Or.inl ⟨by rfl, ?_⟩) (by assumption) ?_
      rotate_left
      · intro w hSw; go_split_ands; go_simp; try with_reducible rfl
      simp only [Act.put, List.setIfInBounds_toArray, List.set_cons_zero, List.set_cons_succ, List.getElem_toArray, List.getElem_cons_zero, List.getElem_cons_succ]
      refine wpAnyH_take (i := 3) (v := ?_) rfl (by kernel_rfl) (by kernel_rfl) (by kernel_rfl) (fun _ _ _ h => h) (Or.inl ⟨by rfl, ?_⟩) (by assumption) ?_
      rotate_left
      · intro w hSw; go_split_ands; go_simp; try with_reducible rfl
      simp only [Act.put, List.setIfInBounds_toArray, List.set_cons_zero, List.set_cons_succ, List.getElem_toArray, List.getElem_cons_zero, List.getElem_cons_succ]
      refine wpAnyH_take (i := 4) (v := ?_) rfl (by kernel_rfl) (by kernel_rfl) (by kernel_rfl) (fun _ _ _ h => h) (Or.inl ⟨by rfl, ?_⟩) (by assumption) ?_
      rotate_left
      · intro w hSw; go_split_ands; go_simp; try with_reducible rfl
      simp only [Act.put, List.setIfInBounds_toArray, List.set_cons_zero, List.set_cons_succ, List.getElem_toArray, List.getElem_cons_zero, List.getElem_cons_succ]
      refine wpAnyH_take (i := 5) (v := ?_) rfl (by kernel_rfl) (by kernel_rfl) (by kernel_rfl) (fun _ _ _ h => h) (Or.inl ⟨by rfl, ?_⟩) (by assumption) ?_
      rotate_left
      · intro w hSw; go_split_ands; go_simp; try with_reducible rfl
      simp only [Act.put, List.setIfInBounds_toArray, List.set_cons_zero, List.set_cons_succ, List.getElem_toArray, List.getElem_cons_zero, List.getElem_cons_succ]
      refine wpAnyH_take (i := 6) (v := ?_) rfl (by kernel_rfl) (by kernel_rfl) (by kernel_rfl) (fun _ _ _ h => h) (Or.inl ⟨by rfl, ?_⟩) (by assumption) ?_
      rotate_left
      · intro w hSw; go_split_ands; go_simp; try with_reducible rfl
      simp only [Act.put, List.setIfInBounds_toArray, List.set_cons_zero, List.set_cons_succ, List.getElem_toArray, List.getElem_cons_zero, List.getElem_cons_succ]
      refine wpAnyH_ready (rs := [7]) (by kernel_rfl) (by simp) ?_
      refine AllReadyH.cons rfl (fun K hK => ?_) AllReadyH.nil
      refine step_copy_z rfl _ _ 28 28 rfl 3 Tryz.underlying28 1 repi_size G (k) (n - k) (n - k) ⟨G, 0, none⟩ k n rfl rfl (rep [.int .i64 v] k ++ rest) 3 HHP.out (rep [.int .i64 v] d2) d2 HD.out (by rw [rep_length]; rfl) HSRC.out HFIT.out HONE.out w.heap.size w HB3.out.drew (by have := HGE.out; omega) ?_
      intro w4 hg4 hb4
      refine hK.out _ _ trivial (fun hHeld => ?_)
      clear hK K
      try simp only [Act.put, List.setIfInBounds_toArray, List.set_cons_zero, List.set_cons_succ, List.getElem_toArray, List.getElem_cons_zero, List.getElem_cons_succ]
      refine wpAnyH_take (i := 8) (v := ?_) rfl (by kernel_rfl) (by kernel_rfl) (by kernel_rfl) (fun _ _ _ h => h) (Or.inl ⟨by rfl, ?_⟩) (by assumption) ?_
      rotate_left
      · intro w hSw; go_split_ands; go_simp; try with_reducible rfl
      simp only [Act.put, List.setIfInBounds_toArray, List.set_cons_zero, List.set_cons_succ, List.getElem_toArray, List.getElem_cons_zero, List.getElem_cons_succ]
      refine wpAnyH_take (i := 9) (v := ?_) rfl (by kernel_rfl) (by kernel_rfl) (by kernel_rfl) (fun _ _ _ h => h) (Or.inl ⟨by rfl, ?_⟩) (by assumption) ?_
      rotate_left
      · intro w hSw; go_split_ands; go_simp; try with_reducible rfl
      simp only [Act.put, List.setIfInBounds_toArray, List.set_cons_zero, List.set_cons_succ, List.getElem_toArray, List.getElem_cons_zero, List.getElem_cons_succ]
      refine wpAnyH_done (by kernel_rfl) ?_ _
      have hg5 : w4.heap[G]? = some (.cells (splice (rep [.int .i64 v] k ++ rest) (k * ([.int .i64 v] : List Value).length) (rep [.int .i64 v] d2)).toArray 3 (0, 0)) := by rw [HOFF.out]; exact hg4.out
      have HR5 := Lib.hid (RepAt.more HRE.out HD3.out.2.1 hg5)
      have HB5 := Lib.hid hb4
      have HL5 : Hid (G < w4.heap.size) := Lib.hid (Array.getElem?_eq_some_iff.1 hg4.out).1
      clear hg4 hb4 hg5
      have hd4 : d2 ≤ n := by have := HD3.out; omega
      go_wp2
      go_roundg (n - (k + d2))
      case measure => have := HK.out; have := HD3.out; omega
      case rel => exact ⟨k + d2, rfl, HD3.out.2.1, by have := HD3.out; omega, by refine congrArg (Value.int .i64) ?_; first | exact wrap_in (by omega) (by omega) | exact w64_in (by omega) (by omega), HR5.out, HB5.out, HL5.out⟩
    · have hkeq : k = n := by omega
      subst hkeq
      have hlt2 : ¬ (k : Int) < (k : Int) := by omega
      go_wp2
      go_ret
      exact ⟨G, rfl, HR3.out, by have := HGE.out; omega, HL3.out, HB3.out⟩

theorem reps_size : (Tryz.prog.info? 64).map (·.size) = some 5 := by kernel_rfl
def repsRel (W : World) (G n : Nat) (v0 v1 v2 v3 v4 : Int) (f : Nat) (p : Value) (wr : World) : Prop :=
  ∃ k : Nat, f = n - k ∧ k ≤ n ∧ (k = 0 → n = 0) ∧ p = .int .i64 k ∧ RepAt wr G n 64 [.int .i64 v0, .int .i64 v1, .int .i64 v2, .int .i64 v3, .int .i64 v4] k ∧ Below W.heap.size W wr ∧ G < wr.heap.size
set_option maxRecDepth 100000 in
set_option maxHeartbeats 4000000 in
theorem reps_at {n X : Nat} {v0 v1 v2 v3 v4 : Int} {w : World} (hn : n ≤ 1000) (hx : w.cell? ⟨X, 0, none⟩ = some (.int .i64 v0) ∧ w.cell? ⟨X, 1, none⟩ = some (.int .i64 v1) ∧ w.cell? ⟨X, 2, none⟩ = some (.int .i64 v2) ∧ w.cell? ⟨X, 3, none⟩ = some (.int .i64 v3) ∧ w.cell? ⟨X, 4, none⟩ = some (.int .i64 v4)) (hX : X < w.heap.size) :
    Calls Tryz.prog 132 #[.slice (some ⟨X, 0, none⟩) 1 1, .int .i64 (n : Int)] w fun e w' => ∃ G, e = .returned (.slice (some ⟨G, 0, none⟩) n n) ∧ RepAt w' G n 64 [.int .i64 v0, .int .i64 v1, .int .i64 v2, .int .i64 v3, .int .i64 v4] n ∧ w.heap.size ≤ G ∧ G < w'.heap.size ∧ Below w.heap.size w w' := by
  have HN := Lib.hid hn
  have hmake := make_slots n (by omega) w
  have HX := Lib.hid hx
  have HXL := Lib.hid hX
  have HB : Hid (Below w.heap.size w (w.alloc (.cells (madeCells #[.int .i64 0, .int .i64 0, .int .i64 0, .int .i64 0, .int .i64 0] (n * 5)) 64))) := Lib.hid (below_alloc _ _)
  obtain ⟨cur, hcur⟩ : ∃ cur : List Value, cur = (madeCells #[.int .i64 0, .int .i64 0, .int .i64 0, .int .i64 0, .int .i64 0] (n * 5)).toList := ⟨_, rfl⟩
  have hlen : cur.length = n * 5 := by rw [hcur]; simp [madeCells]
  have hG : (w.alloc (.cells (madeCells #[.int .i64 0, .int .i64 0, .int .i64 0, .int .i64 0, .int .i64 0] (n * 5)) 64)).heap[w.heap.size]? = some (.cells cur.toArray 64 (0, 0)) := by rw [hcur]; exact heap_alloc_new w _
  obtain ⟨d, hd⟩ : ∃ d, d = Nat.min 1 n := ⟨_, rfl⟩
  have hd2 : d ≤ 1 ∧ d ≤ n ∧ (d = 0 → n = 0) := by have : Nat.min 1 n = min 1 n := rfl; omega
  obtain ⟨w2, hcopy, hR, hB2, hL2⟩ : ∃ w2, (Builtin.copy_ #[24, 24] 3 #[.slice (some ⟨w.heap.size, 0, none⟩) n n, .slice (some ⟨X, 0, none⟩) 1 1]).run Tryz.prog (w.alloc (.cells (madeCells #[.int .i64 0, .int .i64 0, .int .i64 0, .int .i64 0, .int .i64 0] (n * 5)) 64)) = .ok (goInt d) w2 ∧ RepAt w2 w.heap.size n 64 [.int .i64 v0, .int .i64 v1, .int .i64 v2, .int .i64 v3, .int .i64 v4] d ∧ Below w.heap.size w w2 ∧ w.heap.size < w2.heap.size := by
    refine ⟨_, run_copy_rowz (P := Tryz.prog) _ 24 24 3 64 5 w.heap.size 0 n n ⟨X, 0, none⟩ 1 1 cur.toArray 64 (rep [.int .i64 v0, .int .i64 v1, .int .i64 v2, .int .i64 v3, .int .i64 v4] d) d Tryz.underlying24 reps_size hG hd (by rw [rep_length]; rfl) ?_ ?_ ?_, ?_, ?_, ?_⟩
    · intro j u hj
      have hd1 : d = 0 ∨ d = 1 := by omega
      rcases hd1 with e | e
      · rw [e] at hj; cases hj
      · rw [e, rep, rep, List.append_nil] at hj
        rw [(below_alloc w _).cell (p := ((⟨X, 0, none⟩ : Addr).add j)) (by unfold Addr.add; split <;> exact hX)]
        rcases j with _ | _ | _ | _ | _ | j
        · cases hj; exact hx.1
        · cases hj; exact hx.2.1
        · cases hj; exact hx.2.2.1
        · cases hj; exact hx.2.2.2.1
        · cases hj; exact hx.2.2.2.2
        · simp at hj
    · rw [rep_length]; simp [hlen]; omega
    · exact fun u hu => by have := rep_mem hu; simp at this; rcases this with rfl | rfl | rfl | rfl | rfl <;> rfl
    · have h1 := setRow_heap (w.alloc (.cells (madeCells #[.int .i64 0, .int .i64 0, .int .i64 0, .int .i64 0, .int .i64 0] (n * 5)) 64)) w.heap.size cur.toArray (splice (rep [.int .i64 v0, .int .i64 v1, .int .i64 v2, .int .i64 v3, .int .i64 v4] 0 ++ cur) (0 * ([.int .i64 v0, .int .i64 v1, .int .i64 v2, .int .i64 v3, .int .i64 v4] : List Value).length) (rep [.int .i64 v0, .int .i64 v1, .int .i64 v2, .int .i64 v3, .int .i64 v4] d)).toArray 64 (0, 0) hG
      have h2 := RepAt.more (n := n) (k := 0) (d := d) (w' := (w.alloc (.cells (madeCells #[.int .i64 0, .int .i64 0, .int .i64 0, .int .i64 0, .int .i64 0] (n * 5)) 64)).setRow w.heap.size (splice (rep [.int .i64 v0, .int .i64 v1, .int .i64 v2, .int .i64 v3, .int .i64 v4] 0 ++ cur) (0 * ([.int .i64 v0, .int .i64 v1, .int .i64 v2, .int .i64 v3, .int .i64 v4] : List Value).length) (rep [.int .i64 v0, .int .i64 v1, .int .i64 v2, .int .i64 v3, .int .i64 v4] d)).toArray) (by rw [hlen]; simp) (by omega) h1
      rw [Nat.zero_add] at h2
      simpa [splice, rep] using h2
    · exact below_setRow (below_alloc _ _) (Nat.le_refl _) _
    · simp [World.setRow]
  have HR := Lib.hid hR
  have HB2 := Lib.hid hB2
  have HL2 := Lib.hid hL2
  have HD2 := Lib.hid hd2
  have h0 : ¬ (n : Int) < 0 := by omega
  have hbig : decide ((9223372036854775807 : Int) < (n : Int)) = false := decide_eq_false (by omega)
  have hn3 : (n : Int) ≤ 1000 := by omega
  clear hn hx hX hcur hlen hd hd2 hG hR hB2 hL2 HX HXL HB
  obtain ⟨G, hG⟩ : ∃ G, G = w.heap.size := ⟨_, rfl⟩
  have HGE := Lib.hid hG
  rw [← hG] at HR HL2
  go_enter Tryz.func132, Tryz.ntmps132
  go_wp2_with (go_at_call 172; (with_reducible refine (mul_one_at HN.out _).mono ?_); rintro e w' ⟨rfl, rfl⟩)
  rw [← hG]
  clear hG hmake hcopy
  go_loopg [8] (n - d) (fun f p wr => repsRel w G n v0 v1 v2 v3 v4 f p wr)
  case atStart => exact ⟨d, rfl, HD2.out.2.1, HD2.out.2.2, rfl, HR.out, HB2.out, HL2.out⟩
  case round =>
    obtain ⟨k, hk, hkn, hk0, rfl, hR, hB, hL⟩ := hrel
    have HK := Lib.hid hk
    have HR3 := Lib.hid hR
    have HB3 := Lib.hid hB
    have HL3 := Lib.hid hL
    clear hk hR hB hL HR HB2 HL2
    by_cases hlt : k < n
    · have hlt2 : (k : Int) < (n : Int) := by omega
      have hkp : 0 < k := by omega
      obtain ⟨-, rest, hrest, hheap⟩ := HR3.out
      obtain ⟨d2, hd2⟩ : ∃ d2, d2 = Nat.min k (n - k) := ⟨_, rfl⟩
      have hd3 : d2 ≤ k ∧ k + d2 ≤ n ∧ 0 < d2 := by have : Nat.min k (n - k) = min k (n - k) := rfl; omega
      have HD := Lib.hid hd2
      have HD3 := Lib.hid hd3
      have HRE := Lib.hid hrest
      have HHP := Lib.hid hheap
      have HSRC : Hid (∀ j v', (rep [.int .i64 v0, .int .i64 v1, .int .i64 v2, .int .i64 v3, .int .i64 v4] d2)[j]? = some v' → wr.cell? ((⟨G, 0, none⟩ : Addr).add j) = some v') := Lib.hid fun j v' hj => by
        have e : (⟨G, 0, none⟩ : Addr).add j = ⟨G, j, none⟩ := by unfold Addr.add; split <;> simp_all
        rw [e, cell_of_row _ _ _ _ _ _ HHP.out, List.getElem?_toArray]
        exact rep_src HD3.out.1 hj
      have HOFF : Hid (k * ([.int .i64 v0, .int .i64 v1, .int .i64 v2, .int .i64 v3, .int .i64 v4] : List Value).length = k * 5) := Lib.hid (by simp)
      have HFIT : Hid (k * 5 + (rep [.int .i64 v0, .int .i64 v1, .int .i64 v2, .int .i64 v3, .int .i64 v4] d2).length ≤ (rep [.int .i64 v0, .int .i64 v1, .int .i64 v2, .int .i64 v3, .int .i64 v4] k ++ rest).length) := Lib.hid (by
        have h : k * ([.int .i64 v0, .int .i64 v1, .int .i64 v2, .int .i64 v3, .int .i64 v4] : List Value).length + (rep [.int .i64 v0, .int .i64 v1, .int .i64 v2, .int .i64 v3, .int .i64 v4] d2).length ≤ (rep [.int .i64 v0, .int .i64 v1, .int .i64 v2, .int .i64 v3, .int .i64 v4] k ++ rest).length := by
          rw [rep_length, List.length_append, rep_length, HRE.out, ← Nat.add_mul, ← Nat.add_mul]
          exact Nat.mul_le_mul_right _ (by have := HD3.out; omega)
        rw [HOFF.out] at h
        exact h)
      have HONE : Hid (∀ u ∈ rep [.int .i64 v0, .int .i64 v1, .int .i64 v2, .int .i64 v3, .int .i64 v4] d2, u.oneCell' = true) := Lib.hid fun u hu => by have := rep_mem hu; simp at this; rcases this with rfl | rfl | rfl | rfl | rfl <;> rfl
      have hnk : ¬ n = k := by omega
      clear hrest hheap hd2 hd3
      go_wp2_with fail
      refine wp_region_held_drew (S := fun _ => True) (by kernel_rfl) trivial (fun hHeld => ?_)
      refine wpAnyH_take (i := 0) (v := ?_) rfl (by kernel_rfl) (by kernel_rfl) (by kernel_rfl) (fun _ _ _ h => h) (Or.inl ⟨by rfl, ?_⟩) (by assumption) ?_
      rotate_left
      · intro w hSw; go_split_ands; go_simp; try with_reducible rfl
      simp only [Act.put, List.setIfInBounds_toArray, List.set_cons_zero, List.set_cons_succ, List.getElem_toArray, List.getElem_cons_zero]
      refine wpAnyH_take (i := 1) (v := ?_) rfl (by kernel_rfl) (by kernel_rfl) (by kernel_rfl) (fun _ _ _ h => h) (Or.inl ⟨by rfl, ?_⟩) (by assumption) ?_
      rotate_left
      · intro w hSw; go_split_ands; go_simp; try with_reducible rfl
      simp only [Act.put, List.setIfInBounds_toArray, List.set_cons_zero, List.set_cons_succ, List.getElem_toArray, List.getElem_cons_zero, List.getElem_cons_succ]
      refine wpAnyH_take (i := 2) (v := ?_) rfl (by kernel_rfl) (by kernel_rfl) (by kernel_rfl) (fun _ _ _ h => h) (Or.inl ⟨by rfl, ?_⟩) (by assumption) ?_
      rotate_left
      · intro w hSw; go_split_ands; go_simp; try with_reducible rfl
      simp only [Act.put, List.setIfInBounds_toArray, List.set_cons_zero, List.set_cons_succ, List.getElem_toArray, List.getElem_cons_zero, List.getElem_cons_succ]
      refine wpAnyH_take (i := 3) (v := ?_) rfl (by kernel_rfl) (by kernel_rfl) (by kernel_rfl) (fun _ _ _ h => h) (Or.inl ⟨by rfl, ?_⟩) (by assumption) ?_
      rotate_left
      · intro w hSw; go_split_ands; go_simp; try with_reducible rfl
      simp only [Act.put, List.setIfInBounds_toArray, List.set_cons_zero, List.set_cons_succ, List.getElem_toArray, List.getElem_cons_zero, List.getElem_cons_succ]
      refine wpAnyH_take (i := 4) (v := ?_) rfl (by kernel_rfl) (by kernel_rfl) (by kernel_rfl) (fun _ _ _ h => h) (Or.inl ⟨by rfl, ?_⟩) (by assumption) ?_
      rotate_left
      · intro w hSw; go_split_ands; go_simp; try with_reducible rfl
      simp only [Act.put, List.setIfInBounds_toArray, List.set_cons_zero, List.set_cons_succ, List.getElem_toArray, List.getElem_cons_zero, List.getElem_cons_succ]
      refine wpAnyH_take (i := 5) (v := ?_) rfl (by kernel_rfl) (by kernel_rfl) (by kernel_rfl) (fun _ _ _ h => h) (Or.inl ⟨by rfl, ?_⟩) (by assumption) ?_
      rotate_left
      · intro w hSw; go_split_ands; go_simp; try with_reducible rfl
      simp only [Act.put, List.setIfInBounds_toArray, List.set_cons_zero, List.set_cons_succ, List.getElem_toArray, List.getElem_cons_zero, List.getElem_cons_succ]
      refine wpAnyH_take (i := 6) (v := ?_) rfl (by kernel_rfl) (by kernel_rfl) (by kernel_rfl) (fun _ _ _ h => h) (Or.inl ⟨by rfl, ?_⟩) (by assumption) ?_
      rotate_left
      · intro w hSw; go_split_ands; go_simp; try with_reducible rfl
      simp only [Act.put, List.setIfInBounds_toArray, List.set_cons_zero, List.set_cons_succ, List.getElem_toArray, List.getElem_cons_zero, List.getElem_cons_succ]
      refine wpAnyH_ready (rs := [7]) (by kernel_rfl) (by simp) ?_
      refine AllReadyH.cons rfl (fun K hK => ?_) AllReadyH.nil
      refine step_copy_z rfl _ _ 24 24 rfl 64 Tryz.underlying24 5 reps_size G (k * 5) (n - k) (n - k) ⟨G, 0, none⟩ k n rfl rfl (rep [.int .i64 v0, .int .i64 v1, .int .i64 v2, .int .i64 v3, .int .i64 v4] k ++ rest) 64 HHP.out (rep [.int .i64 v0, .int .i64 v1, .int .i64 v2, .int .i64 v3, .int .i64 v4] d2) d2 HD.out (by rw [rep_length]; rfl) HSRC.out HFIT.out HONE.out w.heap.size w HB3.out.drew (by have := HGE.out; omega) ?_
      intro w4 hg4 hb4
      refine hK.out _ _ trivial (fun hHeld => ?_)
      clear hK K
      try simp only [Act.put, List.setIfInBounds_toArray, List.set_cons_zero, List.set_cons_succ, List.getElem_toArray, List.getElem_cons_zero, List.getElem_cons_succ]
      refine wpAnyH_take (i := 8) (v := ?_) rfl (by kernel_rfl) (by kernel_rfl) (by kernel_rfl) (fun _ _ _ h => h) (Or.inl ⟨by rfl, ?_⟩) (by assumption) ?_
      rotate_left
      · intro w hSw; go_split_ands; go_simp; try with_reducible rfl
      simp only [Act.put, List.setIfInBounds_toArray, List.set_cons_zero, List.set_cons_succ, List.getElem_toArray, List.getElem_cons_zero, List.getElem_cons_succ]
      refine wpAnyH_take (i := 9) (v := ?_) rfl (by kernel_rfl) (by kernel_rfl) (by kernel_rfl) (fun _ _ _ h => h) (Or.inl ⟨by rfl, ?_⟩) (by assumption) ?_
      rotate_left
      · intro w hSw; go_split_ands; go_simp; try with_reducible rfl
      simp only [Act.put, List.setIfInBounds_toArray, List.set_cons_zero, List.set_cons_succ, List.getElem_toArray, List.getElem_cons_zero, List.getElem_cons_succ]
      refine wpAnyH_done (by kernel_rfl) ?_ _
      have hg5 : w4.heap[G]? = some (.cells (splice (rep [.int .i64 v0, .int .i64 v1, .int .i64 v2, .int .i64 v3, .int .i64 v4] k ++ rest) (k * ([.int .i64 v0, .int .i64 v1, .int .i64 v2, .int .i64 v3, .int .i64 v4] : List Value).length) (rep [.int .i64 v0, .int .i64 v1, .int .i64 v2, .int .i64 v3, .int .i64 v4] d2)).toArray 64 (0, 0)) := by rw [HOFF.out]; exact hg4.out
      have HR5 := Lib.hid (RepAt.more HRE.out HD3.out.2.1 hg5)
      have HB5 := Lib.hid hb4
      have HL5 : Hid (G < w4.heap.size) := Lib.hid (Array.getElem?_eq_some_iff.1 hg4.out).1
      clear hg4 hb4 hg5
      have hd4 : d2 ≤ n := by have := HD3.out; omega
      go_wp2
      go_roundg (n - (k + d2))
      case measure => have := HK.out; have := HD3.out; omega
      case rel => exact ⟨k + d2, rfl, HD3.out.2.1, by have := HD3.out; omega, by refine congrArg (Value.int .i64) ?_; first | exact wrap_in (by omega) (by omega) | exact w64_in (by omega) (by omega), HR5.out, HB5.out, HL5.out⟩
    · have hkeq : k = n := by omega
      subst hkeq
      have hlt2 : ¬ (k : Int) < (k : Int) := by omega
      go_wp2
      go_ret
      exact ⟨G, rfl, HR3.out, by have := HGE.out; omega, HL3.out, HB3.out⟩
end Go.Proofs.YtkpbfbmkolgmgaaGreat
