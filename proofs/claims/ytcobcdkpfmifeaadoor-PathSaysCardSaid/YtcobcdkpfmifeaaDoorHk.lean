/-
  The walk of the law PathOne. Condition: the steps of both ways lie in memory, each list in the room of its length.
-/
import Derived.Test.YtcobcdkpfmifeaaDoorHj
namespace Go.Proofs.YtcobcdkpfmifeaaDoor
open Go.RowKit

theorem pword_inj {l m : List Int} (h : pgood l = true) (k : pgood m = true) : pword l = pword m → l = m := fun e => by
  have h1 := pget_pword h
  have h2 := pget_pword k
  rw [e, h2] at h1
  exact (Option.some.inj h1).symm
theorem ptext_inj {l m : List Int} (h : pgood l = true) (k : pgood m = true) : ptext l = ptext m → l = m := fun e => by
  have h1 := pparse_ptext h
  have h2 := pparse_ptext k
  rw [e, h2] at h1
  exact (Option.some.inj h1).symm
theorem begins_both (l m : List Int) : (pbegins l m && pbegins m l) = (l == m) := by
  rw [Bool.eq_iff_iff, Bool.and_eq_true, beq_iff_eq]
  unfold pbegins
  rw [Bool.and_eq_true, Bool.and_eq_true, decide_eq_true_eq, decide_eq_true_eq, beq_iff_eq, beq_iff_eq]
  constructor
  · rintro ⟨⟨h1, h2⟩, ⟨h3, _⟩⟩
    have : m.length = l.length := by omega
    rw [this, List.take_length] at h2
    exact h2
  · rintro rfl
    simp

/-- two boxes beside one another -/
structure Tb (W w : World) (P : Nat) (u v : Value) : Prop where
  p : w.cell? ⟨P, 0, none⟩ = some u
  q : w.cell? ⟨P + 1, 0, none⟩ = some v
  old : Below W.heap.size W w
  lt : P + 1 < w.heap.size
theorem Tb.on {W w w' : World} {P : Nat} {u v : Value} (h : Tb W w P u v) (hb : Below w.heap.size w w') : Tb W w' P u v := by
  have := h.lt
  exact ⟨by rw [hb.cell (p := ⟨P, 0, none⟩) (by show P < _; omega)]; exact h.p, by rw [hb.cell (p := ⟨P + 1, 0, none⟩) h.lt]; exact h.q, below_on h.old hb, Nat.lt_of_lt_of_le h.lt hb.size⟩
theorem tb_use {W w : World} {P N : Nat} {u v r : Value} {xs : Array Value} (h : Tb W w P u v) (hc : Calls Tryd.prog N xs w fun e w' => e = .returned r ∧ Below w.heap.size w w') :
    Calls Tryd.prog N xs w fun e w' => e = .returned r ∧ w'.cell? ⟨P, 0, none⟩ = some u ∧ w'.cell? ⟨P + 1, 0, none⟩ = some v ∧ Tb W w' P u v := by
  refine hc.mono ?_
  rintro e w' ⟨rfl, hb⟩
  have k := h.on hb
  exact ⟨rfl, k.p, k.q, k⟩
theorem Tb.new {W w : World} (h : Below W.heap.size W w) (u v : Value) : Tb W ((w.alloc (.cells #[u] 26)).alloc (.cells #[v] 26)) w.heap.size u v := by
  have h1 := (Bx.new w u 26).on (below_alloc _ (.cells #[v] 26))
  have h2 := Bx.new (w.alloc (.cells #[u] 26)) v 26
  have hs : (w.alloc (.cells #[u] 26)).heap.size = w.heap.size + 1 := by simp
  rw [hs] at h2
  exact ⟨h1.c, h2.c, below_on h h1.old, h2.lt⟩
theorem begins_is {A B : Option Addr} {n k c d : Nat} {l m : List Int} {x : Bool} {w : World} (hn : n = l.length) (hk : k = m.length) (hc : n ≤ c) (hbig : n ≤ 1000000) (hL : IntsAt w w.heap.size A l) (hM : IntsAt w w.heap.size B m) (hx : pbegins l m = x) :
    Calls Tryd.prog 13 #[.agg #[.slice A n c], .agg #[.slice B k d]] w fun e w' => e = .returned (.bool x) ∧ Below w.heap.size w w' := by
  subst hn
  subst hk
  exact hx ▸ begins_any hc (by omega) hL hM

set_option maxHeartbeats 4000000 in
theorem one_walk (A B : Option Addr) (c d : Nat) (l m : List Int) (w : World) (hc : l.length ≤ c) (hd : m.length ≤ d) (hL : IntsAt w w.heap.size A l) (hM : IntsAt w w.heap.size B m) :
    Calls Tryd.prog 6 #[.slice A l.length c, .slice B m.length d] w fun e w' => e = .returned (.bool true) ∧ Below w.heap.size w w' := by
  obtain ⟨n, hn⟩ : ∃ n, n = l.length := ⟨_, rfl⟩
  obtain ⟨k, hk⟩ : ∃ k, k = m.length := ⟨_, rfl⟩
  rw [← hn, ← hk]
  rw [← hn] at hc
  rw [← hk] at hd
  have HN := Lib.hid hn
  have HK := Lib.hid hk
  have HL := Lib.hid hL
  have HM := Lib.hid hM
  have HC := Lib.hid hc
  have HD := Lib.hid hd
  clear hn hk hL hM hc hd
  go_enter Tryd.func6, Tryd.ntmps6
  go_wp2_with fail
  refine (awake_any w).mono ?_
  rintro e w1 ⟨rfl, hb1⟩
  have hT := Tb.new hb1 (.slice A n c) (.slice B k d)
  clear hb1
  by_cases h9 : 9 < n
  · have h9d : decide ((9 : Int) < (n : Int)) = true := decide_eq_true (by omega)
    have h9' : (9 : Int) < (n : Int) := by omega
    have HT := Lib.hid hT
    clear hT
    go_wp2
    go_ret
    exact ⟨rfl, HT.out.old⟩
  have h9d : decide ((9 : Int) < (n : Int)) = false := decide_eq_false (by omega)
  have h9' : ¬ (9 : Int) < (n : Int) := by omega
  by_cases h8 : 9 < k
  · have h8d : decide ((9 : Int) < (k : Int)) = true := decide_eq_true (by omega)
    have h8' : (9 : Int) < (k : Int) := by omega
    have HT := Lib.hid hT
    clear hT
    go_wp2
    go_ret
    exact ⟨rfl, HT.out.old⟩
  have h8d : decide ((9 : Int) < (k : Int)) = false := decide_eq_false (by omega)
  have h8' : ¬ (9 : Int) < (k : Int) := by omega
  have H9 : Hid (n ≤ 1000000 ∧ k ≤ 1000000) := Lib.hid ⟨by omega, by omega⟩
  clear h9 h8
  go_wp2_with fail
  obtain ⟨P, hP⟩ : ∃ P, P = w1.heap.size := ⟨_, rfl⟩
  rw [← hP] at hT ⊢
  generalize (w1.alloc (.cells #[.slice A n c] 26)).alloc (.cells #[.slice B k d] 26) = w2 at hT ⊢
  have HT := Lib.hid hT
  clear hT hP
  rcases hg : pgood l with _ | _
  · refine (good_is (w := w2) HN.out (HL.out.on HT.out.old) hg).mono ?_
    rintro e w3 ⟨rfl, hb⟩
    have HB := Lib.hid (HT.out.on hb)
    clear hb hg
    go_wp2
    go_ret
    exact ⟨rfl, HB.out.old⟩
  have HG := Lib.hid hg
  refine (good_is (w := w2) HN.out (HL.out.on HT.out.old) hg).mono ?_
  rintro e w3 ⟨rfl, hb⟩
  have HT3 := Lib.hid (HT.out.on hb)
  have c1 := HT3.out.q
  clear hb hg HT
  go_wp2_with fail
  clear c1
  rcases hg : pgood m with _ | _
  · refine (good_is (w := w3) HK.out (HM.out.on HT3.out.old) hg).mono ?_
    rintro e w4 ⟨rfl, hb⟩
    have HB := Lib.hid (HT3.out.on hb)
    clear hb hg
    go_wp2
    go_ret
    exact ⟨rfl, HB.out.old⟩
  have HH := Lib.hid hg
  refine (good_is (w := w3) HK.out (HM.out.on HT3.out.old) hg).mono ?_
  rintro e w4 ⟨rfl, hb⟩
  have HT4 := Lib.hid (HT3.out.on hb)
  have c0 := HT4.out.p
  clear hb hg HT3
  go_wp2_with fail
  clear c0
  obtain ⟨a, ha⟩ : ∃ a, a = pword l := ⟨_, rfl⟩
  obtain ⟨b, hb0⟩ : ∃ b, b = pword m := ⟨_, rfl⟩
  have Ha := Lib.hid ha
  have Hb := Lib.hid hb0
  refine (word_is (w := w4) HN.out (HL.out.on HT4.out.old) HG.out ha.symm).mono ?_
  rintro e w5 ⟨rfl, hb⟩
  have HT5 := Lib.hid (HT4.out.on hb)
  have c1 := HT5.out.q
  clear hb HT4 ha hb0
  go_wp2_with fail
  clear c1
  refine (word_is (w := w5) HK.out (HM.out.on HT5.out.old) HH.out Hb.out.symm).mono ?_
  rintro e w6 ⟨rfl, hb⟩
  have hT := (HT5.out.on hb).on (below_self _).drew
  clear hb HT5
  have c0 := hT.p
  have c1 := hT.q
  obtain ⟨s, hs⟩ : ∃ s : ByteArray, s = ⟨(ptext l).toArray⟩ := ⟨_, rfl⟩
  obtain ⟨t, ht⟩ : ∃ t : ByteArray, t = ⟨(ptext m).toArray⟩ := ⟨_, rfl⟩
  obtain ⟨x, hx⟩ : ∃ x, x = (l == m) := ⟨_, rfl⟩
  have hab : ((a : Int) == (b : Int)) = x := by
    rw [hx, Bool.eq_iff_iff, beq_iff_eq, beq_iff_eq, Ha.out, Hb.out]
    exact ⟨fun e => pword_inj HG.out HH.out (by omega), fun e => by rw [e]⟩
  have hst : (s.toList == t.toList) = x := by
    rw [hx, Bool.eq_iff_iff, beq_iff_eq, beq_iff_eq, hs, ht, ByteArray.toList_mk, ByteArray.toList_mk]
    exact ⟨fun e => ptext_inj HG.out HH.out e, fun e => by rw [e]⟩
  have I0 : Hid (∀ w1, Below w.heap.size w w1 → Calls Tryd.prog 11 #[.slice A n c, .slice B k d] w1 fun e w' => e = .returned (.bool x) ∧ Below w1.heap.size w1 w') := Lib.hid fun w1 h => ints_is HN.out HK.out H9.out.1 (HL.out.on h) (HM.out.on h) hx.symm
  have IP : Hid (∀ w1, Below w.heap.size w w1 → Calls Tryd.prog 12 #[.agg #[.slice A n c]] w1 fun e w' => e = .returned (.string s) ∧ Below w1.heap.size w1 w') := Lib.hid fun w1 h => text_is HN.out (HL.out.on h) hs.symm
  have IQ : Hid (∀ w1, Below w.heap.size w w1 → Calls Tryd.prog 12 #[.agg #[.slice B k d]] w1 fun e w' => e = .returned (.string t) ∧ Below w1.heap.size w1 w') := Lib.hid fun w1 h => text_is HK.out (HM.out.on h) ht.symm
  have hboth := begins_both l m
  rw [← hx] at hboth
  rcases hb1 : pbegins l m with _ | _
  · have hxf : x = false := by rw [← hboth, hb1]; rfl
    subst hxf
    have IB : Hid (∀ w1, Below w.heap.size w w1 → Calls Tryd.prog 13 #[.agg #[.slice A n c], .agg #[.slice B k d]] w1 fun e w' => e = .returned (.bool false) ∧ Below w1.heap.size w1 w') := Lib.hid fun w1 h => begins_is HN.out HK.out HC.out H9.out.1 (HL.out.on h) (HM.out.on h) hb1
    clear hs ht hx hboth hb1 Ha Hb HG HH
    go_wp2_with fail
    refine wp_region_held_drew (S := (fun w' => w'.cell? ⟨P, 0, none⟩ = some (.slice A n c) ∧ w'.cell? ⟨P + 1, 0, none⟩ = some (.slice B k d) ∧ Tb w w' P (.slice A n c) (.slice B k d))) (by kernel_rfl) ⟨c0, c1, hT⟩ (fun hHeld => ?_)
    refine wpAnyH_take (i := 0) (v := ?_) rfl (by kernel_rfl) (by kernel_rfl) (by kernel_rfl) (fun _ _ _ h => h) (Or.inl ⟨by rfl, ?_⟩) (by assumption) ?_
    rotate_left
    · intro w hSw; go_split_ands; go_simp; try with_reducible rfl
    simp only [Act.put, List.setIfInBounds_toArray, List.set_cons_zero, List.set_cons_succ, List.getElem_toArray, List.getElem_cons_zero]
    refine wpAnyH_take (i := 1) (v := ?_) rfl (by kernel_rfl) (by kernel_rfl) (by kernel_rfl) (fun _ _ _ h => h) (Or.inl ⟨by rfl, ?_⟩) (by assumption) ?_
    rotate_left
    · intro w hSw; go_split_ands; go_simp; try with_reducible rfl
    simp only [Act.put, List.setIfInBounds_toArray, List.set_cons_zero, List.set_cons_succ, List.getElem_toArray, List.getElem_cons_zero, List.getElem_cons_succ]
    refine wpAnyH_take (i := 2) (v := ?_) rfl (by kernel_rfl) (by kernel_rfl) (by kernel_rfl) (fun _ _ _ h => h) (Or.inl ⟨by rfl, ?_⟩) (by assumption) ?_
    rotate_left
    · intro w hSw; go_split_ands; go_simp; try with_reducible rfl
    simp only [Act.put, List.setIfInBounds_toArray, List.set_cons_zero, List.set_cons_succ, List.getElem_toArray, List.getElem_cons_zero, List.getElem_cons_succ]
    refine wpAnyH_take (i := 3) (v := ?_) rfl (by kernel_rfl) (by kernel_rfl) (by kernel_rfl) (fun _ _ _ h => h) (Or.inl ⟨by rfl, ?_⟩) (by assumption) ?_
    rotate_left
    · intro w hSw; go_split_ands; go_simp; try with_reducible rfl
    simp only [Act.put, List.setIfInBounds_toArray, List.set_cons_zero, List.set_cons_succ, List.getElem_toArray, List.getElem_cons_zero, List.getElem_cons_succ]
    refine wpAnyH_take (i := 4) (v := ?_) rfl (by kernel_rfl) (by kernel_rfl) (by kernel_rfl) (fun _ _ _ h => h) (Or.inl ⟨by rfl, ?_⟩) (by assumption) ?_
    rotate_left
    · intro w hSw; go_split_ands; go_simp; try with_reducible rfl
    simp only [Act.put, List.setIfInBounds_toArray, List.set_cons_zero, List.set_cons_succ, List.getElem_toArray, List.getElem_cons_zero, List.getElem_cons_succ]
    refine wpAnyH_ready (rs := [5]) (by kernel_rfl) (by simp) ?_
    refine AllReadyH.cons rfl (fun K hK => ?_) AllReadyH.nil
    go_simp
    refine (tb_use hT (I0.out _ (Tb.old hT))).mono ?_
    rintro e w' ⟨rfl, y0, y1, y2⟩
    refine hK.out _ _ ⟨y0, y1, y2⟩ (fun hHeld => ?_)
    clear hK K
    try simp only [Act.put, List.setIfInBounds_toArray, List.set_cons_zero, List.set_cons_succ]
    refine wpAnyH_take (i := 6) (v := ?_) rfl (by kernel_rfl) (by kernel_rfl) (by kernel_rfl) (fun _ _ _ h => h) (Or.inl ⟨by rfl, ?_⟩) (by assumption) ?_
    rotate_left
    · intro w hSw; go_split_ands; go_simp; try with_reducible rfl
    simp only [Act.put, List.setIfInBounds_toArray, List.set_cons_zero, List.set_cons_succ, List.getElem_toArray, List.getElem_cons_zero, List.getElem_cons_succ]
    refine wpAnyH_take (i := 7) (v := ?_) rfl (by kernel_rfl) (by kernel_rfl) (by kernel_rfl) (fun _ _ _ h => h) (Or.inl ⟨by rfl, ?_⟩) (by assumption) ?_
    rotate_left
    · intro w hSw; go_split_ands; go_simp; try with_reducible rfl
    simp only [Act.put, List.setIfInBounds_toArray, List.set_cons_zero, List.set_cons_succ, List.getElem_toArray, List.getElem_cons_zero, List.getElem_cons_succ]
    refine wpAnyH_take (i := 8) (v := ?_) rfl (by kernel_rfl) (by kernel_rfl) (by kernel_rfl) (fun _ _ _ h => h) (Or.inl ⟨by rfl, ?_⟩) (by assumption) ?_
    rotate_left
    · intro w hSw; go_split_ands; go_simp; try with_reducible rfl
    simp only [Act.put, List.setIfInBounds_toArray, List.set_cons_zero, List.set_cons_succ, List.getElem_toArray, List.getElem_cons_zero, List.getElem_cons_succ]
    refine wpAnyH_take (i := 10) (v := ?_) rfl (by kernel_rfl) (by kernel_rfl) (by kernel_rfl) (fun _ _ _ h => h) (Or.inl ⟨by rfl, ?_⟩) (by assumption) ?_
    rotate_left
    · intro w hSw; go_split_ands; go_simp; try with_reducible rfl
    simp only [Act.put, List.setIfInBounds_toArray, List.set_cons_zero, List.set_cons_succ, List.getElem_toArray, List.getElem_cons_zero, List.getElem_cons_succ]
    refine wpAnyH_take (i := 13) (v := ?_) rfl (by kernel_rfl) (by kernel_rfl) (by kernel_rfl) (fun _ _ _ h => h) (Or.inl ⟨by rfl, ?_⟩) (by assumption) ?_
    rotate_left
    · intro w hSw; go_split_ands; go_simp; try with_reducible rfl
    simp only [Act.put, List.setIfInBounds_toArray, List.set_cons_zero, List.set_cons_succ, List.getElem_toArray, List.getElem_cons_zero, List.getElem_cons_succ]
    refine wpAnyH_take (i := 14) (v := ?_) rfl (by kernel_rfl) (by kernel_rfl) (by kernel_rfl) (fun _ _ _ h => h) (Or.inl ⟨by rfl, ?_⟩) (by assumption) ?_
    rotate_left
    · intro w hSw; go_split_ands; go_simp; try with_reducible rfl
    simp only [Act.put, List.setIfInBounds_toArray, List.set_cons_zero, List.set_cons_succ, List.getElem_toArray, List.getElem_cons_zero, List.getElem_cons_succ]
    refine wpAnyH_ready (rs := [9]) (by kernel_rfl) (by simp) ?_
    refine AllReadyH.cons rfl (fun K hK => ?_) AllReadyH.nil
    go_simp
    refine (tb_use y2 (IP.out _ (Tb.old y2))).mono ?_
    rintro e w' ⟨rfl, y0, y1, y2⟩
    refine hK.out _ _ ⟨y0, y1, y2⟩ (fun hHeld => ?_)
    clear hK K
    try simp only [Act.put, List.setIfInBounds_toArray, List.set_cons_zero, List.set_cons_succ]
    refine wpAnyH_ready (rs := [11]) (by kernel_rfl) (by simp) ?_
    refine AllReadyH.cons rfl (fun K hK => ?_) AllReadyH.nil
    go_simp
    refine (tb_use y2 (IQ.out _ (Tb.old y2))).mono ?_
    rintro e w' ⟨rfl, y0, y1, y2⟩
    refine hK.out _ _ ⟨y0, y1, y2⟩ (fun hHeld => ?_)
    clear hK K
    try simp only [Act.put, List.setIfInBounds_toArray, List.set_cons_zero, List.set_cons_succ]
    refine wpAnyH_take (i := 12) (v := ?_) rfl (by kernel_rfl) (by kernel_rfl) (by kernel_rfl) (fun _ _ _ h => h) (Or.inl ⟨by rfl, ?_⟩) (by assumption) ?_
    rotate_left
    · intro w hSw; go_split_ands; go_simp; try with_reducible rfl
    simp only [Act.put, List.setIfInBounds_toArray, List.set_cons_zero, List.set_cons_succ, List.getElem_toArray, List.getElem_cons_zero, List.getElem_cons_succ]
    refine wpAnyH_ready (rs := [15]) (by kernel_rfl) (by simp) ?_
    refine AllReadyH.cons rfl (fun K hK => ?_) AllReadyH.nil
    go_simp
    refine (tb_use y2 (I0.out _ (Tb.old y2))).mono ?_
    rintro e w' ⟨rfl, y0, y1, y2⟩
    refine hK.out _ _ ⟨y0, y1, y2⟩ (fun hHeld => ?_)
    clear hK K
    try simp only [Act.put, List.setIfInBounds_toArray, List.set_cons_zero, List.set_cons_succ]
    refine wpAnyH_take (i := 16) (v := ?_) rfl (by kernel_rfl) (by kernel_rfl) (by kernel_rfl) (fun _ _ _ h => h) (Or.inl ⟨by rfl, ?_⟩) (by assumption) ?_
    rotate_left
    · intro w hSw; go_split_ands; go_simp; try with_reducible rfl
    simp only [Act.put, List.setIfInBounds_toArray, List.set_cons_zero, List.set_cons_succ, List.getElem_toArray, List.getElem_cons_zero, List.getElem_cons_succ]
    refine wpAnyH_take (i := 17) (v := ?_) rfl (by kernel_rfl) (by kernel_rfl) (by kernel_rfl) (fun _ _ _ h => h) (Or.inl ⟨by rfl, ?_⟩) (by assumption) ?_
    rotate_left
    · intro w hSw; go_split_ands; go_simp; try with_reducible rfl
    simp only [Act.put, List.setIfInBounds_toArray, List.set_cons_zero, List.set_cons_succ, List.getElem_toArray, List.getElem_cons_zero, List.getElem_cons_succ]
    refine wpAnyH_take (i := 18) (v := ?_) rfl (by kernel_rfl) (by kernel_rfl) (by kernel_rfl) (fun _ _ _ h => h) (Or.inl ⟨by rfl, ?_⟩) (by assumption) ?_
    rotate_left
    · intro w hSw; go_split_ands; go_simp; try with_reducible rfl
    simp only [Act.put, List.setIfInBounds_toArray, List.set_cons_zero, List.set_cons_succ, List.getElem_toArray, List.getElem_cons_zero, List.getElem_cons_succ]
    refine wpAnyH_take (i := 19) (v := ?_) rfl (by kernel_rfl) (by kernel_rfl) (by kernel_rfl) (fun _ _ _ h => h) (Or.inl ⟨by rfl, ?_⟩) (by assumption) ?_
    rotate_left
    · intro w hSw; go_split_ands; go_simp; try with_reducible rfl
    simp only [Act.put, List.setIfInBounds_toArray, List.set_cons_zero, List.set_cons_succ, List.getElem_toArray, List.getElem_cons_zero, List.getElem_cons_succ]
    refine wpAnyH_take (i := 20) (v := ?_) rfl (by kernel_rfl) (by kernel_rfl) (by kernel_rfl) (fun _ _ _ h => h) (Or.inl ⟨by rfl, ?_⟩) (by assumption) ?_
    rotate_left
    · intro w hSw; go_split_ands; go_simp; try with_reducible rfl
    simp only [Act.put, List.setIfInBounds_toArray, List.set_cons_zero, List.set_cons_succ, List.getElem_toArray, List.getElem_cons_zero, List.getElem_cons_succ]
    refine wpAnyH_take (i := 27) (v := ?_) rfl (by kernel_rfl) (by kernel_rfl) (by kernel_rfl) (fun _ _ _ h => h) (Or.inl ⟨by rfl, ?_⟩) (by assumption) ?_
    rotate_left
    · intro w hSw; go_split_ands; go_simp; try with_reducible rfl
    simp only [Act.put, List.setIfInBounds_toArray, List.set_cons_zero, List.set_cons_succ, List.getElem_toArray, List.getElem_cons_zero, List.getElem_cons_succ]
    refine wpAnyH_take (i := 28) (v := ?_) rfl (by kernel_rfl) (by kernel_rfl) (by kernel_rfl) (fun _ _ _ h => h) (Or.inl ⟨by rfl, ?_⟩) (by assumption) ?_
    rotate_left
    · intro w hSw; go_split_ands; go_simp; try with_reducible rfl
    simp only [Act.put, List.setIfInBounds_toArray, List.set_cons_zero, List.set_cons_succ, List.getElem_toArray, List.getElem_cons_zero, List.getElem_cons_succ]
    refine wpAnyH_ready (rs := [21]) (by kernel_rfl) (by simp) ?_
    refine AllReadyH.cons rfl (fun K hK => ?_) AllReadyH.nil
    go_simp
    refine (tb_use y2 (IB.out _ (Tb.old y2))).mono ?_
    rintro e w' ⟨rfl, y0, y1, y2⟩
    refine hK.out _ _ ⟨y0, y1, y2⟩ (fun hHeld => ?_)
    clear hK K
    try simp only [Act.put, List.setIfInBounds_toArray, List.set_cons_zero, List.set_cons_succ]
    refine wpAnyH_take (i := 22) (v := ?_) rfl (by kernel_rfl) (by kernel_rfl) (by kernel_rfl) (fun _ _ _ h => h) (Or.inl ⟨by rfl, ?_⟩) (by assumption) ?_
    rotate_left
    · intro w hSw; go_split_ands; go_simp; try with_reducible rfl
    simp only [Act.put, List.setIfInBounds_toArray, List.set_cons_zero, List.set_cons_succ, List.getElem_toArray, List.getElem_cons_zero, List.getElem_cons_succ]
    refine wpAnyH_take (i := 23) rfl (by kernel_rfl) (by kernel_rfl) (by kernel_rfl) (fun _ _ _ h => h) (Or.inr ⟨by rfl, rfl⟩) (by assumption) ?_
    simp only [Act.put, List.setIfInBounds_toArray, List.set_cons_zero, List.set_cons_succ, List.getElem_toArray, List.getElem_cons_zero, List.getElem_cons_succ]
    refine wpAnyH_take (i := 24) rfl (by kernel_rfl) (by kernel_rfl) (by kernel_rfl) (fun _ _ _ h => h) (Or.inr ⟨by rfl, rfl⟩) (by assumption) ?_
    simp only [Act.put, List.setIfInBounds_toArray, List.set_cons_zero, List.set_cons_succ, List.getElem_toArray, List.getElem_cons_zero, List.getElem_cons_succ]
    refine wpAnyH_take (i := 25) rfl (by kernel_rfl) (by kernel_rfl) (by kernel_rfl) (fun _ _ _ h => h) (Or.inr ⟨by rfl, rfl⟩) (by assumption) ?_
    simp only [Act.put, List.setIfInBounds_toArray, List.set_cons_zero, List.set_cons_succ, List.getElem_toArray, List.getElem_cons_zero, List.getElem_cons_succ]
    refine wpAnyH_take (i := 26) (v := ?_) rfl (by kernel_rfl) (by kernel_rfl) (by kernel_rfl) (fun _ _ _ h => h) (Or.inl ⟨by rfl, ?_⟩) (by assumption) ?_
    rotate_left
    · intro w hSw; go_split_ands; go_simp; try with_reducible rfl
    simp only [Act.put, List.setIfInBounds_toArray, List.set_cons_zero, List.set_cons_succ, List.getElem_toArray, List.getElem_cons_zero, List.getElem_cons_succ]
    refine wpAnyH_ready (rs := [29]) (by kernel_rfl) (by simp) ?_
    refine AllReadyH.cons rfl (fun K hK => ?_) AllReadyH.nil
    go_simp
    refine (tb_use y2 (I0.out _ (Tb.old y2))).mono ?_
    rintro e w' ⟨rfl, y0, y1, y2⟩
    refine hK.out _ _ ⟨y0, y1, y2⟩ (fun hHeld => ?_)
    clear hK K
    try simp only [Act.put, List.setIfInBounds_toArray, List.set_cons_zero, List.set_cons_succ]
    refine wpAnyH_take (i := 30) (v := ?_) rfl (by kernel_rfl) (by kernel_rfl) (by kernel_rfl) (fun _ _ _ h => h) (Or.inl ⟨by rfl, ?_⟩) (by assumption) ?_
    rotate_left
    · intro w hSw; go_split_ands; go_simp; try with_reducible rfl
    simp only [Act.put, List.setIfInBounds_toArray, List.set_cons_zero, List.set_cons_succ, List.getElem_toArray, List.getElem_cons_zero, List.getElem_cons_succ]
    refine wpAnyH_take (i := 31) (v := ?_) rfl (by kernel_rfl) (by kernel_rfl) (by kernel_rfl) (fun _ _ _ h => h) (Or.inl ⟨by rfl, ?_⟩) (by assumption) ?_
    rotate_left
    · intro w hSw; go_split_ands; go_simp; try with_reducible rfl
    simp only [Act.put, List.setIfInBounds_toArray, List.set_cons_zero, List.set_cons_succ, List.getElem_toArray, List.getElem_cons_zero, List.getElem_cons_succ]
    refine wpAnyH_take (i := 32) (v := ?_) rfl (by kernel_rfl) (by kernel_rfl) (by kernel_rfl) (fun _ _ _ h => h) (Or.inl ⟨by rfl, ?_⟩) (by assumption) ?_
    rotate_left
    · intro w hSw; go_split_ands; go_simp; try with_reducible rfl
    simp only [Act.put, List.setIfInBounds_toArray, List.set_cons_zero, List.set_cons_succ, List.getElem_toArray, List.getElem_cons_zero, List.getElem_cons_succ]
    refine wpAnyH_done (by kernel_rfl) ?_ _
    go_wp2
    go_ret
    exact ⟨rfl, y2.old⟩
  · have hxt : pbegins m l = x := by rw [← hboth, hb1, Bool.true_and]
    have IB : Hid (∀ w1, Below w.heap.size w w1 → Calls Tryd.prog 13 #[.agg #[.slice A n c], .agg #[.slice B k d]] w1 fun e w' => e = .returned (.bool true) ∧ Below w1.heap.size w1 w') := Lib.hid fun w1 h => begins_is HN.out HK.out HC.out H9.out.1 (HL.out.on h) (HM.out.on h) hb1
    have IC : Hid (∀ w1, Below w.heap.size w w1 → Calls Tryd.prog 13 #[.agg #[.slice B k d], .agg #[.slice A n c]] w1 fun e w' => e = .returned (.bool x) ∧ Below w1.heap.size w1 w') := Lib.hid fun w1 h => begins_is HK.out HN.out HD.out H9.out.2 (HM.out.on h) (HL.out.on h) hxt
    clear hs ht hx hboth hb1 hxt Ha Hb HG HH
    go_wp2_with fail
    go_region_held3 (fun w' => w'.cell? ⟨P, 0, none⟩ = some (.slice A n c) ∧ w'.cell? ⟨P + 1, 0, none⟩ = some (.slice B k d) ∧ Tb w w' P (.slice A n c) (.slice B k d))
      (first | exact ⟨by with_reducible assumption, by with_reducible assumption, by with_reducible assumption⟩ | fail)
      (first
        | (go_at_call 11; ((with_reducible refine (tb_use (by with_reducible assumption) (I0.out _ (Tb.old (by with_reducible assumption)))).mono ?_); rintro e w' ⟨rfl, y0, y1, y2⟩))
        | (go_at_call 12; ((with_reducible refine (tb_use (by with_reducible assumption) (IP.out _ (Tb.old (by with_reducible assumption)))).mono ?_); rintro e w' ⟨rfl, y0, y1, y2⟩))
        | (go_at_call 12; ((with_reducible refine (tb_use (by with_reducible assumption) (IQ.out _ (Tb.old (by with_reducible assumption)))).mono ?_); rintro e w' ⟨rfl, y0, y1, y2⟩))
        | (go_at_call 13; ((with_reducible refine (tb_use (by with_reducible assumption) (IB.out _ (Tb.old (by with_reducible assumption)))).mono ?_); rintro e w' ⟨rfl, y0, y1, y2⟩))
        | (go_at_call 13; ((with_reducible refine (tb_use (by with_reducible assumption) (IC.out _ (Tb.old (by with_reducible assumption)))).mono ?_); rintro e w' ⟨rfl, y0, y1, y2⟩))
        | fail)
    go_wp2
    go_ret
    exact ⟨rfl, y2.old⟩
end Go.Proofs.YtcobcdkpfmifeaaDoor
