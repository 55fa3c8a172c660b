/-
  The walks of slices.Grow of nothing and of slices.Concat of two lists of whole numbers, the second one of a single number. Condition: the numbers lie in memory, at most three in the first list.
  The walk of package find's goOn, which tells each way to a function that it is handed. Condition: the state and the steps lie in memory, the state may be; what is told to writes into blocks of its own alone.
  A list in a variable that a function value has captured; the two function values of package find's Ways and Reach. Condition: what the variable holds lies in memory.
  The walks of package find's Ways and Reach. Condition: the state lies in memory.
-/
import Derived.Test.YtmcgnjhjidfkdaaGreatLc
import Derived.Test.YtmcgnjhjidfkdaaGreatVa
import Derived.Laws.AppendOwnNone
import Derived.Deep.AppendLies
import Derived.Sort.OwnSortedInts
namespace Go.Proofs.YtmcgnjhjidfkdaaGreat
open Go.RowKit

theorem grow_nil (n : Nat) (h0 : 0 < n) (hn : n ≤ 1000000) (w : World) : Calls Tryz.prog 56 #[.slice none 0 0, .int .i64 (n : Int)] w fun e w' => ∃ g c, e = .returned (.slice (some ⟨g, 0, none⟩) 0 c) ∧ Bi w w' (.slice (some ⟨g, 0, none⟩) 0 c) [] := by
  obtain ⟨i0, hi, hz, h1, h2⟩ := info3_parts
  have h := Any8.slices_Grow_grow Tryz.growI i0 (.int .i64 0) hi hz (by omega) none 0 0 n [] w (Nat.le_refl _) (by omega) (by rw [h2]; omega) (by omega) (by simp) (fun _ => rfl) (fun a e => by cases e)
  rw [Nat.zero_add] at h
  have hge : n ≤ grownCap w n 0 3 := grownCap_ge w _ _ _
  have hle : grownCap w n 0 3 ≤ maxLen := grownCap_le_maxLen w n 0 3 (by unfold maxLen; omega)
  refine Calls.mono h ?_
  rintro e w' ⟨rfl, rfl⟩
  refine ⟨_, _, rfl, ⟨rfl, .inr ⟨w.heap.size, _, _, rfl, Nat.le_refl _, heap_alloc_new w.drew _, Nat.zero_le _, hle, ?_, rfl⟩⟩, ((Below.refl _ _).drew).alloc (Nat.le_refl _) _⟩
  simp only [Builtin.zeroCells, Array.size_append, Array.size_map, Array.size_range]
  show 0 + (n - 0) * 1 + (grownCap w n 0 3 - n) * 1 = grownCap w n 0 3 * 1
  omega

set_option maxRecDepth 100000 in
set_option maxHeartbeats 8000000 in
theorem concat_is {A : Option Addr} {n cap pb xb c1 c2 : Nat} {l : List Int} {x : Int} {w : World} (hn : n = l.length) (hn3 : n ≤ 3) (hcap : n ≤ cap) (hA : n = 0 → A = none ∧ cap = 0) (hL : IntsAt w w.heap.size A l)
    (p0 : w.cell? ⟨pb, 0, none⟩ = some (.slice A n cap)) (p1 : w.cell? ⟨pb, 1, none⟩ = some (.slice (some ⟨xb, 0, none⟩) 1 c1)) (hx : w.cell? ⟨xb, 0, none⟩ = some (.int .i64 x)) (hpb : pb < w.heap.size) (hxb : xb < w.heap.size) :
    Calls Tryz.prog 38 #[.slice (some ⟨pb, 0, none⟩) 2 c2] w fun e w' => ∃ v, e = .returned v ∧ Bi w w' v (l ++ [x]) := by
  have HN := Lib.hid hn
  have HCAP := Lib.hid hcap
  have HL := Lib.hid hL
  have HX := Lib.hid hx
  have HXB := Lib.hid hxb
  have HPB := Lib.hid hpb
  have HP0 := Lib.hid p0
  have HP1 := Lib.hid p1
  have hn0 : (0 : Int) ≤ (n : Int) := by omega
  have hn30 : (n : Int) ≤ 3 := by omega
  have hs : (n : Int) + 1 = ((n + 1 : Nat) : Int) := by omega
  obtain ⟨N, hN⟩ : ∃ N, N = n + 1 := ⟨_, rfl⟩
  rw [← hN] at hs
  have hneg : ¬ ((n : Int) < 0) := by omega
  have hneg2 : ¬ ((N : Int) < 0) := by omega
  have HNN := Lib.hid hN
  have HH := Lib.hid hA
  have HN3 := Lib.hid hn3
  clear hn hcap hL hx hxb hN hA hn3
  go_enter Tryz.func38, Tryz.ntmps38
  go_wp2_with fail
  refine wp_loop_rounds 3 ?_
  rw [rounds_succ]
  go_wp2_with fail
  rw [rounds_succ]
  go_wp2_with fail
  rw [rounds_succ]
  go_wp2_with fail
  refine (grow_nil N (by have := HNN.out; omega) (by have := HNN.out; have := HN3.out; omega) w).mono ?_
  rintro e w1 ⟨g, c, rfl, hB⟩
  have HB := Lib.hid hB
  have q0 := (hB.old.cell (p := ⟨pb, 0, none⟩) HPB.out).trans HP0.out
  have q1 := (hB.old.cell (p := ⟨pb, 1, none⟩) HPB.out).trans HP1.out
  have HSZ := Lib.hid hB.old.size
  obtain ⟨i0, hii, hz0, hz1, hz2⟩ := info3_parts
  clear hB p0 p1
  have step2 : ∀ (w2 : World) (v : Value), Bi w w2 v l → w2.cell? ⟨pb, 0, none⟩ = some (.slice A n cap) ∧ w2.cell? ⟨pb, 1, none⟩ = some (.slice (some ⟨xb, 0, none⟩) 1 c1) ∧ (∀ j u, [Value.int .i64 x][j]? = some u → w2.cell? ((⟨xb, 0, none⟩ : Addr).add j) = some u) := fun w2 v h => by
    refine ⟨(h.old.cell (p := ⟨pb, 0, none⟩) HPB.out).trans HP0.out, (h.old.cell (p := ⟨pb, 1, none⟩) HPB.out).trans HP1.out, fun j u hj => ?_⟩
    match j, hj with
    | 0, hj =>
      obtain rfl : Value.int .i64 x = u := by simpa using hj
      exact (h.old.cell (p := ⟨xb, 0, none⟩) HXB.out).trans HX.out
  have HS2 := Lib.hid step2
  clear step2
  by_cases h0 : n = 0
  · subst h0
    obtain ⟨rfl, rfl⟩ := HH.out rfl
    have hl : l = [] := List.length_eq_zero_iff.1 HN.out.symm
    subst hl
    go_wp2_with fail
    refine wp_loop_rounds 3 ?_
    rw [rounds_succ]
    go_wp2_with fail
    obtain ⟨r0, r1, HNEW⟩ := HS2.out _ _ HB.out
    have HNEW2 := Lib.hid HNEW
    have HONE := Lib.hid (one_plain x)
    have HSZ2 : Hid (w.heap.size ≤ _) := Lib.hid HB.out.old.size
    clear HNEW
    rw [rounds_succ]
    go_wp2_with (at_builtin; refine wpList_append_own _ rfl _ _ 33 rfl w.heap.size 3 i0 (.int .i64 0) 1 8 Tryz.underlying33 hii hz0 hz1 hz2 rfl (by decide) _ _ _ rfl HB.out.own ⟨xb, 0, none⟩ 1 c1 [.int .i64 x] rfl rfl HNEW2.out HONE.out ?d3 ?d4 HSZ2.out ?_)
    case d3 => unfold maxLen; simp only [List.length_nil]; omega
    case d4 => simp only [List.length_nil]; omega
    intro v2 w3 hown hgrow _
    have HB3 := Lib.hid (HB.out.more (l' := [] ++ [x]) hgrow (by rw [icells_append, List.length_append]; exact hown))
    clear hown hgrow
    go_wp2_with fail
    rw [rounds_succ]
    go_wp2
    go_returns
    exact ⟨_, rfl, HB3.out⟩
  · obtain ⟨b, o, rfl, hbl, hcl⟩ := HL.out (by have := HN.out; omega)
    have HNEWS : Hid (∀ j u, (icells l)[j]? = some u → w1.cell? ((⟨b, o, none⟩ : Addr).add j) = some u) := Lib.hid fun j u hu => by
      rw [icells, List.getElem?_map, Option.map_eq_some_iff] at hu
      obtain ⟨z, hz, rfl⟩ := hu
      rw [show (⟨b, o, none⟩ : Addr).add j = ⟨b, o + j, none⟩ by cases j <;> simp [Addr.add]]
      exact (HB.out.old.cell (p := ⟨b, o + j, none⟩) hbl).trans (hcl j z hz)
    have HONES : Hid (∀ u ∈ icells l, u.oneCell' = true) := Lib.hid fun u hu => by
      rw [icells, List.mem_map] at hu
      obtain ⟨z, -, rfl⟩ := hu
      rfl
    clear hcl
    go_wp2_with fail
    refine wp_loop_rounds 3 ?_
    rw [rounds_succ]
    go_wp2_with (at_builtin; refine wpList_append_own _ rfl _ _ 33 rfl w.heap.size 3 i0 (.int .i64 0) 1 8 Tryz.underlying33 hii hz0 hz1 hz2 rfl (by decide) _ _ _ rfl HB.out.own ⟨b, o, none⟩ n cap (icells l) rfl (by rw [icells, List.length_map, HN.out, Nat.mul_one]) HNEWS.out HONES.out ?c3 ?c4 HSZ.out ?_)
    case c3 => unfold maxLen; simp only [List.length_nil]; omega
    case c4 => simp only [List.length_nil]; omega
    intro v2 w2 hown hgrow _
    have HB2 := Lib.hid (HB.out.more (l' := l) hgrow (by rw [← HN.out]; exact hown))
    clear hown hgrow HNEWS HONES
    obtain ⟨r0, r1, HNEW⟩ := HS2.out _ _ HB2.out
    have HNEW2 := Lib.hid HNEW
    have HONE := Lib.hid (one_plain x)
    have HSZ2 : Hid (w.heap.size ≤ _) := Lib.hid HB2.out.old.size
    clear HNEW
    go_wp2_with fail
    rw [rounds_succ]
    go_wp2_with (at_builtin; refine wpList_append_own _ rfl _ _ 33 rfl w.heap.size 3 i0 (.int .i64 0) 1 8 Tryz.underlying33 hii hz0 hz1 hz2 rfl (by decide) _ _ _ rfl HB2.out.own ⟨xb, 0, none⟩ 1 c1 [.int .i64 x] rfl rfl HNEW2.out HONE.out ?d3 ?d4 HSZ2.out ?_)
    case d3 => unfold maxLen; have := HN.out; have := HN3.out; omega
    case d4 => have := HN.out; have := HN3.out; omega
    intro v2 w3 hown hgrow _
    have HB3 := Lib.hid (HB2.out.more (l' := l ++ [x]) hgrow (by rw [icells_append, List.length_append]; exact hown))
    clear hown hgrow
    go_wp2_with fail
    rw [rounds_succ]
    go_wp2
    go_returns
    exact ⟨_, rfl, HB3.out⟩
end Go.Proofs.YtmcgnjhjidfkdaaGreat
namespace Go.Proofs.YtmcgnjhjidfkdaaGreat
open Go.RowKit

/-! ### blocks of another's own -/
/-- from one world to a later one: what lies in blocks that are not O's is as it was, and is not O's later on -/
structure Apt (O O' : Nat → Prop) (w w' : World) : Prop where
  os : w'.os = w.os
  tape : w'.tape = w.tape
  output : w'.output = w.output
  size : w.heap.size ≤ w'.heap.size
  block : ∀ k, k < w.heap.size → ¬ O k → w'.heap[k]? = w.heap[k]?
  own : ∀ k, k < w.heap.size → ¬ O k → ¬ O' k
section
variable {O O' O2 : Nat → Prop} {w w' w2 : World}
theorem Apt.trans (h : Apt O O' w w') (k : Apt O' O2 w' w2) : Apt O O2 w w2 :=
  ⟨k.os.trans h.os, k.tape.trans h.tape, k.output.trans h.output, Nat.le_trans h.size k.size, fun i hi ho => (k.block i (Nat.lt_of_lt_of_le hi h.size) (h.own i hi ho)).trans (h.block i hi ho), fun i hi ho => k.own i (Nat.lt_of_lt_of_le hi h.size) (h.own i hi ho)⟩
theorem Apt.on (hb : Below w.heap.size w w') : Apt O O w w' := ⟨hb.os, hb.tape, hb.output, hb.size, fun i hi _ => hb.block i hi, fun _ _ h => h⟩
theorem Apt.refl (w : World) : Apt O O w w := Apt.on (below_self w)
theorem Apt.cell (h : Apt O O' w w') {p : Addr} (hp : p.block < w.heap.size) (ho : ¬ O p.block) : w'.cell? p = w.cell? p := World.cell?_of_block (w := w) (h.block p.block hp ho)
theorem Apt.below (h : Apt O O' w w') {B : Nat} (hB : B ≤ w.heap.size) (hO : ∀ k, O k → B ≤ k) : Below B w w' :=
  ⟨h.os, h.tape, h.output, h.size, fun k hk => h.block k (by omega) fun ho => by have := hO k ho; omega⟩
end
/-- whole numbers in a block that is not O's -/
def IntsAp (O : Nat → Prop) (w : World) (A : Option Addr) (l : List Int) : Prop := 0 < l.length → ∃ b o, A = some ⟨b, o, none⟩ ∧ b < w.heap.size ∧ ¬ O b ∧ ∀ (j : Nat) (z : Int), l[j]? = some z → w.cell? ⟨b, o + j, none⟩ = some (.int .i64 z)
theorem IntsAp.ints {O : Nat → Prop} {w : World} {A : Option Addr} {l : List Int} (h : IntsAp O w A l) : IntsAt w w.heap.size A l := fun h0 => by
  obtain ⟨b, o, e, h1, -, h2⟩ := h h0
  exact ⟨b, o, e, h1, h2⟩
theorem IntsAp.apt {O O' : Nat → Prop} {w w' : World} {A : Option Addr} {l : List Int} (h : IntsAp O w A l) (k : Apt O O' w w') : IntsAp O' w' A l := fun h0 => by
  obtain ⟨b, o, e, h1, h2, h3⟩ := h h0
  exact ⟨b, o, e, Nat.lt_of_lt_of_le h1 k.size, k.own b h1 h2, fun j z hz => (k.cell (p := ⟨b, o + j, none⟩) h1 h2).trans (h3 j z hz)⟩
/-- a state in a box that is not O's -/
structure Sbo (O : Nat → Prop) (w : World) (g : Nat) (a b c : Int) (A : Option Addr) (n ca : Nat) (C : Option Addr) (m cc : Nat) : Prop where
  c0 : w.cell? ⟨g, 0, none⟩ = some (.int .i64 a)
  c1 : w.cell? ⟨g, 1, none⟩ = some (.int .i64 b)
  c2 : w.cell? ⟨g, 2, none⟩ = some (.int .i64 c)
  c3 : w.cell? ⟨g, 3, none⟩ = some (.slice A n ca)
  c4 : w.cell? ⟨g, 4, none⟩ = some (.slice C m cc)
  lt : g < w.heap.size
  no : ¬ O g
theorem Sbo.apt {O O' : Nat → Prop} {w w' : World} {g : Nat} {a b c : Int} {A : Option Addr} {n ca : Nat} {C : Option Addr} {m cc : Nat} (h : Sbo O w g a b c A n ca C m cc) (k : Apt O O' w w') : Sbo O' w' g a b c A n ca C m cc :=
  ⟨(k.cell (p := ⟨g, 0, none⟩) h.lt h.no).trans h.c0, (k.cell (p := ⟨g, 1, none⟩) h.lt h.no).trans h.c1, (k.cell (p := ⟨g, 2, none⟩) h.lt h.no).trans h.c2, (k.cell (p := ⟨g, 3, none⟩) h.lt h.no).trans h.c3, (k.cell (p := ⟨g, 4, none⟩) h.lt h.no).trans h.c4, Nat.lt_of_lt_of_le h.lt k.size, k.own g h.lt h.no⟩
/-- what was there at first stands, and is not O's -/
structure Gr (W0 w : World) (O : Nat → Prop) : Prop where
  old : Below W0.heap.size W0 w
  own : ∀ k, O k → W0.heap.size ≤ k
theorem Gr.apt {W0 w w' : World} {O O' : Nat → Prop} (h : Gr W0 w O) (k : Apt O O' w w') : Gr W0 w' O' :=
  ⟨h.old.trans (k.below h.old.size h.own), fun i hi => by
    rcases Nat.lt_or_ge i W0.heap.size with h1 | h1
    · exact absurd hi (k.own i (Nat.lt_of_lt_of_le h1 h.old.size) fun ho => by have := h.own i ho; omega)
    · exact h1⟩
/-- a function that is told ways: it keeps what I says of those that it was told, in blocks O of its own -/
structure Tel (g : Nat) (lb : Array Value) (I : List (List Int × Nat) → (Nat → Prop) → World → Prop) : Prop where
  enters : ∀ args w, (callFunc g args).run Tryz.prog w = .ok (.enter g args) w
  on : ∀ {L O w w'}, I L O w → Below w.heap.size w w' → I L O w'
  lt : ∀ {L O w}, I L O w → ∀ k, O k → k < w.heap.size
  tell : ∀ {L O w B} {q cap : Nat} {p : List Int} {k : Nat}, I L O w → L.length ≤ 200000 → q = p.length → q ≤ cap → IntsAp O w B p → Calls Tryz.prog g (#[.agg #[.slice B q cap], .int .i64 (k : Int)] ++ lb) w fun e w' => e = .returned (.tuple #[]) ∧ ∃ O', I (L ++ [(p, k)]) O' w' ∧ Apt O O' w w'
/-- what is told of the first steps, with so many steps left -/
def toldN (s : St) : Nat → Nat → List Int → Nat → List (List Int × Nat)
  | 0, _, _, _ => []
  | f + 1, i, p, n => toldTo s f i p n
theorem toldN_all (s : St) : ∀ f i p, toldN s f i p (szN s i) = told s f i p
  | 0, _, _ => rfl
  | f + 1, i, p => (told_all s f i p).symm
theorem toldN_zero (s : St) : ∀ f i p, toldN s f i p 0 = []
  | 0, _, _ => rfl
  | f + 1, i, p => toldTo_zero s f i p
theorem toldN_le {s : St} {f i : Nat} {p : List Int} {n : Nat} (h : n ≤ szN s i) : (toldN s f i p n).length ≤ (told s f i p).length := by
  cases f with
  | zero => exact Nat.le_refl _
  | succ f =>
    obtain ⟨d, hd⟩ : ∃ d, szN s i = n + d := ⟨szN s i - n, by omega⟩
    rw [told_all, hd, toldN, toldTo, toldTo, List.range_add, List.flatMap_append, List.length_append]
    omega
def GonC (g : Nat) (lb : Array Value) (I : List (List Int × Nat) → (Nat → Prop) → World → Prop) (W0 : World) (s : St) (a b c : Int) (A : Option Addr) (n ca : Nat) (C : Option Addr) (m cc : Nat) (f : Nat) : Prop :=
  ∀ (i q cap : Nat) (B : Option Addr) (p : List Int) (L : List (List Int × Nat)) (O : Nat → Prop) (w : World), Gr W0 w O → Nd s i → p.length + f = 3 → (∀ x ∈ p, 0 ≤ x ∧ x ≤ 15) → q = p.length → q ≤ cap → (q = 0 → B = none ∧ cap = 0) → IntsAp O w B p → I L O w → L.length + (told s f i p).length ≤ 200000 →
    Calls Tryz.prog 19 #[.agg #[.int .i64 a, .int .i64 b, .int .i64 c, .slice A n ca, .slice C m cc], .int .i64 (i : Int), .slice B q cap, .func (.func g) #[] lb] w fun e w' => e = .returned (.tuple #[]) ∧ ∃ O', I (L ++ told s f i p) O' w' ∧ Apt O O' w w'
def GonRel (I : List (List Int × Nat) → (Nat → Prop) → World → Prop) (s : St) (f i : Nat) (p : List Int) (L : List (List Int × Nat)) (O : Nat → Prop) (W : World) (z : Nat) (k : Nat) (v : Value) (wr : World) : Prop :=
  ∃ x O', k + x = z ∧ v = .int .i64 ((x : Nat) : Int) ∧ I (L ++ toldN s f i p x) O' wr ∧ Apt O O' W wr
set_option maxRecDepth 100000 in
set_option maxHeartbeats 16000000 in
theorem goon_is {g : Nat} {lb : Array Value} {I : List (List Int × Nat) → (Nat → Prop) → World → Prop} {W0 : World} {s : St} {a b c : Int} {A C : Option Addr} {n ca m cc : Nat} (T : Tel g lb I) (hG : Gst s) (hS : StH W0 s a b c A n ca C m cc) : ∀ f, GonC g lb I W0 s a b c A n ca C m cc f := by
  intro f
  induction f using Nat.strongRecOn with
  | _ f ih =>
  intro i q cap B p L O w hg hN hf hx hq hcap h0 hP hI hlen
  have HT := Lib.hid T
  have HS := Lib.hid hS
  have HN := Lib.hid hN
  have HF := Lib.hid hf
  have HX := Lib.hid hx
  have HQ := Lib.hid hq
  have HCAP := Lib.hid hcap
  have H0 := Lib.hid h0
  have HLEN := Lib.hid hlen
  have IH := Lib.hid ih
  have HGG := Lib.hid hG
  have ha : Apt O O w (w.alloc (.cells #[.int .i64 a, .int .i64 b, .int .i64 c, .slice A n ca, .slice C m cc] 28)) := Apt.on (below_alloc _ _)
  have k0 := Sbx.new w a b c A n ca C m cc 28
  have k1 : Sbo O (w.alloc (.cells #[.int .i64 a, .int .i64 b, .int .i64 c, .slice A n ca, .slice C m cc] 28)) w.heap.size a b c A n ca C m cc := ⟨k0.c0, k0.c1, k0.c2, k0.c3, k0.c4, k0.lt, fun ho => absurd (T.lt hI _ ho) (Nat.lt_irrefl _)⟩
  have HI1 := Lib.hid (T.on hI (below_alloc w (.cells #[.int .i64 a, .int .i64 b, .int .i64 c, .slice A n ca, .slice C m cc] 28)))
  have HG1 := Lib.hid (hg.apt ha)
  have HP1 := Lib.hid (hP.apt ha)
  have HA1 := Lib.hid ha
  obtain ⟨z, hz⟩ : ∃ z, szN s i = z := ⟨_, rfl⟩
  have HZ := Lib.hid hz
  have hz2 := (szN_is hN).2
  rw [hz] at hz2
  have HZ2 := Lib.hid hz2
  clear T hS hN hf hx hq hcap h0 hlen ih hG hI hg hP ha k0 hz hz2
  go_enter Tryz.func19, Tryz.ntmps19
  go_wp2_with fail
  obtain ⟨gb, hgb⟩ : ∃ gb, gb = w.heap.size := ⟨_, rfl⟩
  rw [← hgb] at k1 ⊢
  clear hgb
  generalize w.alloc _ = w1 at k1 HI1 HG1 HP1 HA1 ⊢
  have K1 := Lib.hid k1
  obtain ⟨b0, b1, b2, c3, c4, lt, -⟩ := k1
  go_wp2_with fail
  refine (size_is (HS.out.on HG1.out.old) HN.out HZ.out).mono ?_
  rintro e w2 ⟨rfl, hb⟩
  have hap : Apt O O w1 w2 := Apt.on hb
  have K2 := Lib.hid (K1.out.apt hap)
  have HI2 := Lib.hid (HT.out.on HI1.out hb)
  have HG2 := Lib.hid (HG1.out.apt hap)
  have HP2 := Lib.hid (HP1.out.apt hap)
  have HA2 := Lib.hid (HA1.out.trans hap)
  clear hb hap b0 b1 b2 c3 c4 lt K1 HI1 HG1 HP1 HA1
  go_wp2_with fail
  go_loopg [14] z (fun k v wr => GonRel I s f i p L O w2 z k v wr)
  case atStart => exact ⟨0, O, by omega, rfl, by rw [toldN_zero, List.append_nil]; exact HI2.out, Apt.refl _⟩
  case round =>
    obtain ⟨x, O', hk, rfl, hI3, ha3⟩ := hrel
    have HK := Lib.hid hk
    have HI3 := Lib.hid hI3
    have HA3 := Lib.hid ha3
    have K3 := Lib.hid (K2.out.apt ha3)
    have HG3 := Lib.hid (HG2.out.apt ha3)
    have HP3 := Lib.hid (HP2.out.apt ha3)
    clear hk hI3 ha3
    by_cases hlt : x < z
    case neg =>
      have hxz : x = z := by have := HK.out; omega
      subst hxz
      have hlt2 : ¬ (x : Int) < (x : Int) := by omega
      go_wp2
      refine bodyPost_end (results_none rfl _ _ _) rfl ?_
      exact ⟨rfl, O', by have := HI3.out; rwa [← HZ.out, toldN_all] at this, HA2.out.trans HA3.out⟩
    have HLT := Lib.hid hlt
    have hlt2 : (x : Int) < (z : Int) := by omega
    have hb4 : Below wr.heap.size wr ((wr.alloc (.cells #[.int .i64 (x : Int)] 3)).alloc (.cells #[.slice B q cap, .slice (some ⟨wr.heap.size, 0, none⟩) 1 1] 33)) := below_on (below_alloc _ _) (below_alloc _ _)
    have hap := Apt.on (O := O') hb4
    have p0 : ((wr.alloc (.cells #[.int .i64 (x : Int)] 3)).alloc (.cells #[.slice B q cap, .slice (some ⟨wr.heap.size, 0, none⟩) 1 1] 33)).cell? ⟨wr.heap.size + 1, 0, none⟩ = some (.slice B q cap) := by simp
    have p1 : ((wr.alloc (.cells #[.int .i64 (x : Int)] 3)).alloc (.cells #[.slice B q cap, .slice (some ⟨wr.heap.size, 0, none⟩) 1 1] 33)).cell? ⟨wr.heap.size + 1, 1, none⟩ = some (.slice (some ⟨wr.heap.size, 0, none⟩) 1 1) := by simp
    have p2 : ((wr.alloc (.cells #[.int .i64 (x : Int)] 3)).alloc (.cells #[.slice B q cap, .slice (some ⟨wr.heap.size, 0, none⟩) 1 1] 33)).cell? ⟨wr.heap.size, 0, none⟩ = some (.int .i64 (x : Int)) := by
      rw [(below_alloc _ _).cell (p := ⟨wr.heap.size, 0, none⟩) (by simp)]
      simp
    have p3 : wr.heap.size + 1 < ((wr.alloc (.cells #[.int .i64 (x : Int)] 3)).alloc (.cells #[.slice B q cap, .slice (some ⟨wr.heap.size, 0, none⟩) 1 1] 33)).heap.size := by simp
    have HC := Lib.hid (concat_is (c2 := 2) HQ.out (by have := HF.out; have := HQ.out; omega) HCAP.out H0.out (HP3.out.apt hap).ints p0 p1 p2 p3 (by omega))
    have K4 := Lib.hid (K3.out.apt hap)
    have HI4 := Lib.hid (HT.out.on HI3.out hb4)
    have HG4 := Lib.hid (HG3.out.apt hap)
    have HP4 := Lib.hid (HP3.out.apt hap)
    have HA4 := Lib.hid (HA3.out.trans hap)
    have HNO : Hid (∀ k, ((wr.alloc (.cells #[.int .i64 (x : Int)] 3)).alloc (.cells #[.slice B q cap, .slice (some ⟨wr.heap.size, 0, none⟩) 1 1] 33)).heap.size ≤ k → ¬ O' k) := Lib.hid fun k hk ho => by have := HT.out.lt HI4.out k ho; omega
    clear hb4 hap p0 p1 p2 p3 HI3 HG3 HA3
    go_wp2_with fail
    generalize (wr.alloc _).alloc _ = w4 at HC K4 HI4 HG4 HP4 HA4 HNO ⊢
    refine HC.out.mono ?_
    rintro e w5 ⟨v, rfl, hB⟩
    obtain ⟨P, pc, rfl, hpc, -⟩ := hB.intsc
    have hPI : IntsAp O' w5 P (p ++ [(x : Int)]) := fun _ => by
      obtain ⟨pg, pcap, e1, h1, h2, h3, -⟩ := hB.block (by simp)
      obtain rfl : P = some ⟨pg, 0, none⟩ := by injection e1
      exact ⟨pg, 0, rfl, h2, fun ho => HNO.out pg h1 ho, fun j y hy => by rw [Nat.zero_add]; exact h3 j y hy⟩
    have hap := Apt.on (O := O') hB.old
    have K5 := Lib.hid (K4.out.apt hap)
    have HI5 := Lib.hid (HT.out.on HI4.out hB.old)
    have HG5 := Lib.hid (HG4.out.apt hap)
    have HA5 := Lib.hid (HA4.out.trans hap)
    obtain ⟨q1, hq1⟩ : ∃ q1, q1 = (p ++ [(x : Int)]).length := ⟨_, rfl⟩
    rw [← hq1] at hpc ⊢
    have HQ1 := Lib.hid hq1
    have HPC := Lib.hid hpc
    have hab : Apt O' O' w5 (w5.alloc (.cells #[.slice P q1 pc] 35)) := Apt.on (below_alloc _ _)
    have K6 := Lib.hid (K5.out.apt hab)
    have HI6 := Lib.hid (HT.out.on HI5.out (below_alloc w5 (.cells #[.slice P q1 pc] 35)))
    have HG6 := Lib.hid (HG5.out.apt hab)
    have HA6 := Lib.hid (HA5.out.trans hab)
    have HP6 := Lib.hid (hPI.apt hab)
    have p4 : (w5.alloc (.cells #[.slice P q1 pc] 35)).cell? ⟨w5.heap.size, 0, none⟩ = some (.slice P q1 pc) := by simp
    have p5 : w5.heap.size < (w5.alloc (.cells #[.slice P q1 pc] 35)).heap.size := by simp
    have p6 : ¬ O' w5.heap.size := fun ho => absurd (HT.out.lt HI5.out _ ho) (Nat.lt_irrefl _)
    clear hB hap hab hPI hq1 hpc K4 HI4 HG4 HP4 HA4 HNO HC K5 HI5 HG5 HA5
    obtain ⟨pb, hpb⟩ : ∃ pb, pb = w5.heap.size := ⟨_, rfl⟩
    go_wp2_with fail
    rw [← hpb] at p4 p5 p6 ⊢
    clear hpb
    generalize w5.alloc _ = w6 at K6 HI6 HG6 HA6 HP6 p4 p5 p6 ⊢
    cases f with
    | zero =>
      have hbad : pgood (p ++ [(x : Int)]) = false := by
        rw [Bool.eq_false_iff]
        intro e
        have := (pgood_iff.1 e).2.1
        rw [← HQ1.out] at this
        have := HQ1.out
        have := HF.out
        simp only [List.length_append, List.length_cons, List.length_nil] at *
        omega
      have HBAD := Lib.hid hbad
      clear hbad
      go_wp2_with fail
      refine (wgood_is HQ1.out HP6.out.ints HBAD.out).mono ?_
      rintro e w7 ⟨rfl, hb⟩
      have HI7 := Lib.hid (HT.out.on HI6.out hb)
      have HA7 := Lib.hid (HA6.out.trans (Apt.on hb))
      clear hb
      go_wp2
      refine bodyPost_ret (results_none rfl _ _ _) rfl ?_
      exact ⟨rfl, O', HI7.out, HA2.out.trans HA7.out⟩
    | succ F =>
    have hgood : pgood (p ++ [(x : Int)]) = true := by
      refine pgood_iff.2 ⟨by simp, ?_, fun y hy => ?_⟩
      · have := HF.out
        simp only [List.length_append, List.length_cons, List.length_nil]
        omega
      · rcases List.mem_append.1 hy with hy | hy
        · exact HX.out y hy
        · obtain rfl : y = (x : Int) := by simpa using hy
          have := HZ2.out
          have := HLT.out
          omega
    have HGOOD := Lib.hid hgood
    clear hgood
    go_wp2_with fail
    refine (wgood_is HQ1.out HP6.out.ints HGOOD.out).mono ?_
    rintro e w7 ⟨rfl, hb⟩
    have hap := Apt.on (O := O') hb
    have HI7 := Lib.hid (HT.out.on HI6.out hb)
    have HA7 := Lib.hid (HA6.out.trans hap)
    have K7 := Lib.hid (K6.out.apt hap)
    have HG7 := Lib.hid (HG6.out.apt hap)
    have HP7 := Lib.hid (HP6.out.apt hap)
    have q4 := (hap.cell (p := ⟨pb, 0, none⟩) p5 p6).trans p4
    have q5 : pb < w7.heap.size := Nat.lt_of_lt_of_le p5 hap.size
    have HP5 := Lib.hid q5
    have HP8 := Lib.hid p6
    have HQ4 := Lib.hid q4
    clear hb hap p4 p5 p6 q5 K6 HI6 HG6 HA6 HP6
    obtain ⟨b0, b1, b2, c3, c4, lt, -⟩ := K7.out
    have hltN := HN.out.lt
    obtain ⟨tb, tp, rfl, htb, htc⟩ := (HS.out.on HG7.out.old).lies.th (by omega)
    have e2 := (htc i hltN).c2
    have hm := HS.out.hm
    have hltm : (i : Int) < (m : Int) := by omega
    obtain ⟨k, hkd⟩ : ∃ k, k = bsN s i + x := ⟨_, rfl⟩
    have ht0 := HN.out.z
    have ht1 := bsN_top HN.out
    have hbs := bsN_is HN.out
    have hfew := HS.out.few
    have hn := HS.out.hn
    have hkl : k < s.sl.length := by have := HZ.out; have := HLT.out; omega
    generalize (thAt s.th i).base = t at e2 ht0 hbs
    have hx0 : (0 : Int) ≤ (x : Int) := by omega
    have hx1 : (x : Int) ≤ 16 := by have := HZ2.out; have := HLT.out; omega
    have hkk : t + (x : Int) = (k : Int) := by omega
    have ht2 : t ≤ 1000 := by omega
    have HKL := Lib.hid hkl
    have HKD := Lib.hid hkd
    have HKN : Hid ((k : Int) < (n : Int)) := Lib.hid (by omega)
    have eg := HT.out.enters
    clear htb htc hltN hm hkd ht1 hbs hfew hn hkl
    go_wp2_with fail
    have hL7 : (L ++ toldN s (F + 1) i p x).length ≤ 200000 := by
      have h1 := toldN_le (s := s) (f := F + 1) (i := i) (p := p) (n := x) (by rw [HZ.out]; exact Nat.le_of_lt HLT.out)
      have h2 := HLEN.out
      rw [List.length_append]
      omega
    refine (HT.out.tell (k := k) HI7.out hL7 HQ1.out HPC.out HP7.out).mono ?_
    rintro e w8 ⟨rfl, O2, hI8, ha8⟩
    have HI8 := Lib.hid hI8
    have HA8 := Lib.hid (HA7.out.trans ha8)
    have K8 := Lib.hid (K7.out.apt ha8)
    have HG8 := Lib.hid (HG7.out.apt ha8)
    have HP9 := Lib.hid (HP7.out.apt ha8)
    have HQ8 : Hid (w8.cell? ⟨pb, 0, none⟩ = some (.slice P q1 pc)) := Lib.hid ((ha8.cell (p := ⟨pb, 0, none⟩) HP5.out HP8.out).trans HQ4.out)
    have HPB8 : Hid (pb < w8.heap.size) := Lib.hid (Nat.lt_of_lt_of_le HP5.out ha8.size)
    have HNO8 : Hid (¬ O2 pb) := Lib.hid (ha8.own pb HP5.out HP8.out)
    clear hL7 hI8 ha8 q4 b0 b1 b2 c3 c4 lt e2 HP5 HP8 HQ4 HI7 HA7 K7 HG7 HP7 eg ht0 ht2
    obtain ⟨b0, b1, b2, c3, c4, lt, -⟩ := K8.out
    obtain ⟨z2, hz2⟩ : ∃ z2, leadsB s k = z2 := ⟨_, rfl⟩
    have HL2 := Lib.hid hz2
    clear hz2
    go_wp2_with fail
    refine (leads_is (HS.out.on HG8.out.old) HGG.out HKL.out HL2.out).mono ?_
    rintro e w9 ⟨rfl, hb⟩
    have hap := Apt.on (O := O2) hb
    have HI9 := Lib.hid (HT.out.on HI8.out hb)
    have HA9 := Lib.hid (HA8.out.trans hap)
    have K9 := Lib.hid (K8.out.apt hap)
    have HG9 := Lib.hid (HG8.out.apt hap)
    have HPP := Lib.hid (HP9.out.apt hap)
    have q9 := (hap.cell (p := ⟨pb, 0, none⟩) HPB8.out HNO8.out).trans HQ8.out
    clear hb hap b0 b1 b2 c3 c4 lt K8 HI8 HA8 HG8 HP9 HQ8 HPB8 HNO8
    cases z2 with
    | false =>
      have HTN : Hid (L ++ toldN s (F + 1) i p (x + 1) = L ++ toldN s (F + 1) i p x ++ [(p ++ [(x : Int)], k)]) := Lib.hid (by rw [toldN, toldN, toldTo_no (by rw [← HKD.out]; exact HL2.out), ← HKD.out, List.append_assoc])
      go_wp2
      go_roundg (z - (x + 1))
      case measure => have := HK.out; have := HLT.out; omega
      case rel => exact ⟨x + 1, O2, by have := HK.out; have := HLT.out; omega, by go_num, by rw [HTN.out]; exact HI9.out, HA9.out⟩
    | true =>
    have HTN : Hid (L ++ toldN s (F + 1) i p (x + 1) = (L ++ toldN s (F + 1) i p x ++ [(p ++ [(x : Int)], k)]) ++ told s F (nodeOf s k) (p ++ [(x : Int)])) := Lib.hid (by rw [toldN, toldN, toldTo_yes (by rw [← HKD.out]; exact HL2.out), ← HKD.out, List.append_assoc, List.append_assoc, List.append_assoc])
    obtain ⟨b0, b1, b2, c3, c4, lt, -⟩ := K9.out
    obtain ⟨hN2, hth⟩ := nd_next HGG.out HKL.out HL2.out
    obtain ⟨lb', lp, rfl, hlb, hlc⟩ := (HS.out.on HG9.out.old).lies.sl (by have := HKL.out; omega)
    have e1 := (hlc k HKL.out).c1
    have hnd : (slAt s.sl k).c.th = (nodeOf s k : Int) := by rw [nodeOf]; omega
    rw [hnd] at e1
    have hkn := HKN.out
    have HN2 := Lib.hid hN2
    have hL9 : (L ++ toldN s (F + 1) i p x ++ [(p ++ [(x : Int)], k)]).length + (told s F (nodeOf s k) (p ++ [(x : Int)])).length ≤ 200000 := by
      have h1 := toldN_le (s := s) (f := F + 1) (i := i) (p := p) (n := x + 1) (by rw [HZ.out]; exact HLT.out)
      have h2 := HLEN.out
      have h3 := congrArg List.length HTN.out
      simp only [List.length_append, List.length_cons, List.length_nil] at h3 ⊢
      omega
    have HL9 := Lib.hid hL9
    generalize nodeOf s k = jn at e1 HN2 HTN HL9
    have HD9 : Hid (Apt O2 O2 w9 w9.drew) := Lib.hid (Apt.on (below_self w9).drew)
    have HIH := Lib.hid (IH.out F (Nat.lt_succ_self F) jn q1 pc P (p ++ [(x : Int)]) (L ++ toldN s (F + 1) i p x ++ [(p ++ [(x : Int)], k)]) O2 w9.drew (HG9.out.apt HD9.out) HN2.out (by have := HF.out; simp only [List.length_append, List.length_cons, List.length_nil]; omega)
      (fun y hy => by
        rcases List.mem_append.1 hy with hy | hy
        · exact HX.out y hy
        · obtain rfl : y = (x : Int) := by simpa using hy
          have := HZ2.out
          have := HLT.out
          omega) HQ1.out HPC.out (fun h => absurd (HQ1.out.symm.trans h) (by simp)) (HPP.out.apt HD9.out) (HT.out.on HI9.out (below_self w9).drew) HL9.out)
    clear hlb hlc hnd hN2 hth hL9
    go_wp2_with fail
    go_still_tail 11, (by kernel_rfl)
    change wpList _ _ _ _ _ w9.drew
    go_wp2_with fail
    refine HIH.out.mono ?_
    rintro e w10 ⟨rfl, O3, hI10, ha10⟩
    have HI10 := Lib.hid hI10
    have HA10 := Lib.hid ((HA9.out.trans HD9.out).trans ha10)
    clear hI10 ha10 b0 b1 b2 c3 c4 lt e1 q9
    go_wp2
    go_roundg (z - (x + 1))
    case measure => have := HK.out; have := HLT.out; omega
    case rel => exact ⟨x + 1, O3, by have := HK.out; have := HLT.out; omega, by go_num, by rw [HTN.out]; exact HI10.out, HA10.out⟩
end Go.Proofs.YtmcgnjhjidfkdaaGreat
namespace Go.Proofs.YtmcgnjhjidfkdaaGreat
open Go.RowKit

/-- a variable of one cell, and the list that it holds, whose block lies behind it -/
def CapV (T e : TypeId) (vb n : Nat) (xs : List Value) (O : Nat → Prop) (w : World) : Prop :=
  ∃ v, w.heap[vb]? = some (.cells #[v] T (0, 0)) ∧ w.ownsRow (vb + 1) e 1 v n xs ∧ O = fun b => b = vb ∨ v.ownBlock = some b
theorem CapV.on {T e : TypeId} {vb n : Nat} {xs : List Value} {O : Nat → Prop} {w w' : World} (h : CapV T e vb n xs O w) (hb : Below w.heap.size w w') : CapV T e vb n xs O w' := by
  obtain ⟨v, h1, h2, h3⟩ := h
  exact ⟨v, (hb.block vb (lt_of_block h1)).trans h1, ownsRow_on h2 hb, h3⟩
theorem CapV.lt {T e : TypeId} {vb n : Nat} {xs : List Value} {O : Nat → Prop} {w : World} (h : CapV T e vb n xs O w) (k : Nat) (hk : O k) : vb ≤ k ∧ k < w.heap.size := by
  obtain ⟨v, h1, h2, rfl⟩ := h
  rcases hk with rfl | hk
  · exact ⟨Nat.le_refl _, lt_of_block h1⟩
  · have := h2.lt k hk
    omega
theorem capv_push {T e : TypeId} {vb n g cap : Nat} {xs : List Value} {y v : Value} {w w2 w3 : World} (hv : w.heap[vb]? = some (.cells #[v] T (0, 0))) (hw : w.ownsRow (vb + 1) e 1 v n xs) (hb : Below w.heap.size w w2)
    (hown : w3.ownsRow (vb + 1) e 1 (.slice (some ⟨g, 0, none⟩) (n + 1) cap) (n + 1) (xs ++ [y])) (hgrow : w2.grownBy w3 v.ownBlock) (hat : v.ownBlock = some g ∨ g = w2.heap.size) :
    CapV T e vb (n + 1) (xs ++ [y]) (fun b => b = vb ∨ (Value.slice (some ⟨g, 0, none⟩) (n + 1) cap).ownBlock = some b) (w3.setCell ⟨vb, 0, none⟩ (.slice (some ⟨g, 0, none⟩) (n + 1) cap)) ∧
      Apt (fun b => b = vb ∨ v.ownBlock = some b) (fun b => b = vb ∨ (Value.slice (some ⟨g, 0, none⟩) (n + 1) cap).ownBlock = some b) w (w3.setCell ⟨vb, 0, none⟩ (.slice (some ⟨g, 0, none⟩) (n + 1) cap)) := by
  have hvl := lt_of_block hv
  have hg : vb + 1 ≤ g := (hown.lt g rfl).1
  have hnv : v.ownBlock ≠ some vb := fun h => by have := (hw.lt vb h).1; omega
  have h3 : w3.heap[vb]? = some (.cells #[v] T (0, 0)) := (hgrow.block vb (Nat.lt_of_lt_of_le hvl hb.size) (fun h => hnv h.symm)).trans ((hb.block vb hvl).trans hv)
  refine ⟨⟨_, one_setCell h3, ownsRow_setCell_other hown (fun h => ?_) _, rfl⟩, ⟨hgrow.os.trans hb.os, hgrow.tape.trans hb.tape, hgrow.output.trans hb.output, ?_, fun k hk ho => ?_, fun k hk ho h => ?_⟩⟩
  · have : g = vb := by simpa [Value.ownBlock] using h
    omega
  · have := hgrow.size
    have := hb.size
    simp only [World.setCell, Array.size_modify]
    omega
  · refine (Below.heap_setCell _ _ _ _ (fun h => ho (.inl h))).trans ((hgrow.block k (Nat.lt_of_lt_of_le hk hb.size) (fun h => ho (.inr h.symm))).trans (hb.block k hk))
  · rcases h with rfl | h
    · exact ho (.inl rfl)
    · have h : g = k := by simpa [Value.ownBlock] using h
      subst h
      rcases hat with h | h
      · exact ho (.inr h)
      · have := hb.size
        omega

/-! ### Reach's -/
def rcells (L : List (List Int × Nat)) : List Value := icells (L.map fun p => ((p.2 : Nat) : Int))
def IR (vb : Nat) (L : List (List Int × Nat)) (O : Nat → Prop) (w : World) : Prop := CapV 33 3 vb L.length (rcells L) O w
set_option maxRecDepth 100000 in
set_option maxHeartbeats 4000000 in
theorem rtell_is {vb q cap k : Nat} {B : Option Addr} {L : List (List Int × Nat)} {p : List Int} {O : Nat → Prop} {w : World} (hI : IR vb L O w) (hL : L.length ≤ 200000) :
    Calls Tryz.prog 31 #[.agg #[.slice B q cap], .int .i64 (k : Int), .pointer (some ⟨vb, 0, none⟩)] w fun e w' => e = .returned (.tuple #[]) ∧ ∃ O', IR vb (L ++ [(p, k)]) O' w' ∧ Apt O O' w w' := by
  obtain ⟨v, hv, hw, rfl⟩ := hI
  have hvl := lt_of_block hv
  have hb1 := below_alloc w (.cells #[.slice B q cap] 35)
  have hb2 : Below w.heap.size w ((w.alloc (.cells #[.slice B q cap] 35)).alloc (.cells #[.int .i64 (k : Int)] 3)) := below_on hb1 (below_alloc _ _)
  have c1 : (w.alloc (.cells #[.slice B q cap] 35)).cell? ⟨vb, 0, none⟩ = some v := (hb1.cell (p := ⟨vb, 0, none⟩) hvl).trans (cell_of_one hv)
  have HW := Lib.hid (ownsRow_on hw hb2)
  have hnew := one_new (w.alloc (.cells #[.slice B q cap] 35)) (k : Int)
  rw [show (w.alloc (.cells #[.slice B q cap] 35)).heap.size = w.heap.size + 1 by simp] at hnew
  have HNEW := Lib.hid hnew
  clear hnew
  have HONE := Lib.hid (one_plain (k : Int))
  have HSZ : Hid (vb + 1 ≤ ((w.alloc (.cells #[.slice B q cap] 35)).alloc (.cells #[.int .i64 (k : Int)] 3)).heap.size) := Lib.hid (by have := hb2.size; omega)
  have HV := Lib.hid hv
  have HW0 := Lib.hid hw
  have HB2 := Lib.hid hb2
  have HL := Lib.hid hL
  obtain ⟨i0, hii, hz0, hz1, hz2⟩ := info3_parts
  clear hv hw hb1 hb2 hL
  go_enter Tryz.func31, Tryz.ntmps31
  go_wp2_with (at_builtin; refine wpList_append_lies _ rfl _ _ 33 rfl (vb + 1) 3 i0 (.int .i64 0) 1 8 Tryz.underlying33 hii hz0 hz1 hz2 rfl (by decide) _ _ _ rfl HW.out ⟨w.heap.size + 1, 0, none⟩ 1 1 [.int .i64 (k : Int)] rfl rfl ?c0 HONE.out (by decide) ?c1 ?c2 HSZ.out _ rfl ?_)
  case c0 => exact HNEW.out
  case c1 => have := HL.out; unfold maxLen; omega
  case c2 => have := HL.out; omega
  intro g cap' w3 hown hgrow hat hlt
  have h3 := (hgrow.block vb (Nat.lt_of_lt_of_le (lt_of_block HV.out) HB2.out.size) (fun h => by have := (HW0.out.lt vb h.symm).1; omega)).trans ((HB2.out.block vb (lt_of_block HV.out)).trans HV.out)
  have d1 := cell_of_one h3
  have d2 := free_of_one h3
  have HP := Lib.hid (capv_push HV.out HW0.out HB2.out hown hgrow (hat.imp id fun h => h.trans (by simp)))
  clear hown hgrow hat hlt h3 c1
  go_wp2
  refine bodyPost_end (results_none rfl _ _ _) rfl ?_
  refine ⟨rfl, _, ?_, HP.out.2⟩
  have h := HP.out.1
  rw [IR, rcells, List.length_append, List.map_append, icells_append]
  exact h
theorem rtel {vb : Nat} : Tel 31 #[.pointer (some ⟨vb, 0, none⟩)] (IR vb) where
  enters := fun _ _ => by kernel_rfl
  on := fun h hb => CapV.on h hb
  lt := fun h k hk => (CapV.lt h k hk).2
  tell := fun h hL _ _ _ => rtell_is h hL

/-! ### Ways' -/
def mine (k : Int) (L : List (List Int × Nat)) : List (List Int) := (L.filter fun p => decide ((p.2 : Int) = k)).map (·.1)
theorem mine_yes {k : Int} {L : List (List Int × Nat)} {p : List Int} {i : Nat} (h : (i : Int) = k) : mine k (L ++ [(p, i)]) = mine k L ++ [p] := by simp [mine, h]
theorem mine_no {k : Int} {L : List (List Int × Nat)} {p : List Int} {i : Nat} (h : ¬ (i : Int) = k) : mine k (L ++ [(p, i)]) = mine k L := by simp [mine, h]
theorem mine_len (k : Int) (L : List (List Int × Nat)) : (mine k L).length ≤ L.length := by
  rw [mine, List.length_map]
  exact List.length_filter_le _ _
/-- ways that lie in memory, each told by a slice -/
def WaysAp (O : Nat → Prop) (w : World) (vs : List Value) (M : List (List Int)) : Prop := vs.length = M.length ∧ ∀ (j : Nat) (q : List Int), M[j]? = some q → ∃ B c, vs[j]? = some (.slice B q.length c) ∧ q.length ≤ c ∧ IntsAp O w B q
theorem WaysAp.apt {O O' : Nat → Prop} {w w' : World} {vs : List Value} {M : List (List Int)} (h : WaysAp O w vs M) (k : Apt O O' w w') : WaysAp O' w' vs M := ⟨h.1, fun j q hq => by
  obtain ⟨B, c, h1, h2, h3⟩ := h.2 j q hq
  exact ⟨B, c, h1, h2, h3.apt k⟩⟩
theorem WaysAp.push {O O' : Nat → Prop} {w w' : World} {vs : List Value} {M : List (List Int)} {B : Option Addr} {c : Nat} {q : List Int} (h : WaysAp O w vs M) (k : Apt O O' w w') (hc : q.length ≤ c) (hq : IntsAp O w B q) : WaysAp O' w' (vs ++ [.slice B q.length c]) (M ++ [q]) := ⟨by simp [h.1], fun j r hr => by
  rcases Nat.lt_or_ge j M.length with hj | hj
  · rw [List.getElem?_append_left hj] at hr
    obtain ⟨B', c', h1, h2, h3⟩ := h.2 j r hr
    exact ⟨B', c', by rw [List.getElem?_append_left (by rw [h.1]; exact hj)]; exact h1, h2, h3.apt k⟩
  · rw [List.getElem?_append_right hj] at hr
    have h0 : j - M.length = 0 := by
      rcases Nat.eq_zero_or_pos (j - M.length) with h0 | h0
      · exact h0
      · rw [List.getElem?_eq_none (by simp only [List.length_cons, List.length_nil]; omega)] at hr
        cases hr
    rw [h0] at hr
    obtain rfl : q = r := by simpa using hr
    exact ⟨B, c, by rw [List.getElem?_append_right (by rw [h.1]; exact hj), h.1, h0]; rfl, hc, hq.apt k⟩⟩
def IW (sb vb : Nat) (t : Int) (L : List (List Int × Nat)) (O : Nat → Prop) (w : World) : Prop :=
  ∃ vs, CapV 41 35 vb (mine t L).length vs O w ∧ WaysAp O w vs (mine t L) ∧ w.cell? ⟨sb, 0, none⟩ = some (.int .i64 t) ∧ sb < vb
theorem infop_all : (Tryz.prog.info? 35).map (fun i => (i.zero, i.size, i.bytes)) = some (some (.agg #[.slice none 0 0]), 1, 24) := by kernel_rfl
theorem infop_parts : ∃ i : TypeInfo, Tryz.prog.info? 35 = some i ∧ i.zero = some (.agg #[.slice none 0 0]) ∧ i.size = 1 ∧ i.bytes = 24 := by
  have h := infop_all
  cases hq : Tryz.prog.info? 35 with
  | none => simp [hq] at h
  | some i =>
    simp [hq] at h
    exact ⟨i, rfl, h.1, h.2.1, h.2.2⟩
set_option maxRecDepth 100000 in
set_option maxHeartbeats 4000000 in
theorem wtell_is {sb vb q cap k : Nat} {t : Int} {B : Option Addr} {L : List (List Int × Nat)} {p : List Int} {O : Nat → Prop} {w : World} (hI : IW sb vb t L O w) (hL : L.length ≤ 200000) (hq : q = p.length) (hcap : q ≤ cap) (hp : IntsAp O w B p) :
    Calls Tryz.prog 20 #[.agg #[.slice B q cap], .int .i64 (k : Int), .pointer (some ⟨sb, 0, none⟩), .pointer (some ⟨vb, 0, none⟩)] w fun e w' => e = .returned (.tuple #[]) ∧ ∃ O', IW sb vb t (L ++ [(p, k)]) O' w' ∧ Apt O O' w w' := by
  obtain ⟨vs, ⟨v, hv, hw, rfl⟩, hP, hs, hsv⟩ := hI
  have hvl := lt_of_block hv
  have hb1 := below_alloc w (.cells #[.slice B q cap] 35)
  have hb2 : Below w.heap.size w ((w.alloc (.cells #[.slice B q cap] 35)).alloc (.cells #[.slice B q cap] 35)) := below_on hb1 (below_alloc _ _)
  have c1 : (w.alloc (.cells #[.slice B q cap] 35)).cell? ⟨vb, 0, none⟩ = some v := (hb1.cell (p := ⟨vb, 0, none⟩) hvl).trans (cell_of_one hv)
  have c2 : (w.alloc (.cells #[.slice B q cap] 35)).cell? ⟨sb, 0, none⟩ = some (.int .i64 t) := (hb1.cell (p := ⟨sb, 0, none⟩) (by show sb < _; omega)).trans hs
  by_cases hk : (k : Int) = t
  case neg =>
    have HK := Lib.hid hk
    have hne : ((k : Int) == t) = false := by simpa using hk
    have HAP : Hid (Apt (fun b => b = vb ∨ v.ownBlock = some b) (fun b => b = vb ∨ v.ownBlock = some b) w (w.alloc (.cells #[.slice B q cap] 35))) := Lib.hid (Apt.on hb1)
    have HI : Hid (IW sb vb t L (fun b => b = vb ∨ v.ownBlock = some b) (w.alloc (.cells #[.slice B q cap] 35))) := Lib.hid ⟨vs, CapV.on ⟨v, hv, hw, rfl⟩ hb1, hP.apt (Apt.on hb1), c2, hsv⟩
    clear hv hw hb1 hb2 hP hs hk hq hcap hp hL hsv
    go_enter Tryz.func20, Tryz.ntmps20
    go_wp2
    refine bodyPost_end (results_none rfl _ _ _) rfl ?_
    refine ⟨rfl, _, ?_, HAP.out⟩
    have h := HI.out
    unfold IW at h ⊢
    rw [mine_no HK.out]
    exact h
  have HK := Lib.hid hk
  have heq : ((k : Int) == t) = true := by simpa using hk
  have HW := Lib.hid (ownsRow_on hw hb2)
  have HNEW : Hid (∀ j u, [Value.slice B q cap][j]? = some u → ((w.alloc (.cells #[.slice B q cap] 35)).alloc (.cells #[.slice B q cap] 35)).cell? ((⟨w.heap.size + 1, 0, none⟩ : Addr).add j) = some u) := Lib.hid fun j u hu => by
    match j, hu with
    | 0, hu =>
      obtain rfl : Value.slice B q cap = u := by simpa using hu
      simp [Addr.add]
  have HONE : Hid (∀ u ∈ [Value.slice B q cap], u.oneCell' = true) := Lib.hid fun u hu => by
    obtain rfl : u = Value.slice B q cap := by simpa using hu
    rfl
  have HSZ : Hid (vb + 1 ≤ ((w.alloc (.cells #[.slice B q cap] 35)).alloc (.cells #[.slice B q cap] 35)).heap.size) := Lib.hid (by have := hb2.size; omega)
  have HML : Hid ((mine t L).length ≤ 200000) := Lib.hid (Nat.le_trans (mine_len t L) hL)
  have HV := Lib.hid hv
  have HW0 := Lib.hid hw
  have HB2 := Lib.hid hb2
  have HP := Lib.hid hP
  have HS := Lib.hid hs
  have HSV := Lib.hid hsv
  have HQ := Lib.hid hq
  have HCAP := Lib.hid hcap
  have HPP := Lib.hid hp
  obtain ⟨i0, hii, hz0, hz1, hz2⟩ := infop_parts
  clear hv hw hb1 hb2 hL hP hs hsv hq hcap hp hk
  go_enter Tryz.func20, Tryz.ntmps20
  go_wp2_with (at_builtin; refine wpList_append_lies _ rfl _ _ 41 rfl (vb + 1) 35 i0 (.agg #[.slice none 0 0]) 1 24 Tryz.underlying41 hii hz0 hz1 hz2 rfl (by decide) _ _ _ rfl HW.out ⟨w.heap.size + 1, 0, none⟩ 1 1 [.slice B q cap] rfl rfl ?c0 HONE.out (by decide) ?c1 ?c2 HSZ.out _ rfl ?_)
  case c0 => exact HNEW.out
  case c1 => have := HML.out; unfold maxLen; omega
  case c2 => have := HML.out; omega
  intro g cap' w3 hown hgrow hat hlt
  have h3 := (hgrow.block vb (Nat.lt_of_lt_of_le (lt_of_block HV.out) HB2.out.size) (fun h => by have := (HW0.out.lt vb h.symm).1; omega)).trans ((HB2.out.block vb (lt_of_block HV.out)).trans HV.out)
  have d1 := cell_of_one h3
  have d2 := free_of_one h3
  have HPU := Lib.hid (capv_push HV.out HW0.out HB2.out hown hgrow (hat.imp id fun h => h.trans (by simp)))
  clear hown hgrow hat hlt h3 c1 c2
  go_wp2
  refine bodyPost_end (results_none rfl _ _ _) rfl ?_
  refine ⟨rfl, _, ?_, HPU.out.2⟩
  unfold IW
  rw [mine_yes HK.out, List.length_append]
  refine ⟨vs ++ [.slice B q cap], HPU.out.1, ?_, ?_, HSV.out⟩
  · rw [HQ.out]
    exact HP.out.push HPU.out.2 (by rw [← HQ.out]; exact HCAP.out) HPP.out
  · refine (HPU.out.2.cell (p := ⟨sb, 0, none⟩) (by have := HSV.out; show sb < _; omega) (fun h => ?_)).trans HS.out
    have := HSV.out
    rcases h with h | h
    · have h : sb = vb := h
      omega
    · have := (HW0.out.lt sb h).1
      omega
theorem wtel {sb vb : Nat} {t : Int} : Tel 20 #[.pointer (some ⟨sb, 0, none⟩), .pointer (some ⟨vb, 0, none⟩)] (IW sb vb t) where
  enters := fun _ _ => by kernel_rfl
  on := fun h hb => by
    obtain ⟨vs, h1, h2, h3, h4⟩ := h
    obtain ⟨v, h5, -⟩ := id h1
    exact ⟨vs, h1.on hb, h2.apt (Apt.on hb), (hb.cell (p := ⟨sb, 0, none⟩) (by have := lt_of_block h5; show sb < _; omega)).trans h3, h4⟩
  lt := fun h k hk => by
    obtain ⟨vs, h1, -⟩ := h
    exact (h1.lt k hk).2
  tell := fun h hL hq hc hp => wtell_is h hL hq hc hp
end Go.Proofs.YtmcgnjhjidfkdaaGreat
namespace Go.Proofs.YtmcgnjhjidfkdaaGreat
open Go.RowKit

/-- ways that lie in memory -/
def WaysAt (w : World) (vs : List Value) (M : List (List Int)) : Prop := vs.length = M.length ∧ ∀ (j : Nat) (q : List Int), M[j]? = some q → ∃ B c, vs[j]? = some (.slice B q.length c) ∧ q.length ≤ c ∧ IntsAt w w.heap.size B q
theorem WaysAt.on {w w' : World} {vs : List Value} {M : List (List Int)} (h : WaysAt w vs M) (hb : Below w.heap.size w w') : WaysAt w' vs M := ⟨h.1, fun j q hq => by
  obtain ⟨B, c, h1, h2, h3⟩ := h.2 j q hq
  exact ⟨B, c, h1, h2, h3.on hb⟩⟩
def WaysF (w w' : World) (e : Ending) (M : List (List Int)) : Prop := ∃ v vs, e = .returned v ∧ w'.ownsRow w.heap.size 35 1 v M.length vs ∧ WaysAt w' vs M ∧ Below w.heap.size w w'
theorem mine_run (s : St) (t k : Int) : mine k (frun s t) = fways s t k := rfl
set_option maxRecDepth 100000 in
set_option maxHeartbeats 8000000 in
theorem fways_is {s : St} {a b c : Int} {A C : Option Addr} {n ca m cc : Nat} {t k : Int} {w : World} (hS : StH w s a b c A n ca C m cc) :
    Calls Tryz.prog 10 #[.agg #[.int .i64 a, .int .i64 b, .int .i64 c, .slice A n ca, .slice C m cc], .int .i64 t, .int .i64 k] w fun e w' => WaysF w w' e (fways s t k) := by
  have k1 := (Sbx.new w a b c A n ca C m cc 28).on (below_alloc _ (.cells #[.int .i64 k] 3))
  have s1 : ((w.alloc (.cells #[.int .i64 a, .int .i64 b, .int .i64 c, .slice A n ca, .slice C m cc] 28)).alloc (.cells #[.int .i64 k] 3)).cell? ⟨w.heap.size + 1, 0, none⟩ = some (.int .i64 k) := by simp
  have s2 : ((w.alloc (.cells #[.int .i64 a, .int .i64 b, .int .i64 c, .slice A n ca, .slice C m cc] 28)).alloc (.cells #[.int .i64 k] 3)).heap.size = w.heap.size + 1 + 1 := by simp
  have HS := Lib.hid hS
  obtain ⟨z, hz⟩ : ∃ z, fthread s t = z := ⟨_, rfl⟩
  have HZ := Lib.hid hz
  clear hS hz
  go_enter Tryz.func10, Tryz.ntmps10
  go_wp2_with fail
  obtain ⟨sb, hsb⟩ : ∃ sb, sb = w.heap.size + 1 := ⟨_, rfl⟩
  rw [← hsb] at s1 s2 ⊢
  have HSB := Lib.hid hsb
  clear hsb
  generalize (w.alloc _).alloc _ = w1 at k1 s1 s2 ⊢
  have K1 := Lib.hid k1
  obtain ⟨b0, b1, b2, c3, c4, -, -, lt⟩ := k1
  have HS1 := Lib.hid s1
  have HS2 := Lib.hid s2
  clear s2
  go_wp2_with fail
  refine (thread_is (HS.out.on K1.out.old) HZ.out).mono ?_
  rintro e w2 ⟨rfl, hb⟩
  have K2 := Lib.hid (K1.out.on hb)
  have s3 := (hb.cell (p := ⟨sb, 0, none⟩) (by have := HS2.out; show sb < _; omega)).trans HS1.out
  have HSZ : Hid (sb < w2.heap.size) := Lib.hid (by have := HS2.out; have := hb.size; omega)
  clear hb b0 b1 b2 c3 c4 lt s1 HS1 HS2 K1
  cases z with
  | false =>
    have HE : Hid (fways s t k = []) := Lib.hid (by rw [← mine_run, frun_no HZ.out]; rfl)
    go_wp2
    go_ret
    rw [HE.out]
    exact ⟨_, [], rfl, World.ownsRow_nil _ _ _ _, ⟨rfl, fun j q h => by simp at h⟩, K2.out.old⟩
  | true =>
  obtain ⟨hg, h0, h1⟩ := fthread_iff.1 HZ.out
  have hG := sgood_iff.1 hg
  obtain ⟨t', rfl⟩ : ∃ t' : Nat, t = t' := ⟨t.toNat, by omega⟩
  obtain ⟨j, hj⟩ : ∃ j : Nat, j = 2 + t' := ⟨_, rfl⟩
  have hN : Nd s j := by rw [hj]; exact nd_root hG h1
  have hk16 : (t' : Int) ≤ 1000 := by
    have := hN.lt
    have := HS.out.fewm
    have := HS.out.hm
    omega
  have hk2 : (2 : Int) + (t' : Int) = (j : Int) := by omega
  have HR : Hid (told s 3 j [] = frun s t') := Lib.hid (by rw [frun, if_pos HZ.out, hj, show (2 + (t' : Int)).toNat = 2 + t' by omega])
  have HB3 := Lib.hid (below_alloc w2 (.cells #[.slice none 0 0] 41))
  have HI : Hid (IW sb w2.heap.size k [] (fun b => b = w2.heap.size ∨ (Value.slice none 0 0).ownBlock = some b) (w2.alloc (.cells #[.slice none 0 0] 41))) := Lib.hid
    ⟨[], ⟨.slice none 0 0, heap_alloc_new w2 _, World.ownsRow_nil _ _ _ _, rfl⟩, ⟨rfl, fun j q h => by simp [mine] at h⟩, (HB3.out.cell (p := ⟨sb, 0, none⟩) HSZ.out).trans s3, HSZ.out⟩
  have HGR : Hid (Gr w (w2.alloc (.cells #[.slice none 0 0] 41)) (fun b => b = w2.heap.size ∨ (Value.slice none 0 0).ownBlock = some b)) := Lib.hid ⟨below_on K2.out.old HB3.out, fun b hb => by
    rcases hb with rfl | hb
    · exact K2.out.old.size
    · cases hb⟩
  have hlen := frun_len (s := s) (t := t')
  have HG := Lib.hid (goon_is (g := 20) (lb := #[.pointer (some ⟨sb, 0, none⟩), .pointer (some ⟨w2.heap.size, 0, none⟩)]) wtel hG HS.out 3 j 0 0 none [] [] _ _ HGR.out hN rfl (fun y hy => by simp at hy) rfl (Nat.le_refl _) (fun _ => ⟨rfl, rfl⟩) (fun h => absurd h (by simp)) HI.out (by rw [HR.out]; simp only [List.length_nil]; omega))
  have K3 := Lib.hid (K2.out.on HB3.out)
  obtain ⟨b0, b1, b2, c3, c4, -, -, lt⟩ := K3.out
  clear hg h0 h1 hG hj hN hlen s3
  go_wp2_with fail
  refine HG.out.mono ?_
  rintro e w5 ⟨rfl, O', ⟨vs, ⟨v, hv, hw, hO⟩, hP, -, -⟩, hap⟩
  rw [List.nil_append, HR.out, mine_run] at hw hP
  have HB5 := Lib.hid (HGR.out.apt hap).old
  have HW := Lib.hid hw
  have HP := Lib.hid hP
  have d1 := cell_of_one hv
  have HWS := Lib.hid K2.out.old.size
  clear hv hw hO hP hap b0 b1 b2 c3 c4 lt
  go_wp2
  go_ret
  exact ⟨v, vs, rfl, ⟨HW.out.1, HW.out.2.imp id fun ⟨g, c, cur, e, h, r⟩ => ⟨g, c, cur, e, by have := HWS.out; omega, r⟩⟩, ⟨HP.out.1, fun j q hq => by
    obtain ⟨B, c, h1, h2, h3⟩ := HP.out.2 j q hq
    exact ⟨B, c, h1, h2, h3.ints⟩⟩, HB5.out⟩

/-! ### Reach -/
def ReachF (w w' : World) (e : Ending) (M : List Int) : Prop := ∃ A cap, e = .returned (.slice A M.length cap) ∧ M.length ≤ cap ∧ IntsAt w' w'.heap.size A M ∧ Below w.heap.size w w'
theorem sorted_ints {w : World} {g k : Nat} {os : Array Obj} {cur : Array Value} {e : TypeId} {fr : Nat × Nat} {ts us : List Int} (hb : w.heap[g]? = some (.cells cur e fr)) (hl : (us ++ ts).length ≤ cur.size) :
    IntsAt (Sort.grow (Sort.putRow (Value.int .i64) (Sort.ahead w k) g 0 (us ++ ts).toArray) os) (Sort.grow (Sort.putRow (Value.int .i64) (Sort.ahead w k) g 0 (us ++ ts).toArray) os).heap.size (some ⟨g, 0, none⟩) us := fun _ => by
  have h := heap_sortedI (n := k) (os := os) (us ++ ts).toArray hb
  refine ⟨g, 0, rfl, lt_of_block h, fun j z hz => ?_⟩
  have hj := (List.getElem?_eq_some_iff.1 hz).1
  have h2 := take_putCellsI cur (us ++ ts) hl
  have h3 : ((Sort.putCells (Value.int .i64) 0 (us ++ ts).toArray cur).toList.take (us ++ ts).length)[j]? = ((us ++ ts).map (Value.int .i64))[j]? := by rw [h2]
  rw [List.getElem?_take_of_lt (by rw [List.length_append]; omega), List.getElem?_map, List.getElem?_append_left hj, hz] at h3
  rw [Nat.zero_add, cell_of_row _ _ _ _ _ _ h, ← Array.getElem?_toList, h3]
  rfl
set_option maxRecDepth 100000 in
set_option maxHeartbeats 8000000 in
theorem freach_is {s : St} {a b c : Int} {A C : Option Addr} {n ca m cc : Nat} {t : Int} {w : World} (hS : StH w s a b c A n ca C m cc) :
    Calls Tryz.prog 13 #[.agg #[.int .i64 a, .int .i64 b, .int .i64 c, .slice A n ca, .slice C m cc], .int .i64 t] w fun e w' => ReachF w w' e (freach s t) := by
  have k1 := Sbx.new w a b c A n ca C m cc 28
  have HS := Lib.hid hS
  obtain ⟨z, hz⟩ : ∃ z, fthread s t = z := ⟨_, rfl⟩
  have HZ := Lib.hid hz
  clear hS hz
  go_enter Tryz.func13, Tryz.ntmps13
  go_wp2_with fail
  generalize w.alloc _ = w1 at k1 ⊢
  have K1 := Lib.hid k1
  obtain ⟨b0, b1, b2, c3, c4, -, -, lt⟩ := k1
  go_wp2_with fail
  refine (thread_is (HS.out.on K1.out.old) HZ.out).mono ?_
  rintro e w2 ⟨rfl, hb⟩
  have K2 := Lib.hid (K1.out.on hb)
  clear hb b0 b1 b2 c3 c4 lt K1
  cases z with
  | false =>
    have HE : Hid (freach s t = []) := Lib.hid (by rw [freach, fsorted, frun_no HZ.out, List.map_nil, List.mergeSort_nil]; rfl)
    go_wp2
    go_ret
    rw [HE.out]
    exact ⟨none, 0, rfl, Nat.le_refl _, fun h => absurd h (by simp), K2.out.old⟩
  | true =>
  obtain ⟨hg, h0, h1⟩ := fthread_iff.1 HZ.out
  have hG := sgood_iff.1 hg
  obtain ⟨t', rfl⟩ : ∃ t' : Nat, t = t' := ⟨t.toNat, by omega⟩
  obtain ⟨j, hj⟩ : ∃ j : Nat, j = 2 + t' := ⟨_, rfl⟩
  have hN : Nd s j := by rw [hj]; exact nd_root hG h1
  have hk16 : (t' : Int) ≤ 1000 := by
    have := hN.lt
    have := HS.out.fewm
    have := HS.out.hm
    omega
  have hk2 : (2 : Int) + (t' : Int) = (j : Int) := by omega
  have HR : Hid (told s 3 j [] = frun s t') := Lib.hid (by rw [frun, if_pos HZ.out, hj, show (2 + (t' : Int)).toNat = 2 + t' by omega])
  have HB3 := Lib.hid (below_alloc w2 (.cells #[.slice none 0 0] 33))
  have HI : Hid (IR w2.heap.size [] (fun b => b = w2.heap.size ∨ (Value.slice none 0 0).ownBlock = some b) (w2.alloc (.cells #[.slice none 0 0] 33))) := Lib.hid
    ⟨.slice none 0 0, heap_alloc_new w2 _, World.ownsRow_nil _ _ _ _, rfl⟩
  have HGR : Hid (Gr w (w2.alloc (.cells #[.slice none 0 0] 33)) (fun b => b = w2.heap.size ∨ (Value.slice none 0 0).ownBlock = some b)) := Lib.hid ⟨below_on K2.out.old HB3.out, fun b hb => by
    rcases hb with rfl | hb
    · exact K2.out.old.size
    · cases hb⟩
  have hlen := frun_len (s := s) (t := t')
  have HLEN := Lib.hid hlen
  have HG := Lib.hid (goon_is (g := 31) (lb := #[.pointer (some ⟨w2.heap.size, 0, none⟩)]) rtel hG HS.out 3 j 0 0 none [] [] _ _ HGR.out hN rfl (fun y hy => by simp at hy) rfl (Nat.le_refl _) (fun _ => ⟨rfl, rfl⟩) (fun h => absurd h (by simp)) HI.out (by rw [HR.out]; simp only [List.length_nil]; omega))
  have K3 := Lib.hid (K2.out.on HB3.out)
  obtain ⟨b0, b1, b2, c3, c4, -, -, lt⟩ := K3.out
  clear hg h0 h1 hG hj hN hlen
  go_wp2_with fail
  refine HG.out.mono ?_
  rintro e w5 ⟨rfl, O', ⟨v, hv, hw, hO⟩, hap⟩
  rw [List.nil_append, HR.out] at hw
  have HB5 := Lib.hid (HGR.out.apt hap).old
  have HWS := Lib.hid K2.out.old.size
  obtain ⟨zs, hzs⟩ : ∃ zs, zs = (frun s t').map fun p => ((p.2 : Nat) : Int) := ⟨_, rfl⟩
  have HSO : Hid (fsorted s t' = zs.mergeSort fun x y => decide (x ≤ y)) := Lib.hid (by rw [fsorted, hzs])
  have hzl : (frun s t').length = zs.length := by rw [hzs, List.length_map]
  rw [rcells, ← hzs, hzl] at hw
  have hzl2 : zs.length ≤ 64000 := by have := HLEN.out; omega
  have HZL := Lib.hid hzl2
  clear hzs hzl hzl2 hO hap b0 b1 b2 c3 c4 lt HLEN
  have d1 := cell_of_one hv
  have HVL := Lib.hid (lt_of_block hv)
  rcases hw.2 with ⟨rfl, h0⟩ | ⟨g, cap, cur, rfl, hgb, hgc, h1, h2, h3, h4⟩
  · have HE : Hid (freach s t' = []) := Lib.hid (by rw [freach, HSO.out, List.length_eq_zero_iff.1 h0, List.mergeSort_nil]; rfl)
    rw [h0] at *
    clear hv hw h0
    go_wp2_with fail
    refine (Tryz.slices_Sort_int_none none 0 w5).mono ?_
    rintro e w6 ⟨rfl, rfl⟩
    go_wp2_with fail
    refine (Tryz.slices_Compact_int_empty none 0 w6).mono ?_
    rintro e w7 ⟨rfl, rfl⟩
    go_wp2
    go_ret
    rw [HE.out]
    exact ⟨none, 0, rfl, Nat.le_refl _, fun h => absurd h (by simp), HB5.out⟩
  · have HB := Lib.hid hgc
    have HGB := Lib.hid hgb
    have HCUR := Lib.hid h3
    have HH := Lib.hid (holds_of_blockI (ss := zs) hgc (by rw [Nat.mul_one] at h4; exact h4))
    have H1 := Lib.hid h1
    have HV := Lib.hid hv
    clear hgc hgb h1 h2 h3 h4 hv hw
    go_wp2_with fail
    refine (Tryz.slices_Sort_int g 0 cap zs w5 HH.out (lt_of_block HB.out) (by have := HZL.out; omega)).mono ?_
    rintro e w6 ⟨rfl, nd, os, hw6⟩
    obtain ⟨ts, hts⟩ : ∃ ts, ts = zs.mergeSort fun x y => decide (x ≤ y) := ⟨_, rfl⟩
    rw [← hts] at hw6
    have htl : ts.length = zs.length := by rw [hts, List.length_mergeSort]
    have HTS : Hid (freach s t' = Lib.compact ts) := Lib.hid (by rw [freach, HSO.out, hts])
    have hg6 := grownBy_sortedI (n := nd) (os := os) (w := w5) (g := g) ts.toArray
    have hb6 := heap_sortedI (n := nd) (os := os) ts.toArray HB.out
    rw [← hw6] at hg6 hb6
    have htk := take_putCellsI cur ts (by rw [HCUR.out, htl]; have := H1.out; omega)
    have hsz6 : (Sort.putCells (Value.int .i64) 0 ts.toArray cur).size = cap := by
      rw [Sort.putCells, Array.size_mapIdx, HCUR.out, Nat.mul_one]
    generalize Sort.putCells (Value.int .i64) 0 ts.toArray cur = cur6 at hb6 htk hsz6
    have HB6 := Lib.hid hb6
    have HH6 := Lib.hid (holds_of_blockI (ss := ts) hb6 htk)
    have HSZ6 := Lib.hid hsz6
    have HBL6 := Lib.hid (HB5.out.grown hg6 HB5.out.size (fun k hk => by injection hk with hk; have := HGB.out; have := HWS.out; omega))
    have d2 : w6.cell? ⟨w2.heap.size, 0, none⟩ = some (.slice (some ⟨g, 0, none⟩) zs.length cap) := (World.cell?_of_block (w := w5) (a := ⟨w2.heap.size, 0, none⟩) (hg6.block _ HVL.out (fun h => by injection h with h; have h : w2.heap.size = g := h; have := HGB.out; omega))).trans d1
    rw [← htl] at d2
    have HTL := Lib.hid htl
    clear hw6 hts hg6 hb6 htk hsz6 htl d1
    go_wp2_with fail
    refine (Tryz.slices_Compact_int g 0 cap ts w6 HH6.out (by have := HZL.out; have := HTL.out; omega) (by have := H1.out; have := HTL.out; omega)).mono ?_
    rintro e w7 ⟨rfl, q, hw7⟩
    have hcl : (Lib.compact ts).length ≤ ts.length := by
      have h : ∀ (d : Array Int) n, (Lib.compactUpTo d n).length ≤ n := fun d n => by
        rw [Lib.compactUpTo, List.length_map]
        exact Nat.le_trans (List.length_filter_le _ _) (by simp)
      rw [Lib.compact]
      exact h _ _
    have hw7' : w7 = Sort.grow (Sort.putRow (Value.int .i64) (Sort.ahead w6 q) g 0 (Lib.compact ts ++ List.replicate (ts.length - (Lib.compact ts).length) 0).toArray) #[] := by rw [Sort.grow_empty]; exact hw7
    have hI7 := sorted_ints (k := q) (os := #[]) (us := Lib.compact ts) (ts := List.replicate (ts.length - (Lib.compact ts).length) 0) HB6.out (by rw [List.length_append, List.length_replicate, HSZ6.out]; have := H1.out; have := HTL.out; omega)
    have hg7 := grownBy_sortedI (n := q) (os := #[]) (w := w6) (g := g) (Lib.compact ts ++ List.replicate (ts.length - (Lib.compact ts).length) 0).toArray
    rw [← hw7'] at hI7 hg7
    have HI7 := Lib.hid hI7
    have HBL7 := Lib.hid (HBL6.out.grown hg7 HBL6.out.size (fun k hk => by injection hk with hk; have := HGB.out; have := HWS.out; omega))
    have HCL := Lib.hid hcl
    clear hw7 hw7' hI7 hg7 hcl d2
    go_wp2
    go_ret
    rw [HTS.out]
    exact ⟨_, cap, rfl, by have := HCL.out; have := H1.out; have := HTL.out; omega, HI7.out, HBL7.out⟩
end Go.Proofs.YtmcgnjhjidfkdaaGreat
