/-
  The walk of the law TagSays: it answers true. Condition: the fields and the values lie in memory.
-/
import Derived.Test.YtjmenekhdkpaaaaTq
import Derived.Test.YtjmenekhdkpaaaaTj
namespace Go.Proofs.Ytjmenekhdkpaaaa
open Go.RowKit

theorem beq_self (x : Nat) : ((x : Int) == (x : Int)) = true := by simp
/-- what Put answers, in two -/
theorem putV_parts (r : Option Nat) : ∃ (a : Nat) (b : Bool), putV r = .tuple #[.int .u64 (a : Int), .bool b] := ⟨_, _, rfl⟩
theorem fields_at {A : Option Addr} {cap n : Nat} {l : List Fd} {b : Bool} {w : World} (hn : n = l.length) (hl : n ≤ 1000000) (hL : FdsAt w w.heap.size A l) (hg : good l = b) :
    Calls Try.prog 20 #[.slice A n cap] w fun e w' => e = .returned (.bool b) ∧ Below w.heap.size w w' := by
  subst hn hg
  exact fields_any A cap l w hl hL
theorem good_at {A : Option Addr} {cap n : Nat} {l : List Fd} {b : Bool} {w : World} (hn : n = l.length) (hl : n ≤ 1000000) (hL : FdsAt w w.heap.size A l) (hg : good l = b) :
    Calls Try.prog 10 #[.slice A n cap] w fun e w' => e = .returned (.bool b) ∧ Below w.heap.size w w' := by
  subst hn hg
  exact good_any A cap l w hl hL
theorem putv_at {n m cap cap' : Nat} {A A' : Option Addr} {l : List Fd} {v : List Nat} {w : World} {a : Nat} {b : Bool} (hn : n = l.length) (hm : m = v.length) (hl : n ≤ 1000000) (hv : m ≤ 1000000)
    (hL : FdsAt w w.heap.size A l) (hV : WordsAt w w.heap.size A' v) (hw : ∀ z ∈ v, z ≤ top) (hr : putV (put l v) = .tuple #[.int .u64 (a : Int), .bool b]) :
    Calls Try.prog 9 #[.slice A n cap, .slice A' m cap'] w fun e w' => e = .returned (.tuple #[.int .u64 (a : Int), .bool b]) ∧ Below w.heap.size w w' := by
  subst hn hm
  have := put_any A cap l A' cap' v w hl hL hv hV hw
  rw [hr] at this
  exact this
theorem putf_at {n m cap cap' : Nat} {A A' : Option Addr} {l : List Fd} {v : List Nat} {w : World} {a : Nat} {b : Bool} (hn : n = l.length) (hm : m = v.length) (hl : n ≤ 1000000) (hv : m ≤ 1000000)
    (hL : FdsAt w w.heap.size A l) (hV : WordsAt w w.heap.size A' v) (hw : ∀ z ∈ v, z ≤ top) (hr : putV (put l v) = .tuple #[.int .u64 (a : Int), .bool b]) :
    Calls Try.prog 18 #[.slice A n cap, .slice A' m cap'] w fun e w' => e = .returned (.tuple #[.int .u64 (a : Int), .bool b]) ∧ Below w.heap.size w w' := by
  subst hn hm
  have := putf_any A cap l A' cap' v w hl hL hv hV hw
  rw [hr] at this
  exact this
theorem make_at {v a : Nat} {k : Int} {b : Bool} (hr : putV (mk v k) = .tuple #[.int .u64 (a : Int), .bool b]) (w : World) :
    Calls Try.prog 13 #[.int .u64 (v : Int), .int .i64 k] w fun e w' => e = .returned (.tuple #[.int .u64 (a : Int), .bool b]) ∧ w = w' := by
  have := make_any v k w
  rw [hr] at this
  exact this
theorem ver_at {v a : Nat} {k k' : Int} {b : Bool} (hk : k' = k) (hr : putV (mk v k) = .tuple #[.int .u64 (a : Int), .bool b]) (w : World) :
    Calls Try.prog 19 #[.int .u64 (v : Int), .int .i64 k'] w fun e w' => e = .returned (.tuple #[.int .u64 (a : Int), .bool b]) ∧ w = w' := by
  subst hk
  have := refver_any v k' w
  rw [hr] at this
  exact this
theorem next_at {v z q a : Nat} {b : Bool} (hv : v ≤ top) (hq : v / 281474976710656 = q) (hr : putV (mk z (((q + 1) % 65536 : Nat) : Int)) = .tuple #[.int .u64 (a : Int), .bool b]) (w : World) :
    Calls Try.prog 14 #[.int .u64 (v : Int), .int .u64 (z : Int)] w fun e w' => e = .returned (.tuple #[.int .u64 (a : Int), .bool b]) ∧ w = w' := by
  subst hq
  have := next_any v z hv w
  rw [hr] at this
  exact this
theorem getf_at {z n cap : Nat} {A : Option Addr} {l : List Fd} {g : List Nat} {w : World} (hz : z ≤ top) (hn : n = l.length) (hl : n ≤ 1000000) (hL : FdsAt w w.heap.size A l) (hg : gotten z l = g) :
    Calls Try.prog 22 #[.int .u64 (z : Int), .slice A n cap] w fun e w' => ∃ v, e = .returned v ∧ Words w' v g ∧ Below w.heap.size w w' := by
  subst hn hg
  exact getf_any z A cap l w hz hl hL
theorem restf_at {z r n cap : Nat} {A : Option Addr} {l : List Fd} {w : World} (hz : z ≤ top) (hn : n = l.length) (hl : n ≤ 1000000) (hL : FdsAt w w.heap.size A l) (hr : rest z l = r) :
    Calls Try.prog 23 #[.int .u64 (z : Int), .slice A n cap] w fun e w' => e = .returned (.int .u64 (r : Int)) ∧ Below w.heap.size w w' := by
  subst hn hr
  exact restf_any z A cap l w hz hl hL
theorem pairs_at {n cap : Nat} {A : Option Addr} {l : List Fd} {w : World} (hn : n = l.length) (hl : n ≤ 1000000) (hL : FdsAt w w.heap.size A l) :
    Calls Try.prog 17 #[.slice A n cap] w fun e w' => ∃ A' cap', e = .returned (.slice A' n cap') ∧ FdsAt w' w'.heap.size A' l ∧ Below w.heap.size w w' := by
  subst hn
  refine (pairs_any A cap l w hl hL).mono ?_
  rintro e w' ⟨v, rfl, ⟨A', cap', rfl, h⟩, hb⟩
  exact ⟨A', cap', rfl, h, hb⟩
theorem WordsAt.words {w : World} {A : Option Addr} {cap : Nat} {l : List Nat} (h : WordsAt w w.heap.size A l) : Words w (.slice A l.length cap) l := ⟨A, cap, rfl, h⟩

theorem q_int {z q : Nat} (hq : z / 281474976710656 = q) : (z : Int) / 281474976710656 = (q : Int) := by omega
theorem wrap_small {q : Int} (h0 : 0 ≤ q) (h : q ≤ 65536) : IntKind.u64.wrap q = q := by rw [IntKind.wrap_u64]; omega
theorem wrap64_small {q : Int} (h0 : 0 ≤ q) (h : q ≤ 65536) : wrap64 q = q := by unfold wrap64; omega
theorem vr_fact {z q : Nat} (hq : z / 281474976710656 = q) (hq2 : q ≤ 65535) : (wrap64 (IntKind.u64.wrap (IntKind.u64.wrap ((z : Int) / 281474976710656) + 1))).tmod 65536 = (((q + 1) % 65536 : Nat) : Int) := by
  rw [q_int hq, wrap_small (q := (q : Int)) (by omega) (by omega), wrap_small (by omega) (by omega), wrap64_small (by omega) (by omega), Int.tmod_eq_emod_of_nonneg (by omega)]
  clear hq
  omega
theorem b1_fact {z vv : Nat} (h : z % 281474976710656 = vv) : ((vv : Int) == (z : Int) % 281474976710656) = true := by
  rw [← h]; simp
theorem b2_fact {z q : Nat} (hq : z / 281474976710656 = q) (hq2 : q ≤ 65535) : ((q : Int) == wrap64 (IntKind.u64.wrap ((z : Int) / 281474976710656))) = true := by
  rw [q_int hq, wrap_small (by omega) (by omega), wrap64_small (by omega) (by omega)]; simp

set_option maxRecDepth 100000 in
set_option maxHeartbeats 4000000 in
theorem says_in (A : Option Addr) (cap : Nat) (l : List Fd) (A' : Option Addr) (cap' : Nat) (v : List Nat) (z y : Nat) (k : Int) (w : World) (hl : l.length ≤ 70) (hL : FdsAt w w.heap.size A l)
    (hv : v.length ≤ 70) (hV : WordsAt w w.heap.size A' v) (hw : ∀ x ∈ v, x ≤ top) (hz : z ≤ top) :
    Calls Try.prog 4 #[.slice A l.length cap, .slice A' v.length cap', .int .u64 (z : Int), .int .u64 (y : Int), .int .i64 k] w fun e w' => e = .returned (.bool true) ∧ Below w.heap.size w w' := by
  have LL := Lib.hid hL
  have VV := Lib.hid hV
  have HT := Lib.hid hw
  have HZ := Lib.hid hz
  obtain ⟨n, hn⟩ : ∃ n, n = l.length := ⟨_, rfl⟩
  obtain ⟨m, hm⟩ : ∃ m, m = v.length := ⟨_, rfl⟩
  rw [← hn] at hl ⊢
  rw [← hm] at hv ⊢
  have HN := Lib.hid hn
  have HM := Lib.hid hm
  have d1 : decide ((70 : Int) < (n : Int)) = false := by simp; omega
  have d2 : decide ((70 : Int) < (m : Int)) = false := by simp; omega
  have HNL : Hid (n ≤ 1000000) := Lib.hid (by omega)
  have HML : Hid (m ≤ 1000000) := Lib.hid (by omega)
  obtain ⟨pa, pb, hpp⟩ := putV_parts (put l v)
  obtain ⟨ma, mb, hmm⟩ := putV_parts (mk y k)
  obtain ⟨q, hq⟩ : ∃ q, z / 281474976710656 = q := ⟨_, rfl⟩
  obtain ⟨na, nb, hnn⟩ := putV_parts (mk y (((q + 1) % 65536 : Nat) : Int))
  obtain ⟨vv, hvv⟩ : ∃ vv, z % 281474976710656 = vv := ⟨_, rfl⟩
  obtain ⟨gl, hgl⟩ : ∃ gl, good l = gl := ⟨_, rfl⟩
  obtain ⟨gs, hgs⟩ : ∃ gs, gotten z l = gs := ⟨_, rfl⟩
  obtain ⟨rs, hrs⟩ : ∃ rs, rest z l = rs := ⟨_, rfl⟩
  have HPP := Lib.hid hpp
  have HMM := Lib.hid hmm
  have HQ := Lib.hid hq
  have HNN := Lib.hid hnn
  have HVV := Lib.hid hvv
  have HGL := Lib.hid hgl
  have HGS := Lib.hid hgs
  have HRS := Lib.hid hrs
  have HGN : Hid (gs.length ≤ 1000000) := Lib.hid (by
    rw [← hgs]; unfold gotten
    split
    · unfold gets; rw [List.length_map]; omega
    · exact Nat.zero_le _)
  have hq2 : q ≤ 65535 := by unfold top at hz; omega
  have HVR := Lib.hid (vr_fact hq hq2)
  have b1 := b1_fact hvv
  have b2 := b2_fact hq hq2
  clear hpp hmm hq hnn hvv hgl hgs hrs hn hm hL hV hw hz
  go_enter Try.func4, Try.ntmps4
  go_wp2_with fail
  refine (awake_any _).mono ?_
  rintro e w1 ⟨rfl, hb⟩
  have HB := Lib.hid hb
  have L1 := Lib.hid (LL.out.grow hb)
  have V1 := Lib.hid (VV.out.grow hb)
  clear hb
  go_wp2_with fail
  as_aux_lemma =>
    refine (pairs_at HN.out HNL.out L1.out).mono ?_
    rintro e w2 ⟨AP, capP, rfl, hp, hb⟩
    have HB2 := Lib.hid (below_on HB.out hb)
    have L2 := Lib.hid (L1.out.grow hb)
    have V2 := Lib.hid (V1.out.grow hb)
    have P2 := Lib.hid hp
    clear hb hp
    go_wp2_with fail
    refine (putv_at HN.out HM.out HNL.out HML.out L2.out V2.out HT.out HPP.out).mono ?_
    rintro e w3 ⟨rfl, hb⟩
    have HB3 := Lib.hid (below_on HB2.out hb)
    have L3 := Lib.hid (L2.out.grow hb)
    have V3 := Lib.hid (V2.out.grow hb)
    have P3 := Lib.hid (P2.out.grow hb)
    clear hb
    go_wp2_with fail
    refine (putf_at HN.out HM.out HNL.out HML.out P3.out V3.out HT.out HPP.out).mono ?_
    rintro e w4 ⟨rfl, hb⟩
    have HB4 := Lib.hid (below_on HB3.out hb)
    have L4 := Lib.hid (L3.out.grow hb)
    have P4 := Lib.hid (P3.out.grow hb)
    clear hb
    go_wp2_with fail
    as_aux_lemma =>
      refine (make_at HMM.out _).mono ?_
      rintro e w' ⟨rfl, rfl⟩
      go_wp2_with fail
      refine (ver_at rfl HMM.out _).mono ?_
      rintro e w' ⟨rfl, rfl⟩
      go_wp2_with fail
      refine (next_at HZ.out HQ.out HNN.out _).mono ?_
      rintro e w' ⟨rfl, rfl⟩
      go_wp2_with fail
      refine (ver_at HVR.out HNN.out _).mono ?_
      rintro e w' ⟨rfl, rfl⟩
      go_wp2_with fail
      as_aux_lemma =>
        refine (good_at HN.out HNL.out L4.out HGL.out).mono ?_
        rintro e w5 ⟨rfl, hb⟩
        have HB5 := Lib.hid (below_on HB4.out hb)
        have L5 := Lib.hid (L4.out.grow hb)
        have P5 := Lib.hid (P4.out.grow hb)
        clear hb
        go_wp2_with fail
        refine (fields_at HN.out HNL.out P5.out HGL.out).mono ?_
        rintro e w6 ⟨rfl, hb⟩
        have HB6 := Lib.hid (below_on HB5.out hb)
        have L6 := Lib.hid (L5.out.grow hb)
        have P6 := Lib.hid (P5.out.grow hb)
        clear hb
        go_wp2_with fail
        refine (get_at HZ.out HN.out HNL.out L6.out HGS.out).mono ?_
        rintro e w7 ⟨v7, rfl, hv7, hb⟩
        have HB7 := Lib.hid (below_on HB6.out hb)
        have L7 := Lib.hid (L6.out.grow hb)
        have P7 := Lib.hid (P6.out.grow hb)
        have U7 := Lib.hid hv7
        clear hb hv7
        go_wp2_with fail
        as_aux_lemma =>
          refine (getf_at HZ.out HN.out HNL.out P7.out HGS.out).mono ?_
          rintro e w8 ⟨v8, rfl, hv8, hb⟩
          have HB8 := Lib.hid (below_on HB7.out hb)
          have L8 := Lib.hid (L7.out.grow hb)
          have P8 := Lib.hid (P7.out.grow hb)
          have U8 := Lib.hid (U7.out.below hb)
          have X8 := Lib.hid hv8
          clear hb hv8
          go_wp2_with fail
          refine (words_same _ _ gs _ U8.out X8.out HGN.out).mono ?_
          rintro e w9 ⟨rfl, hb⟩
          have HB9 := Lib.hid (below_on HB8.out hb)
          have L9 := Lib.hid (L8.out.grow hb)
          have P9 := Lib.hid (P8.out.grow hb)
          clear hb
          go_wp2_with fail
          as_aux_lemma =>
            refine (rest_at HZ.out HN.out HNL.out L9.out HRS.out).mono ?_
            rintro e w10 ⟨rfl, hb⟩
            have HB10 := Lib.hid (below_on HB9.out hb)
            have P10 := Lib.hid (P9.out.grow hb)
            clear hb
            go_wp2_with fail
            refine (restf_at HZ.out HN.out HNL.out P10.out HRS.out).mono ?_
            rintro e w11 ⟨rfl, hb⟩
            have HB11 := Lib.hid (below_on HB10.out hb)
            clear hb
            go_wp2_with fail
            as_aux_lemma =>
              refine (value_at HZ.out HVV.out _).mono ?_
              rintro e w' ⟨rfl, rfl⟩
              go_wp2_with fail
              refine (version_any z q HZ.out HQ.out.symm _).mono ?_
              rintro e w' ⟨rfl, rfl⟩
              go_wp2_with fail
              go_ret
              exact ⟨rfl, HB11.out⟩

set_option maxHeartbeats 1000000 in
theorem says_long (A : Option Addr) (cap n : Nat) (A' : Option Addr) (cap' m : Nat) (z y k : Int) (w : World) (h : ¬ (n ≤ 70 ∧ m ≤ 70)) :
    Calls Try.prog 4 #[.slice A n cap, .slice A' m cap', .int .u64 z, .int .u64 y, .int .i64 k] w fun e w' => e = .returned (.bool true) ∧ Below w.heap.size w w' := by
  by_cases h1 : n ≤ 70
  · have d1 : decide ((70 : Int) < (n : Int)) = false := by simp; omega
    have d2 : decide ((70 : Int) < (m : Int)) = true := by simp; omega
    clear h h1
    go_enter Try.func4, Try.ntmps4
    go_wp2_with fail
    refine (awake_any _).mono ?_
    rintro e w1 ⟨rfl, hb⟩
    have HB := Lib.hid hb
    clear hb
    go_wp2
    go_ret
    exact ⟨rfl, HB.out⟩
  · have d1 : decide ((70 : Int) < (n : Int)) = true := by simp; omega
    clear h h1
    go_enter Try.func4, Try.ntmps4
    go_wp2_with fail
    refine (awake_any _).mono ?_
    rintro e w1 ⟨rfl, hb⟩
    have HB := Lib.hid hb
    clear hb
    go_wp2
    go_ret
    exact ⟨rfl, HB.out⟩

theorem says_walk (A : Option Addr) (cap : Nat) (l : List Fd) (A' : Option Addr) (cap' : Nat) (v : List Nat) (x2 x3 x4 : Int) (w : World) (_hl : l.length ≤ maxLen) (hL : FdsAt w w.heap.size A l)
    (_hv : v.length ≤ maxLen) (hV : WordsAt w w.heap.size A' v) (hw : ∀ x ∈ v, x ≤ top) (w2 : (Lit.int .u64 x2).wf = true) (w3 : (Lit.int .u64 x3).wf = true) :
    Calls Try.prog 4 #[.slice A l.length cap, .slice A' v.length cap', .int .u64 x2, .int .u64 x3, .int .i64 x4] w fun e w' => e = .returned (.bool true) ∧ Below w.heap.size w w' := by
  obtain ⟨z, rfl, hz⟩ := word_of w2
  obtain ⟨y, rfl, _⟩ := word_of w3
  by_cases h : l.length ≤ 70 ∧ v.length ≤ 70
  · exact says_in A cap l A' cap' v z y x4 w h.1 hL h.2 hV hw hz
  · exact says_long A cap l.length A' cap' v.length z y x4 w h
end Go.Proofs.Ytjmenekhdkpaaaa
