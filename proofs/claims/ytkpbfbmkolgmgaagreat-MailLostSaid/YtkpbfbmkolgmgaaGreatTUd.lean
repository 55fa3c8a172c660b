/-
  The walks of take's empty and remove, each of which calls the other. Condition: the state lies in two blocks that may be stored into, and may be but for what came of what.
-/
import Derived.Test.YtkpbfbmkolgmgaaGreatTUc
namespace Go.Proofs.YtkpbfbmkolgmgaaGreat
open Go.RowKit
set_option linter.unusedSimpArgs false
set_option linter.unusedVariables false

theorem Ost.slC {W w : World} {s : St} {P Q j : Nat} (h : Ost W w s P Q) (hj : j < s.sl.length) : SlC w P (j * 5) (slAt s.sl j) := by
  have hr := h.sl j hj
  exact ⟨hr 0 _ rfl, hr 1 _ rfl, hr 2 _ rfl, hr 3 _ rfl, hr 4 _ rfl⟩
theorem Ost.thC {W w : World} {s : St} {P Q j : Nat} (h : Ost W w s P Q) (hj : j < s.th.length) : ThC w Q (j * 13) (thAt s.th j) := by
  have hr := h.th j hj
  exact ⟨hr 0 _ rfl, hr 1 _ rfl, hr 2 _ rfl, hr 3 _ rfl, hr 4 _ rfl, hr 5 _ rfl, hr 6 _ rfl, hr 7 _ rfl, hr 8 _ rfl, hr 9 _ rfl, hr 10 _ rfl, hr 11 _ rfl, hr 12 _ rfl⟩
def nodeTo (B i : Nat) : List Nat := (List.range i).map fun j => B + j
theorem nodeTo_succ (B i : Nat) : nodeTo B (i + 1) = nodeTo B i ++ [B + i] := by rw [nodeTo, List.range_succ, List.map_append]; rfl
theorem inNode_to {t : Tng} {B N : Nat} (h2 : t.ty = 2) (hB : t.base = (B : Int)) (hN : tw2 t.bits = (N : Int)) : inNode t = nodeTo B N := by
  rw [inNode, if_pos h2, hB, hN, Int.toNat_natCast, Int.toNat_natCast]
  rfl
def EmpC (f : Nat) : Prop :=
  ∀ {W w : World} {s : St} {a b c : Int} {P n ca Q m cc k : Nat}, OwH W w s a b c P n ca Q m cc → Liv s → k < n → fullN s.sl ≤ f →
    Calls Tryz.prog 141 #[.agg #[.int .i64 a, .int .i64 b, .int .i64 c, .slice (some ⟨P, 0, none⟩) n ca, .slice (some ⟨Q, 0, none⟩) m cc], .int .i64 (k : Int)] w fun e w' => e = .returned (.int .i64 ((empF f s k).2 : Int)) ∧ Ost W w' (empF f s k).1 P Q ∧ Fn2 w w' P Q
def RmRel (W w : World) (g g5 : Nat) (BS TS : List Value) (s : St) (f B P Q N : Nat) (d : Nat) (p q : Value) (wr : World) : Prop :=
  ∃ i : Nat, d + i = N ∧ p = .int .i64 ((runE (empF f) (nodeTo B i) s).2 : Int) ∧ q = .int .i64 i ∧ Ost W wr (runE (empF f) (nodeTo B i) s).1 P Q ∧ Bq wr g BS ∧ Bq wr g5 TS ∧ Fn2 w wr P Q
theorem wrap_two {x y : Nat} (hx : x ≤ 1000000) (hy : y ≤ 1000000) : wrap64 ((x : Int) + (y : Int)) = ((x + y : Nat) : Int) := by rw [w64_in (by omega) (by omega)]; omega
theorem nodeTo_emd {s : St} (L : Liv s) {f B i : Nat} (h : B + i ≤ s.sl.length) : Emd s (runE (empF f) (nodeTo B i) s) :=
  runE_emd (n := s.sl.length) (P := fun j => j < s.sl.length) (fun s2 j L2 hn hj => emp_emd f s2 j L2 (by rw [hn]; exact hj)) _ _ L rfl fun j hj => by
    rw [nodeTo, List.mem_map] at hj
    obtain ⟨x, hx, rfl⟩ := hj
    rw [List.mem_range] at hx
    omega
theorem fullN_le (l : List Sl) : fullN l ≤ l.length := List.countP_le_length
set_option maxRecDepth 100000 in
set_option maxHeartbeats 4000000 in
theorem remove_is {f : Nat} (hE : EmpC f) {W w : World} {s : St} {a b c : Int} {P n ca Q m cc t : Nat} (H : OwH W w s a b c P n ca Q m cc) (ht : t < m) (L : Liv (goneT s t)) (hf : fullN s.sl ≤ f) (htg : (thAt s.th t).good = true) (hnd : (thAt s.th t).ty = 2 → (thAt s.th t).base + tw2 (thAt s.th t).bits ≤ s.sl.length) :
    Calls Tryz.prog 181 #[.agg #[.int .i64 a, .int .i64 b, .int .i64 c, .slice (some ⟨P, 0, none⟩) n ca, .slice (some ⟨Q, 0, none⟩) m cc], .int .i64 (t : Int)] w fun e w' => e = .returned (.int .i64 ((runE (empF f) (inNode (thAt s.th t)) (goneT s t)).2 : Int)) ∧ Ost W w' (runE (empF f) (inNode (thAt s.th t)) (goneT s t)).1 P Q ∧ Fn2 w w' P Q := by
  have k1 := Bq.new w [.int .i64 a, .int .i64 b, .int .i64 c, .slice (some ⟨P, 0, none⟩) n ca, .slice (some ⟨Q, 0, none⟩) m cc] 27
  have hal := below_alloc w (.cells #[.int .i64 a, .int .i64 b, .int .i64 c, .slice (some ⟨P, 0, none⟩) n ca, .slice (some ⟨Q, 0, none⟩) m cc] 27)
  have h1 := H.on hal
  have f1 := Fn2.of hal P Q
  have NE : Hid (w.heap.size ≠ P ∧ w.heap.size ≠ Q) := Lib.hid ⟨by have := H.o.lP; omega, by have := H.o.lQ; omega⟩
  have hm : m = s.th.length := H.hm
  have HN := Lib.hid H.hn
  have HM := Lib.hid hm
  have HFW : Hid (n ≤ 96 ∧ m ≤ 48) := Lib.hid ⟨H.few, H.fewm⟩
  have HTL : Hid (t < s.th.length) := Lib.hid (by omega)
  have HLV := Lib.hid L
  have HFF := Lib.hid hf
  have htm : (t : Int) < (m : Int) := by omega
  obtain ⟨x, hx⟩ : ∃ x, thAt s.th t = x := ⟨_, rfl⟩
  have HX := Lib.hid hx
  rw [hx] at htg hnd ⊢
  obtain ⟨r, hr⟩ : ∃ r, runE (empF f) (inNode x) (goneT s t) = r := ⟨_, rfl⟩
  have HR := Lib.hid hr
  rw [hr]
  clear hr
  have HG := Lib.hid htg
  have HND := Lib.hid hnd
  have HTM := Lib.hid htm
  clear H L hf htg hnd hm hal ht hx
  go_enter Tryz.func181, Tryz.ntmps181
  go_upto_region 1 with fail
  obtain ⟨g, hg⟩ : ∃ g, g = w.heap.size := ⟨_, rfl⟩
  rw [← hg] at k1 NE ⊢
  clear hg
  generalize w.alloc _ = w1 at k1 h1 f1 ⊢
  have K := Lib.hid k1
  have O := Lib.hid h1
  have F := Lib.hid f1
  have n4 := K.out.c 4 _ rfl
  have hC := O.out.o.thC HTL.out
  rw [HX.out] at hC
  clear k1 h1 f1
  obtain ⟨ty, bits, base, size, used, frm, badge, full, word, d0, d1, d2, d3⟩ := x
  obtain ⟨c0, c1, c2, c3, c4, c5, c6, c7, c8, c9, c10, c11, c12⟩ := hC
  simp only at c0 c1 c2 c3 c4 c5 c6 c7 c8 c9 c10 c11 c12
  go_upto_region 2 with fail
  have k5 := Bq.new w1 [.int .i64 ty, .int .i64 bits, .int .i64 base, .int .i64 size, .int .i64 used, .int .i64 frm, .int .i64 badge, .bool full, .int .u64 (word : Int), .int .u64 (d0 : Int), .int .u64 (d1 : Int), .int .u64 (d2 : Int), .int .u64 (d3 : Int)] 67
  have hal := below_alloc w1 (.cells #[.int .i64 ty, .int .i64 bits, .int .i64 base, .int .i64 size, .int .i64 used, .int .i64 frm, .int .i64 badge, .bool full, .int .u64 (word : Int), .int .u64 (d0 : Int), .int .u64 (d1 : Int), .int .u64 (d2 : Int), .int .u64 (d3 : Int)] 67)
  have NE5 : Hid (w1.heap.size ≠ P ∧ w1.heap.size ≠ Q) := Lib.hid ⟨by have := O.out.o.lP; omega, by have := O.out.o.lQ; omega⟩
  replace K := Lib.hid (K.out.on hal)
  replace O := Lib.hid (O.out.on hal)
  replace F := Lib.hid (F.out.trans (Fn2.of hal P Q))
  clear c0 c1 c2 c3 c4 c5 c6 c7 c8 c9 c10 c11 c12 n4 hal
  obtain ⟨g5, hg5⟩ : ∃ g5, g5 = w1.heap.size := ⟨_, rfl⟩
  rw [← hg5] at k5 NE5 ⊢
  clear hg5
  generalize w1.alloc _ = w2 at k5 K O F ⊢
  have K5 := Lib.hid k5
  clear k5
  have n4 := K.out.c 4 _ rfl
  have HT : Hid (w2.there Q (t * 13) (#[.int .i64 0, .int .i64 0, .int .i64 0, .int .i64 0, .int .i64 0, .int .i64 0, .int .i64 0, .bool false, .int .u64 0, .int .u64 0, .int .u64 0, .int .u64 0, .int .u64 0] : Array Value).size) := Lib.hid (O.out.o.thereT HTL.out)
  have HO := Lib.hid (thing_one 0 0 0 0 0 0 0 false 0 0 0 0 0)
  have o2 := O.out.next (O.out.o.putT HTL.out .zero) rfl rfl (List.length_set ..)
  have fq := Fnd.setCells Q [.int .i64 0, .int .i64 0, .int .i64 0, .int .i64 0, .int .i64 0, .int .i64 0, .int .i64 0, .bool false, .int .u64 0, .int .u64 0, .int .u64 0, .int .u64 0, .int .u64 0] (t * 13) w2
  have q2 := K.out.fn2 (Fn2.snd fq P) NE.out.1 NE.out.2
  have q5 := K5.out.fn2 (Fn2.snd fq P) NE5.out.1 NE5.out.2
  have f2 := F.out.trans (Fn2.snd fq P)
  clear K K5 F O fq
  change OwH W (w2.setCells Q (t * 13) [.int .i64 0, .int .i64 0, .int .i64 0, .int .i64 0, .int .i64 0, .int .i64 0, .int .i64 0, .bool false, .int .u64 0, .int .u64 0, .int .u64 0, .int .u64 0, .int .u64 0]) (goneT s t) a b c P n ca Q m cc at o2
  go_upto_region 3 with ((with_reducible change wpList _ _ _ _ _ _); refine wpList_store_mid (by rfl) 67 (.tmp 17) (.tmp 16) (by rfl) Q (t * 13) #[.int .i64 0, .int .i64 0, .int .i64 0, .int .i64 0, .int .i64 0, .int .i64 0, .int .i64 0, .bool false, .int .u64 0, .int .u64 0, .int .u64 0, .int .u64 0, .int .u64 0] (by rfl) (by rfl) HT.out info_thing HO.out ?_; change wpList _ _ _ _ _ (w2.setCells Q (t * 13) [.int .i64 0, .int .i64 0, .int .i64 0, .int .i64 0, .int .i64 0, .int .i64 0, .int .i64 0, .bool false, .int .u64 0, .int .u64 0, .int .u64 0, .int .u64 0, .int .u64 0]); generalize w2.setCells Q (t * 13) _ = w3 at o2 q2 q5 f2 ⊢)
  clear n4 HT HO
  have K := Lib.hid q2
  have K5 := Lib.hid q5
  have O := Lib.hid o2
  have F := Lib.hid f2
  clear q2 q5 o2 f2
  have e0 := K5.out.c 0 _ rfl
  by_cases hty : ty = 2
  · subst hty
    obtain ⟨B, hB⟩ : ∃ B : Nat, base = (B : Int) := by
      have G := tng_good.1 HG.out
      refine ⟨base.toNat, ?_⟩
      cases G with
      | node b s h1 h2 h3 h4 => show base = (base.toNat : Int); omega
    subst hB
    have hbits : bits = 1 ∨ bits = 2 ∨ bits = 3 ∨ bits = 4 := by
      have G := tng_good.1 HG.out
      cases G with
      | node b s h1 h2 h3 h4 => omega
    obtain ⟨N, hN, hN16⟩ : ∃ N : Nat, tw2 bits = (N : Int) ∧ N ≤ 16 := by
      rcases hbits with rfl | rfl | rfl | rfl
      · exact ⟨2, rfl, by omega⟩
      · exact ⟨4, rfl, by omega⟩
      · exact ⟨8, rfl, by omega⟩
      · exact ⟨16, rfl, by omega⟩
    have HTOP : Hid (B + N ≤ s.sl.length) := Lib.hid (by have h := HND.out rfl; simp only at h; rw [hN] at h; omega)
    have HIN : Hid (inNode ⟨2, bits, B, size, used, frm, badge, full, word, d0, d1, d2, d3⟩ = nodeTo B N) := Lib.hid (inNode_to rfl rfl hN)
    have HNV := Lib.hid hN
    have HN16 := Lib.hid hN16
    have e1 := K5.out.c 1 _ rfl
    have HRI : Hid (runE (empF f) (nodeTo B N) (goneT s t) = r) := Lib.hid (by rw [← HR.out, HIN.out])
    clear HND HG hN hN16 HIN HR
    rcases hbits with rfl | rfl | rfl | rfl
    · obtain rfl : N = 2 := by have h := HNV.out; rw [show tw2 1 = 2 from rfl] at h; omega
      clear HNV
      go_wp2_with fail
      clear e0 e1
      go_loopg [6, 24] 2 (fun d p q wr => RmRel W w g g5 [.int .i64 a, .int .i64 b, .int .i64 c, .slice (some ⟨P, 0, none⟩) n ca, .slice (some ⟨Q, 0, none⟩) m cc] [.int .i64 2, .int .i64 1, .int .i64 (B : Int), .int .i64 size, .int .i64 used, .int .i64 frm, .int .i64 badge, .bool full, .int .u64 (word : Int), .int .u64 (d0 : Int), .int .u64 (d1 : Int), .int .u64 (d2 : Int), .int .u64 (d3 : Int)] (goneT s t) f B P Q 2 d p q wr)
      case atStart => exact ⟨0, by omega, rfl, rfl, O.out.o, K.out, K5.out, F.out⟩
      case round =>
        clear K K5 F
        obtain ⟨i, hk, rfl, rfl, hO, hQ, hQ5, hF⟩ := hrel
        have HK := Lib.hid hk
        have hE1 : B + i ≤ (goneT s t).sl.length := by have := HTOP.out; show B + i ≤ s.sl.length; omega
        have E := nodeTo_emd HLV.out (f := f) (B := B) (i := i) hE1
        obtain ⟨⟨s', x⟩, hsx⟩ : ∃ q, runE (empF f) (nodeTo B i) (goneT s t) = q := ⟨_, rfl⟩
        have HSX := Lib.hid hsx
        rw [hsx] at hO E ⊢
        simp only at hO E ⊢
        have ow := O.out.next hO E.g E.sl E.th
        have hful : fullN s'.sl ≤ f ∧ x ≤ 96 := by
          have h1 := E.num
          have h2 := HFF.out
          have h3 := fullN_le s.sl
          have h4 := HN.out
          have h5 := HFW.out.1
          simp only at h1
          change fullN s'.sl + x = fullN s.sl at h1
          omega
        have OW := Lib.hid ow
        have HE2 := Lib.hid E
        have HQ := Lib.hid hQ
        have HQ5 := Lib.hid hQ5
        have HF := Lib.hid hF
        have HFL := Lib.hid hful
        clear hk hO hQ hQ5 hF hsx E ow hful hE1
        by_cases hlt : i < 2
        · have HLT := Lib.hid hlt
          have hlt2 : (i : Int) < 2 := by omega
          have HBI : Hid (B + i < n) := Lib.hid (by have := HTOP.out; rw [HN.out]; omega)
          have hwb : wrap64 ((B : Int) + (i : Int)) = ((B + i : Nat) : Int) := wrap_two (by have := HBI.out; have := HFW.out; omega) (by omega)
          have HW : Hid (wrap64 ((i : Int) + 1) = ((i + 1 : Nat) : Int)) := Lib.hid (by rw [w64_in (by omega) (by omega)]; omega)
          clear hlt
          have t0 := HQ.out.c 0 _ rfl
          have t1 := HQ.out.c 1 _ rfl
          have t2 := HQ.out.c 2 _ rfl
          have t3 := HQ.out.c 3 _ rfl
          have t4 := HQ.out.c 4 _ rfl
          have e2 := HQ5.out.c 2 _ rfl
          go_wp2_with fail
          refine (hE OW.out HE2.out.liv HBI.out HFL.out.1).mono ?_
          rintro e w4 ⟨rfl, o4, f4⟩
          have hy : (empF f s' (B + i)).2 ≤ 96 := by
            have E2 := emp_emd f s' (B + i) HE2.out.liv (by rw [← OW.out.hn]; exact HBI.out)
            have h1 := E2.num
            have h3 := fullN_le s'.sl
            have h4 := OW.out.hn
            have h5 := HFW.out.1
            omega
          have HSN : Hid (runE (empF f) (nodeTo B (i + 1)) (goneT s t) = ((empF f s' (B + i)).1, x + (empF f s' (B + i)).2)) := Lib.hid (by rw [nodeTo_succ, runE_snoc, HSX.out])
          obtain ⟨⟨s2, y⟩, hsy⟩ : ∃ q, empF f s' (B + i) = q := ⟨_, rfl⟩
          rw [hsy] at o4 hy ⊢
          have HSN2 : Hid (runE (empF f) (nodeTo B (i + 1)) (goneT s t) = (s2, x + y)) := Lib.hid (by rw [HSN.out, hsy])
          simp only at o4 hy ⊢
          have hw2 : wrap64 ((x : Int) + (y : Int)) = ((x + y : Nat) : Int) := wrap_two (by have := HFL.out.2; omega) (by omega)
          have O4 := Lib.hid o4
          have Q4 := Lib.hid (HQ.out.fn2 f4 NE.out.1 NE.out.2)
          have Q54 := Lib.hid (HQ5.out.fn2 f4 NE5.out.1 NE5.out.2)
          have F4 := Lib.hid (HF.out.trans f4)
          clear t0 t1 t2 t3 t4 e2 hwb o4 f4 hy hsy HSN hlt2
          go_wp2
          go_roundg (2 - (i + 1))
          case measure => have := HK.out; have := HLT.out; omega
          case rel => exact ⟨i + 1, by have := HLT.out; omega, by rw [HSN2.out]; first | rfl | exact congrArg (Value.int .i64) hw2, by first | go_num | exact congrArg _ HW.out, by rw [HSN2.out]; exact O4.out, Q4.out, Q54.out, F4.out⟩
        · have hlt2 : ¬ (i : Int) < 2 := by omega
          obtain rfl : i = 2 := by have := HK.out; omega
          clear hlt
          go_wp2
          go_ret
          have hr := HRI.out
          rw [HSX.out] at hr
          subst hr
          exact ⟨rfl, OW.out.o, HF.out⟩
    · obtain rfl : N = 4 := by have h := HNV.out; rw [show tw2 2 = 4 from rfl] at h; omega
      clear HNV
      go_wp2_with fail
      clear e0 e1
      go_loopg [6, 24] 4 (fun d p q wr => RmRel W w g g5 [.int .i64 a, .int .i64 b, .int .i64 c, .slice (some ⟨P, 0, none⟩) n ca, .slice (some ⟨Q, 0, none⟩) m cc] [.int .i64 2, .int .i64 2, .int .i64 (B : Int), .int .i64 size, .int .i64 used, .int .i64 frm, .int .i64 badge, .bool full, .int .u64 (word : Int), .int .u64 (d0 : Int), .int .u64 (d1 : Int), .int .u64 (d2 : Int), .int .u64 (d3 : Int)] (goneT s t) f B P Q 4 d p q wr)
      case atStart => exact ⟨0, by omega, rfl, rfl, O.out.o, K.out, K5.out, F.out⟩
      case round =>
        clear K K5 F
        obtain ⟨i, hk, rfl, rfl, hO, hQ, hQ5, hF⟩ := hrel
        have HK := Lib.hid hk
        have hE1 : B + i ≤ (goneT s t).sl.length := by have := HTOP.out; show B + i ≤ s.sl.length; omega
        have E := nodeTo_emd HLV.out (f := f) (B := B) (i := i) hE1
        obtain ⟨⟨s', x⟩, hsx⟩ : ∃ q, runE (empF f) (nodeTo B i) (goneT s t) = q := ⟨_, rfl⟩
        have HSX := Lib.hid hsx
        rw [hsx] at hO E ⊢
        simp only at hO E ⊢
        have ow := O.out.next hO E.g E.sl E.th
        have hful : fullN s'.sl ≤ f ∧ x ≤ 96 := by
          have h1 := E.num
          have h2 := HFF.out
          have h3 := fullN_le s.sl
          have h4 := HN.out
          have h5 := HFW.out.1
          simp only at h1
          change fullN s'.sl + x = fullN s.sl at h1
          omega
        have OW := Lib.hid ow
        have HE2 := Lib.hid E
        have HQ := Lib.hid hQ
        have HQ5 := Lib.hid hQ5
        have HF := Lib.hid hF
        have HFL := Lib.hid hful
        clear hk hO hQ hQ5 hF hsx E ow hful hE1
        by_cases hlt : i < 4
        · have HLT := Lib.hid hlt
          have hlt2 : (i : Int) < 4 := by omega
          have HBI : Hid (B + i < n) := Lib.hid (by have := HTOP.out; rw [HN.out]; omega)
          have hwb : wrap64 ((B : Int) + (i : Int)) = ((B + i : Nat) : Int) := wrap_two (by have := HBI.out; have := HFW.out; omega) (by omega)
          have HW : Hid (wrap64 ((i : Int) + 1) = ((i + 1 : Nat) : Int)) := Lib.hid (by rw [w64_in (by omega) (by omega)]; omega)
          clear hlt
          have t0 := HQ.out.c 0 _ rfl
          have t1 := HQ.out.c 1 _ rfl
          have t2 := HQ.out.c 2 _ rfl
          have t3 := HQ.out.c 3 _ rfl
          have t4 := HQ.out.c 4 _ rfl
          have e2 := HQ5.out.c 2 _ rfl
          go_wp2_with fail
          refine (hE OW.out HE2.out.liv HBI.out HFL.out.1).mono ?_
          rintro e w4 ⟨rfl, o4, f4⟩
          have hy : (empF f s' (B + i)).2 ≤ 96 := by
            have E2 := emp_emd f s' (B + i) HE2.out.liv (by rw [← OW.out.hn]; exact HBI.out)
            have h1 := E2.num
            have h3 := fullN_le s'.sl
            have h4 := OW.out.hn
            have h5 := HFW.out.1
            omega
          have HSN : Hid (runE (empF f) (nodeTo B (i + 1)) (goneT s t) = ((empF f s' (B + i)).1, x + (empF f s' (B + i)).2)) := Lib.hid (by rw [nodeTo_succ, runE_snoc, HSX.out])
          obtain ⟨⟨s2, y⟩, hsy⟩ : ∃ q, empF f s' (B + i) = q := ⟨_, rfl⟩
          rw [hsy] at o4 hy ⊢
          have HSN2 : Hid (runE (empF f) (nodeTo B (i + 1)) (goneT s t) = (s2, x + y)) := Lib.hid (by rw [HSN.out, hsy])
          simp only at o4 hy ⊢
          have hw2 : wrap64 ((x : Int) + (y : Int)) = ((x + y : Nat) : Int) := wrap_two (by have := HFL.out.2; omega) (by omega)
          have O4 := Lib.hid o4
          have Q4 := Lib.hid (HQ.out.fn2 f4 NE.out.1 NE.out.2)
          have Q54 := Lib.hid (HQ5.out.fn2 f4 NE5.out.1 NE5.out.2)
          have F4 := Lib.hid (HF.out.trans f4)
          clear t0 t1 t2 t3 t4 e2 hwb o4 f4 hy hsy HSN hlt2
          go_wp2
          go_roundg (4 - (i + 1))
          case measure => have := HK.out; have := HLT.out; omega
          case rel => exact ⟨i + 1, by have := HLT.out; omega, by rw [HSN2.out]; first | rfl | exact congrArg (Value.int .i64) hw2, by first | go_num | exact congrArg _ HW.out, by rw [HSN2.out]; exact O4.out, Q4.out, Q54.out, F4.out⟩
        · have hlt2 : ¬ (i : Int) < 4 := by omega
          obtain rfl : i = 4 := by have := HK.out; omega
          clear hlt
          go_wp2
          go_ret
          have hr := HRI.out
          rw [HSX.out] at hr
          subst hr
          exact ⟨rfl, OW.out.o, HF.out⟩
    · obtain rfl : N = 8 := by have h := HNV.out; rw [show tw2 3 = 8 from rfl] at h; omega
      clear HNV
      go_wp2_with fail
      clear e0 e1
      go_loopg [6, 24] 8 (fun d p q wr => RmRel W w g g5 [.int .i64 a, .int .i64 b, .int .i64 c, .slice (some ⟨P, 0, none⟩) n ca, .slice (some ⟨Q, 0, none⟩) m cc] [.int .i64 2, .int .i64 3, .int .i64 (B : Int), .int .i64 size, .int .i64 used, .int .i64 frm, .int .i64 badge, .bool full, .int .u64 (word : Int), .int .u64 (d0 : Int), .int .u64 (d1 : Int), .int .u64 (d2 : Int), .int .u64 (d3 : Int)] (goneT s t) f B P Q 8 d p q wr)
      case atStart => exact ⟨0, by omega, rfl, rfl, O.out.o, K.out, K5.out, F.out⟩
      case round =>
        clear K K5 F
        obtain ⟨i, hk, rfl, rfl, hO, hQ, hQ5, hF⟩ := hrel
        have HK := Lib.hid hk
        have hE1 : B + i ≤ (goneT s t).sl.length := by have := HTOP.out; show B + i ≤ s.sl.length; omega
        have E := nodeTo_emd HLV.out (f := f) (B := B) (i := i) hE1
        obtain ⟨⟨s', x⟩, hsx⟩ : ∃ q, runE (empF f) (nodeTo B i) (goneT s t) = q := ⟨_, rfl⟩
        have HSX := Lib.hid hsx
        rw [hsx] at hO E ⊢
        simp only at hO E ⊢
        have ow := O.out.next hO E.g E.sl E.th
        have hful : fullN s'.sl ≤ f ∧ x ≤ 96 := by
          have h1 := E.num
          have h2 := HFF.out
          have h3 := fullN_le s.sl
          have h4 := HN.out
          have h5 := HFW.out.1
          simp only at h1
          change fullN s'.sl + x = fullN s.sl at h1
          omega
        have OW := Lib.hid ow
        have HE2 := Lib.hid E
        have HQ := Lib.hid hQ
        have HQ5 := Lib.hid hQ5
        have HF := Lib.hid hF
        have HFL := Lib.hid hful
        clear hk hO hQ hQ5 hF hsx E ow hful hE1
        by_cases hlt : i < 8
        · have HLT := Lib.hid hlt
          have hlt2 : (i : Int) < 8 := by omega
          have HBI : Hid (B + i < n) := Lib.hid (by have := HTOP.out; rw [HN.out]; omega)
          have hwb : wrap64 ((B : Int) + (i : Int)) = ((B + i : Nat) : Int) := wrap_two (by have := HBI.out; have := HFW.out; omega) (by omega)
          have HW : Hid (wrap64 ((i : Int) + 1) = ((i + 1 : Nat) : Int)) := Lib.hid (by rw [w64_in (by omega) (by omega)]; omega)
          clear hlt
          have t0 := HQ.out.c 0 _ rfl
          have t1 := HQ.out.c 1 _ rfl
          have t2 := HQ.out.c 2 _ rfl
          have t3 := HQ.out.c 3 _ rfl
          have t4 := HQ.out.c 4 _ rfl
          have e2 := HQ5.out.c 2 _ rfl
          go_wp2_with fail
          refine (hE OW.out HE2.out.liv HBI.out HFL.out.1).mono ?_
          rintro e w4 ⟨rfl, o4, f4⟩
          have hy : (empF f s' (B + i)).2 ≤ 96 := by
            have E2 := emp_emd f s' (B + i) HE2.out.liv (by rw [← OW.out.hn]; exact HBI.out)
            have h1 := E2.num
            have h3 := fullN_le s'.sl
            have h4 := OW.out.hn
            have h5 := HFW.out.1
            omega
          have HSN : Hid (runE (empF f) (nodeTo B (i + 1)) (goneT s t) = ((empF f s' (B + i)).1, x + (empF f s' (B + i)).2)) := Lib.hid (by rw [nodeTo_succ, runE_snoc, HSX.out])
          obtain ⟨⟨s2, y⟩, hsy⟩ : ∃ q, empF f s' (B + i) = q := ⟨_, rfl⟩
          rw [hsy] at o4 hy ⊢
          have HSN2 : Hid (runE (empF f) (nodeTo B (i + 1)) (goneT s t) = (s2, x + y)) := Lib.hid (by rw [HSN.out, hsy])
          simp only at o4 hy ⊢
          have hw2 : wrap64 ((x : Int) + (y : Int)) = ((x + y : Nat) : Int) := wrap_two (by have := HFL.out.2; omega) (by omega)
          have O4 := Lib.hid o4
          have Q4 := Lib.hid (HQ.out.fn2 f4 NE.out.1 NE.out.2)
          have Q54 := Lib.hid (HQ5.out.fn2 f4 NE5.out.1 NE5.out.2)
          have F4 := Lib.hid (HF.out.trans f4)
          clear t0 t1 t2 t3 t4 e2 hwb o4 f4 hy hsy HSN hlt2
          go_wp2
          go_roundg (8 - (i + 1))
          case measure => have := HK.out; have := HLT.out; omega
          case rel => exact ⟨i + 1, by have := HLT.out; omega, by rw [HSN2.out]; first | rfl | exact congrArg (Value.int .i64) hw2, by first | go_num | exact congrArg _ HW.out, by rw [HSN2.out]; exact O4.out, Q4.out, Q54.out, F4.out⟩
        · have hlt2 : ¬ (i : Int) < 8 := by omega
          obtain rfl : i = 8 := by have := HK.out; omega
          clear hlt
          go_wp2
          go_ret
          have hr := HRI.out
          rw [HSX.out] at hr
          subst hr
          exact ⟨rfl, OW.out.o, HF.out⟩
    · obtain rfl : N = 16 := by have h := HNV.out; rw [show tw2 4 = 16 from rfl] at h; omega
      clear HNV
      go_wp2_with fail
      clear e0 e1
      go_loopg [6, 24] 16 (fun d p q wr => RmRel W w g g5 [.int .i64 a, .int .i64 b, .int .i64 c, .slice (some ⟨P, 0, none⟩) n ca, .slice (some ⟨Q, 0, none⟩) m cc] [.int .i64 2, .int .i64 4, .int .i64 (B : Int), .int .i64 size, .int .i64 used, .int .i64 frm, .int .i64 badge, .bool full, .int .u64 (word : Int), .int .u64 (d0 : Int), .int .u64 (d1 : Int), .int .u64 (d2 : Int), .int .u64 (d3 : Int)] (goneT s t) f B P Q 16 d p q wr)
      case atStart => exact ⟨0, by omega, rfl, rfl, O.out.o, K.out, K5.out, F.out⟩
      case round =>
        clear K K5 F
        obtain ⟨i, hk, rfl, rfl, hO, hQ, hQ5, hF⟩ := hrel
        have HK := Lib.hid hk
        have hE1 : B + i ≤ (goneT s t).sl.length := by have := HTOP.out; show B + i ≤ s.sl.length; omega
        have E := nodeTo_emd HLV.out (f := f) (B := B) (i := i) hE1
        obtain ⟨⟨s', x⟩, hsx⟩ : ∃ q, runE (empF f) (nodeTo B i) (goneT s t) = q := ⟨_, rfl⟩
        have HSX := Lib.hid hsx
        rw [hsx] at hO E ⊢
        simp only at hO E ⊢
        have ow := O.out.next hO E.g E.sl E.th
        have hful : fullN s'.sl ≤ f ∧ x ≤ 96 := by
          have h1 := E.num
          have h2 := HFF.out
          have h3 := fullN_le s.sl
          have h4 := HN.out
          have h5 := HFW.out.1
          simp only at h1
          change fullN s'.sl + x = fullN s.sl at h1
          omega
        have OW := Lib.hid ow
        have HE2 := Lib.hid E
        have HQ := Lib.hid hQ
        have HQ5 := Lib.hid hQ5
        have HF := Lib.hid hF
        have HFL := Lib.hid hful
        clear hk hO hQ hQ5 hF hsx E ow hful hE1
        by_cases hlt : i < 16
        · have HLT := Lib.hid hlt
          have hlt2 : (i : Int) < 16 := by omega
          have HBI : Hid (B + i < n) := Lib.hid (by have := HTOP.out; rw [HN.out]; omega)
          have hwb : wrap64 ((B : Int) + (i : Int)) = ((B + i : Nat) : Int) := wrap_two (by have := HBI.out; have := HFW.out; omega) (by omega)
          have HW : Hid (wrap64 ((i : Int) + 1) = ((i + 1 : Nat) : Int)) := Lib.hid (by rw [w64_in (by omega) (by omega)]; omega)
          clear hlt
          have t0 := HQ.out.c 0 _ rfl
          have t1 := HQ.out.c 1 _ rfl
          have t2 := HQ.out.c 2 _ rfl
          have t3 := HQ.out.c 3 _ rfl
          have t4 := HQ.out.c 4 _ rfl
          have e2 := HQ5.out.c 2 _ rfl
          go_wp2_with fail
          refine (hE OW.out HE2.out.liv HBI.out HFL.out.1).mono ?_
          rintro e w4 ⟨rfl, o4, f4⟩
          have hy : (empF f s' (B + i)).2 ≤ 96 := by
            have E2 := emp_emd f s' (B + i) HE2.out.liv (by rw [← OW.out.hn]; exact HBI.out)
            have h1 := E2.num
            have h3 := fullN_le s'.sl
            have h4 := OW.out.hn
            have h5 := HFW.out.1
            omega
          have HSN : Hid (runE (empF f) (nodeTo B (i + 1)) (goneT s t) = ((empF f s' (B + i)).1, x + (empF f s' (B + i)).2)) := Lib.hid (by rw [nodeTo_succ, runE_snoc, HSX.out])
          obtain ⟨⟨s2, y⟩, hsy⟩ : ∃ q, empF f s' (B + i) = q := ⟨_, rfl⟩
          rw [hsy] at o4 hy ⊢
          have HSN2 : Hid (runE (empF f) (nodeTo B (i + 1)) (goneT s t) = (s2, x + y)) := Lib.hid (by rw [HSN.out, hsy])
          simp only at o4 hy ⊢
          have hw2 : wrap64 ((x : Int) + (y : Int)) = ((x + y : Nat) : Int) := wrap_two (by have := HFL.out.2; omega) (by omega)
          have O4 := Lib.hid o4
          have Q4 := Lib.hid (HQ.out.fn2 f4 NE.out.1 NE.out.2)
          have Q54 := Lib.hid (HQ5.out.fn2 f4 NE5.out.1 NE5.out.2)
          have F4 := Lib.hid (HF.out.trans f4)
          clear t0 t1 t2 t3 t4 e2 hwb o4 f4 hy hsy HSN hlt2
          go_wp2
          go_roundg (16 - (i + 1))
          case measure => have := HK.out; have := HLT.out; omega
          case rel => exact ⟨i + 1, by have := HLT.out; omega, by rw [HSN2.out]; first | rfl | exact congrArg (Value.int .i64) hw2, by first | go_num | exact congrArg _ HW.out, by rw [HSN2.out]; exact O4.out, Q4.out, Q54.out, F4.out⟩
        · have hlt2 : ¬ (i : Int) < 16 := by omega
          obtain rfl : i = 16 := by have := HK.out; omega
          clear hlt
          go_wp2
          go_ret
          have hr := HRI.out
          rw [HSX.out] at hr
          subst hr
          exact ⟨rfl, OW.out.o, HF.out⟩
  · have h2' : (ty != 2) = true := by rw [bne_iff_ne]; exact hty
    have HIN : Hid (inNode ⟨ty, bits, base, size, used, frm, badge, full, word, d0, d1, d2, d3⟩ = []) := Lib.hid (by rw [inNode, if_neg hty])
    clear hty
    have HRI : Hid (r = (goneT s t, 0)) := Lib.hid (by rw [← HR.out, HIN.out, runE_nil])
    go_wp2
    go_ret
    rw [HRI.out]
    exact ⟨rfl, O.out.o, F.out⟩
theorem fullN_pos {l : List Sl} {k : Nat} (hk : k < l.length) (h : (slAt l k).c.non = false) : 0 < fullN l := by
  refine Nat.pos_of_ne_zero fun e => ?_
  have := full_zero e hk
  rw [h] at this
  cases this
set_option maxRecDepth 100000 in
set_option maxHeartbeats 4000000 in
theorem empty_step {f : Nat} (hE : ∀ f', f = f' + 1 → EmpC f') : EmpC f := by
  intro W w s a b c P n ca Q m cc k H L hk hf
  have k1 := Bq.new w [.int .i64 a, .int .i64 b, .int .i64 c, .slice (some ⟨P, 0, none⟩) n ca, .slice (some ⟨Q, 0, none⟩) m cc] 27
  have hal := below_alloc w (.cells #[.int .i64 a, .int .i64 b, .int .i64 c, .slice (some ⟨P, 0, none⟩) n ca, .slice (some ⟨Q, 0, none⟩) m cc] 27)
  have h1 := H.on hal
  have f1 := Fn2.of hal P Q
  have NE : Hid (w.heap.size ≠ P ∧ w.heap.size ≠ Q) := Lib.hid ⟨by have := H.o.lP; omega, by have := H.o.lQ; omega⟩
  have hn : n = s.sl.length := H.hn
  have HN := Lib.hid hn
  have HFW : Hid (n ≤ 96 ∧ m ≤ 48) := Lib.hid ⟨H.few, H.fewm⟩
  have HGT : Hid (s.g = ⟨a, b, c⟩ ∧ 0 ≤ a ∧ a ≤ 4) := Lib.hid (by
    have h := Gd.ok_iff.1 L.ok
    have e := H.hg
    rw [e] at h
    simp only at h
    exact ⟨e, by omega, by omega⟩)
  have HKL : Hid (k < s.sl.length) := Lib.hid (by omega)
  have HLV := Lib.hid L
  have HFF := Lib.hid hf
  have hkn : (k : Int) < (n : Int) := by omega
  obtain ⟨x, hx⟩ : ∃ x, slAt s.sl k = x := ⟨_, rfl⟩
  have HX := Lib.hid hx
  obtain ⟨r, hr⟩ : ∃ r, empF f s k = r := ⟨_, rfl⟩
  have HR := Lib.hid hr
  rw [hr]
  clear H L hf hn hal hk hx hr
  go_enter Tryz.func141, Tryz.ntmps141
  go_upto_region 1 with fail
  obtain ⟨g, hg⟩ : ∃ g, g = w.heap.size := ⟨_, rfl⟩
  rw [← hg] at k1 NE ⊢
  clear hg
  generalize w.alloc _ = w1 at k1 h1 f1 ⊢
  have K := Lib.hid k1
  have O := Lib.hid h1
  have F := Lib.hid f1
  have n3 := K.out.c 3 _ rfl
  have hC := O.out.o.slC HKL.out
  rw [HX.out] at hC
  clear k1 h1 f1
  obtain ⟨⟨hy, hh, hri, hba⟩, up⟩ := x
  obtain ⟨c0, c1, c2, c3, c4⟩ := hC
  simp only at c0 c1 c2 c3 c4
  go_upto_region 2 with fail
  have k5 := Bq.new w1 [.int .i64 hy, .int .i64 hh, .int .i64 hri, .int .i64 hba, .int .i64 up] 64
  have hal := below_alloc w1 (.cells #[.int .i64 hy, .int .i64 hh, .int .i64 hri, .int .i64 hba, .int .i64 up] 64)
  have NE5 : Hid (w1.heap.size ≠ P ∧ w1.heap.size ≠ Q) := Lib.hid ⟨by have := O.out.o.lP; omega, by have := O.out.o.lQ; omega⟩
  replace K := Lib.hid (K.out.on hal)
  replace O := Lib.hid (O.out.on hal)
  replace F := Lib.hid (F.out.trans (Fn2.of hal P Q))
  clear c0 c1 c2 c3 c4 n3 hal
  obtain ⟨g5, hg5⟩ : ∃ g5, g5 = w1.heap.size := ⟨_, rfl⟩
  rw [← hg5] at k5 NE5 ⊢
  clear hg5
  generalize w1.alloc _ = w2 at k5 K O F ⊢
  have K5 := Lib.hid k5
  clear k5
  obtain ⟨z, hz⟩ : ∃ z, Cp.non ⟨hy, hh, hri, hba⟩ = z := ⟨_, rfl⟩
  have HZ := Lib.hid hz
  have e0 := K5.out.c 0 _ rfl
  have e1 := K5.out.c 1 _ rfl
  have e2 := K5.out.c 2 _ rfl
  have e3 := K5.out.c 3 _ rfl
  clear hz
  go_wp2_with fail
  refine (non_at HZ.out w2).mono ?_
  rintro e w3 ⟨rfl, hb⟩
  replace K := Lib.hid (K.out.on hb)
  replace K5 := Lib.hid (K5.out.on hb)
  replace O := Lib.hid (O.out.on hb)
  replace F := Lib.hid (F.out.trans (Fn2.of hb P Q))
  clear e0 e1 e2 e3 hb
  rcases z with _ | _
  case true =>
    have HRR : Hid (r = (s, 0)) := Lib.hid (by rw [← HR.out]; exact emp_none (by rw [HX.out]; exact HZ.out))
    go_wp2
    go_ret
    rw [HRR.out]
    exact ⟨rfl, O.out.o, F.out⟩
  case false =>
    have HNON : Hid ((slAt s.sl k).c.non = false) := Lib.hid (by rw [HX.out]; exact HZ.out)
    obtain ⟨f', hf'⟩ : ∃ f', f = f' + 1 := ⟨f - 1, by have := fullN_pos HKL.out HNON.out; have := HFF.out; omega⟩
    have HE : Hid (EmpC f') := Lib.hid (hE f' hf')
    subst hf'
    clear hE
    obtain ⟨t, rfl⟩ : ∃ t : Nat, hh = (t : Int) := by
      have h := (HLV.out.full k HKL.out HNON.out).1
      rw [HX.out] at h
      exact ⟨hh.toNat, by simp only at h; omega⟩
    have HTL : Hid (t < s.th.length) := Lib.hid (by
      have h := (HLV.out.full k HKL.out HNON.out).2.1
      rw [HX.out] at h
      simpa using h)
    have n3 := K.out.c 3 _ rfl
    have HT : Hid (w3.there P (k * 5) (#[.int .i64 0, .int .i64 0, .int .i64 0, .int .i64 0, .int .i64 (-1)] : Array Value).size) := Lib.hid (O.out.o.thereS HKL.out)
    have HO := Lib.hid (slot_one 0 0 0 0 (-1))
    have o4 := O.out.next (O.out.o.putS HKL.out ⟨.none, -1⟩) rfl (List.length_set ..) rfl
    have fq := Fnd.setCells P [.int .i64 0, .int .i64 0, .int .i64 0, .int .i64 0, .int .i64 (-1)] (k * 5) w3
    have q4 := K.out.fn2 (Fn2.fst fq Q) NE.out.1 NE.out.2
    have q5 := K5.out.fn2 (Fn2.fst fq Q) NE5.out.1 NE5.out.2
    have f4 := F.out.trans (Fn2.fst fq Q)
    clear K K5 F O fq
    change OwH W (w3.setCells P (k * 5) [.int .i64 0, .int .i64 0, .int .i64 0, .int .i64 0, .int .i64 (-1)]) ⟨s.g, s.sl.set k ⟨.none, -1⟩, s.th⟩ a b c P n ca Q m cc at o4
    go_upto_region 5 with ((with_reducible change wpList _ _ _ _ _ _); refine wpList_store_mid (by rfl) 64 (.tmp 18) (.tmp 17) (by rfl) P (k * 5) #[.int .i64 0, .int .i64 0, .int .i64 0, .int .i64 0, .int .i64 (-1)] (by rfl) (by rfl) HT.out info_slot HO.out ?_; change wpList _ _ _ _ _ (w3.setCells P (k * 5) [.int .i64 0, .int .i64 0, .int .i64 0, .int .i64 0, .int .i64 (-1)]); generalize w3.setCells P (k * 5) _ = w4 at o4 q4 q5 f4 ⊢)
    clear n3 HT HO
    have K := Lib.hid q4
    have K5 := Lib.hid q5
    have O := Lib.hid o4
    have F := Lib.hid f4
    clear q4 q5 o4 f4
    have t0 := K.out.c 0 _ rfl
    have t1 := K.out.c 1 _ rfl
    have t2 := K.out.c 2 _ rfl
    have t3 := K.out.c 3 _ rfl
    have t4 := K.out.c 4 _ rfl
    have e4 := K5.out.c 4 _ rfl
    go_wp2_with fail
    refine (tell_is O.out (by have := HFW.out; have := HKL.out; rw [← HN.out] at this; omega)).mono ?_
    rintro e w5 ⟨rfl, o5, f5⟩
    have o6 := O.out.next (s' := cutS s k) (by
      have e : cutS s k = tellS ⟨s.g, s.sl.set k ⟨.none, -1⟩, s.th⟩ k up := by rw [cutS, HX.out]; rfl
      rw [e]; exact o5) rfl (by rw [cut_sl]; exact (List.length_set ..).symm) (by rw [cut_th])
    replace K := Lib.hid (K.out.fn2 f5 NE.out.1 NE.out.2)
    replace K5 := Lib.hid (K5.out.fn2 f5 NE5.out.1 NE5.out.2)
    replace F := Lib.hid (F.out.trans f5)
    have O6 := Lib.hid o6
    clear O o5 f5 o6 t0 t1 t2 t3 t4 e4
    obtain ⟨zr, hzr⟩ : ∃ z, rootZ s (t : Int) = z := ⟨_, rfl⟩
    have HZR := Lib.hid hzr
    clear hzr
    have t0 := K.out.c 0 _ rfl
    have t1 := K.out.c 1 _ rfl
    have t2 := K.out.c 2 _ rfl
    have t3 := K.out.c 3 _ rfl
    have t4 := K.out.c 4 _ rfl
    have e1 := K5.out.c 1 _ rfl
    go_wp2_with fail
    refine (isroot_is (s := s) HGT.out.1 HGT.out.2.1 HGT.out.2.2 HZR.out).mono ?_
    rintro e w6 ⟨rfl, hb⟩
    replace K := Lib.hid (K.out.on hb)
    replace K5 := Lib.hid (K5.out.on hb)
    replace O6 := Lib.hid (O6.out.on hb)
    replace F := Lib.hid (F.out.trans (Fn2.of hb P Q))
    clear hb t0 t1 t2 t3 t4 e1
    rcases zr with _ | _
    case true =>
      have HRR : Hid (r = (cutS s k, 1)) := Lib.hid (by rw [← HR.out]; exact emp_kept HNON.out (by rw [HX.out]; simp only; rw [HZR.out]; rfl))
      go_wp2
      go_ret
      rw [HRR.out]
      exact ⟨rfl, O6.out.o, F.out⟩
    case false =>
      obtain ⟨zh, hzh⟩ : ∃ z, heldZ (cutS s k).sl (t : Int) = z := ⟨_, rfl⟩
      have HZH := Lib.hid hzh
      clear hzh
      have t0 := K.out.c 0 _ rfl
      have t1 := K.out.c 1 _ rfl
      have t2 := K.out.c 2 _ rfl
      have t3 := K.out.c 3 _ rfl
      have t4 := K.out.c 4 _ rfl
      have e1 := K5.out.c 1 _ rfl
      go_wp2_with fail
      refine (isheld_is O6.out.sth HZH.out).mono ?_
      rintro e w7 ⟨rfl, hb⟩
      replace K := Lib.hid (K.out.on hb)
      replace K5 := Lib.hid (K5.out.on hb)
      replace O6 := Lib.hid (O6.out.on hb)
      replace F := Lib.hid (F.out.trans (Fn2.of hb P Q))
      clear hb t0 t1 t2 t3 t4 e1
      rcases zh with _ | _
      case true =>
        have HRR : Hid (r = (cutS s k, 1)) := Lib.hid (by rw [← HR.out]; exact emp_kept HNON.out (by rw [HX.out]; simp only; rw [HZH.out, Bool.or_true]))
        go_wp2
        go_ret
        rw [HRR.out]
        exact ⟨rfl, O6.out.o, F.out⟩
      case false =>
        have HRR : Hid (r = ((runE (empF f') (inNode (thAt (cutS s k).th t)) (goneT (cutS s k) t)).1, 1 + (runE (empF f') (inNode (thAt (cutS s k).th t)) (goneT (cutS s k) t)).2)) := Lib.hid (by
          have h := emp_gone (f := f') HNON.out (by rw [HX.out]; simp only; rw [HZR.out, HZH.out]; rfl)
          rw [← HR.out, h, HX.out, Int.toNat_natCast])
        have HLG : Hid (Liv (goneT (cutS s k) t)) := Lib.hid (HLV.out.gone HKL.out t (by rw [HX.out]) HNON.out HZR.out HZH.out)
        have HFU : Hid (fullN (cutS s k).sl ≤ f') := Lib.hid (by have := cut_full HKL.out HNON.out; have := HFF.out; omega)
        have t0 := K.out.c 0 _ rfl
        have t1 := K.out.c 1 _ rfl
        have t2 := K.out.c 2 _ rfl
        have t3 := K.out.c 3 _ rfl
        have t4 := K.out.c 4 _ rfl
        have e1 := K5.out.c 1 _ rfl
        go_wp2_with fail
        refine (remove_is HE.out O6.out (by rw [O6.out.hm, cut_th]; exact HTL.out) HLG.out HFU.out (by rw [cut_thAt]; exact tx_good (HLV.out.tok t HTL.out)) (by rw [cut_thAt, cut_sl]; exact HLV.out.nd t HTL.out)).mono ?_
        rintro e w8 ⟨rfl, o8, f8⟩
        have hy : (runE (empF f') (inNode (thAt (cutS s k).th t)) (goneT (cutS s k) t)).2 ≤ 96 := by
          have E2 := runE_emd (e := empF f') (n := s.sl.length) (P := fun j => j < s.sl.length) (fun s2 j L2 hn hj => emp_emd f' s2 j L2 (by rw [hn]; exact hj)) (inNode (thAt (cutS s k).th t)) _ HLG.out (cut_sl s k) fun j hj => (by rw [cut_thAt, inNode_tx] at hj; exact inNode_lt HLV.out HTL.out hj)
          have h1 := E2.num
          have h3 := fullN_le (goneT (cutS s k) t).sl
          have h4 : (goneT (cutS s k) t).sl.length = s.sl.length := cut_sl s k
          have h5 := HFW.out.1
          have h6 := HN.out
          omega
        generalize runE (empF f') (inNode (thAt (cutS s k).th t)) (goneT (cutS s k) t) = q at o8 hy HRR ⊢
        obtain ⟨s8, y⟩ := q
        simp only at o8 hy HRR ⊢
        have hw2 : wrap64 (1 + (y : Int)) = ((1 + y : Nat) : Int) := by rw [w64_in (by omega) (by omega)]; omega
        have O8 := Lib.hid o8
        have F8 := Lib.hid (F.out.trans f8)
        clear o8 f8 hy t0 t1 t2 t3 t4 e1
        go_wp2
        go_ret
        rw [HRR.out]
        exact ⟨by first | rfl | (rw [← hw2]; rfl), O8.out, F8.out⟩
theorem empty_all : ∀ f, EmpC f
  | 0 => empty_step fun f' h => absurd h (by omega)
  | f + 1 => empty_step fun f' h => by
    obtain rfl : f = f' := by omega
    exact empty_all f
end Go.Proofs.YtkpbfbmkolgmgaaGreat
